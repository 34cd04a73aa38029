/-
  Plain mathematics of the field of 256 (polynomial 0x11D) that the proofs of stage 1 use: doubling, the powers of two and their logarithms, the product bit by bit; nothing of any program is imported here.
-/
namespace Go.Proofs.Ytbfhmdphhhjlnaa.Gf

/-- a times two. -/
def dbl (a : Nat) : Nat := if a < 128 then a * 2 else (a * 2 - 256) ^^^ 29

/-- The powers of two, eight bits each. -/
def expBits : Nat := 70160881166704368827218703435136616750530459438269794890424969378298545675077208731798828898087927652446353395360628748027273188182808436399538186061104243134188885576122562338679313492324190829158544377810568631194580132524405266702234305646236648896994794467054525044798919765581988418950285252905306116225263236585714808161311289784028762024137133735135393922581566890382566480334369299400480864790538739986285574563168380416343369614948461817839620668187777978661530364712890858126432457562886306102556561631759900551331094983229723298224611133722330829711659991602983068895685602467964643306841827719562658305
/-- The logarithms, eight bits each. -/
def logBits : Nat := 22135253156888987530748098150270024343632497605293634117281264061560962248099620766229961468867162294233796152347975563017024165690400661622462404646302566225833645086064538892198543335321514950294300187779610338557442029018619797274438901674641748676613670242915365385819254959901651105240253464034662486586186382979728982817772067067513442677601938078891989292316012868233806586592927239821351197800766822366321181463280924672822998103315976779850880337712374790938628529953751181886374687897611504386983350015558142994211516619836411558782076806704747441947939324473761869443721989389604670425385080942269787340800

def E (n : Nat) : Nat := (expBits >>> (8 * (n % 255))) % 256
def L (a : Nat) : Nat := (logBits >>> (8 * a)) % 256

/-- The product, bit by bit. -/
def Mf : Nat → Nat → Nat → Nat
  | 0, _, _ => 0
  | f + 1, a, b => (if b % 2 = 1 then a else 0) ^^^ Mf f (dbl a) (b / 2)
def M (a b : Nat) : Nat := Mf 8 a b

theorem E_lt (n : Nat) : E n < 256 := by unfold E; omega
theorem L_lt' (a : Nat) : L a < 256 := by unfold L; omega
theorem E_mod (n : Nat) : E (n % 255) = E n := by unfold E; rw [Nat.mod_mod]
theorem E_period (n : Nat) : E (n + 255) = E n := by unfold E; rw [Nat.add_mod_right]

theorem E_all : ∀ i, i < 255 → 0 < E i ∧ E (i + 1) = dbl (E i) ∧ L (E i) = i := by decide +kernel
theorem L_all : ∀ a, a < 256 → 0 < a → L a < 255 ∧ E (L a) = a := by decide +kernel
theorem dbl_all : ∀ a, a < 256 → dbl a < 256 := by decide +kernel
theorem dbl_xor_all : ∀ a, a < 256 → ∀ b, b < 256 → dbl (a ^^^ b) = dbl a ^^^ dbl b := by decide +kernel
theorem M_one_all : ∀ b, b < 256 → M 1 b = b := by decide +kernel

theorem E_pos (n : Nat) : 0 < E n := by rw [← E_mod]; exact (E_all _ (Nat.mod_lt _ (by decide))).1
theorem E_succ (n : Nat) : E (n + 1) = dbl (E n) := by
  rw [← E_mod n, ← (E_all _ (Nat.mod_lt n (by decide))).2.1]
  unfold E; rw [Nat.mod_add_mod]
theorem L_E (n : Nat) : L (E n) = n % 255 := by rw [← E_mod]; exact (E_all _ (Nat.mod_lt n (by decide))).2.2
theorem L_lt {a : Nat} (h : a < 256) (h0 : 0 < a) : L a < 255 := (L_all a h h0).1
theorem E_L {a : Nat} (h : a < 256) (h0 : 0 < a) : E (L a) = a := (L_all a h h0).2
theorem E_zero : E 0 = 1 := by decide +kernel
theorem L_zero : L 0 = 0 := by decide +kernel
theorem dbl_lt {a : Nat} (h : a < 256) : dbl a < 256 := dbl_all a h
theorem xor_lt {a b : Nat} (h : a < 256) (k : b < 256) : a ^^^ b < 256 := Nat.xor_lt_two_pow (n := 8) h k
theorem dbl_xor {a b : Nat} (h : a < 256) (k : b < 256) : dbl (a ^^^ b) = dbl a ^^^ dbl b := dbl_xor_all a h b k

theorem Mf_lt (f : Nat) : ∀ a b, a < 256 → Mf f a b < 256 := by
  induction f with
  | zero => intro a b _; show 0 < 256; omega
  | succ f ih =>
    intro a b h
    show (if b % 2 = 1 then a else 0) ^^^ Mf f (dbl a) (b / 2) < 256
    refine xor_lt ?_ (ih _ _ (dbl_lt h))
    split <;> omega
theorem M_lt {a : Nat} (b : Nat) (h : a < 256) : M a b < 256 := Mf_lt 8 a b h

theorem Mf_zero (f : Nat) : ∀ a, Mf f a 0 = 0 := by
  induction f with
  | zero => intro a; rfl
  | succ f ih => intro a; show (if 0 % 2 = 1 then a else 0) ^^^ Mf f (dbl a) (0 / 2) = 0; rw [ih]; simp

theorem Mf_dbl (f : Nat) : ∀ a b, a < 256 → Mf f (dbl a) b = dbl (Mf f a b) := by
  induction f with
  | zero => intro a b _; rfl
  | succ f ih =>
    intro a b h
    show (if b % 2 = 1 then dbl a else 0) ^^^ Mf f (dbl (dbl a)) (b / 2) = dbl ((if b % 2 = 1 then a else 0) ^^^ Mf f (dbl a) (b / 2))
    rw [dbl_xor (by split <;> omega) (Mf_lt f _ _ (dbl_lt h)), ih _ _ (dbl_lt h)]
    split <;> rfl

theorem M_E (i b : Nat) (h : b < 256) : M (E i) b = if b = 0 then 0 else E (i + L b) := by
  split
  · rename_i e; subst e; exact Mf_zero 8 _
  · rename_i e
    induction i with
    | zero => rw [E_zero, M_one_all b h, Nat.zero_add, E_L h (by omega)]
    | succ i ih =>
      rw [E_succ]; unfold M at ih ⊢
      rw [Mf_dbl 8 _ _ (E_lt i), ih, ← E_succ]; congr 1; omega

theorem M_zero_left (b : Nat) : M 0 b = 0 := by
  have : ∀ f b, Mf f 0 b = 0 := by
    intro f; induction f with
    | zero => intro b; rfl
    | succ f ih =>
      intro b; show (if b % 2 = 1 then 0 else 0) ^^^ Mf f (dbl 0) (b / 2) = 0
      have e : dbl 0 = 0 := rfl
      rw [e, ih]; split <;> rfl
  exact this 8 b
theorem M_zero_right (a : Nat) : M a 0 = 0 := Mf_zero 8 a

/-- The product by way of the logarithms. -/
theorem M_log {a b : Nat} (ha : a < 256) (hb : b < 256) : M a b = if a = 0 ∨ b = 0 then 0 else E (L a + L b) := by
  by_cases e : a = 0
  · subst e; simp [M_zero_left]
  · have h := M_E (L a) b hb
    rw [E_L ha (by omega)] at h
    rw [h]; simp [e]

theorem M_comm {a b : Nat} (ha : a < 256) (hb : b < 256) : M a b = M b a := by
  rw [M_log ha hb, M_log hb ha, Nat.add_comm]
  by_cases e : a = 0 <;> by_cases f : b = 0 <;> simp [e, f]

theorem M_pos {a b : Nat} (ha : a < 256) (hb : b < 256) (h0 : 0 < a) (k0 : 0 < b) : 0 < M a b := by
  rw [M_log ha hb, if_neg (by omega)]; exact E_pos _
theorem L_M {a b : Nat} (ha : a < 256) (hb : b < 256) (h0 : 0 < a) (k0 : 0 < b) : L (M a b) = (L a + L b) % 255 := by
  rw [M_log ha hb, if_neg (by omega)]; exact L_E _
theorem E_congr {m n : Nat} (h : m % 255 = n % 255) : E m = E n := by rw [← E_mod m, ← E_mod n, h]
theorem M_EE (m n : Nat) : M (E m) (E n) = E (m + n) := by
  rw [M_E _ _ (E_lt _), if_neg (by have := E_pos n; omega), L_E]; exact E_congr (by omega)

theorem M_assoc {a b c : Nat} (ha : a < 256) (hb : b < 256) (hc : c < 256) : M (M a b) c = M a (M b c) := by
  by_cases a0 : a = 0
  · subst a0; simp [M_zero_left]
  by_cases b0 : b = 0
  · subst b0; simp [M_zero_left, M_zero_right]
  by_cases c0 : c = 0
  · subst c0; simp [M_zero_right]
  rw [← E_L ha (by omega), ← E_L hb (by omega), ← E_L hc (by omega), M_EE, M_EE, M_EE, M_EE, Nat.add_assoc]

theorem Mf_xor (f : Nat) : ∀ a b c, Mf f a (b ^^^ c) = Mf f a b ^^^ Mf f a c := by
  induction f with
  | zero => intro a b c; show 0 = 0 ^^^ 0; simp
  | succ f ih =>
    intro a b c
    show (if (b ^^^ c) % 2 = 1 then a else 0) ^^^ Mf f (dbl a) ((b ^^^ c) / 2) = ((if b % 2 = 1 then a else 0) ^^^ Mf f (dbl a) (b / 2)) ^^^ ((if c % 2 = 1 then a else 0) ^^^ Mf f (dbl a) (c / 2))
    rw [Nat.xor_div_two, ih]
    have e : (if (b ^^^ c) % 2 = 1 then a else 0) = (if b % 2 = 1 then a else 0) ^^^ (if c % 2 = 1 then a else 0) := by
      have q := @Nat.xor_mod_two_eq_one b c
      by_cases h : b % 2 = 1 <;> by_cases k : c % 2 = 1 <;> simp [h, k] at q ⊢ <;> simp [q]
    rw [e]
    rw [Nat.xor_assoc, Nat.xor_assoc]; congr 1
    rw [← Nat.xor_assoc, ← Nat.xor_assoc, Nat.xor_comm (if c % 2 = 1 then a else 0)]
theorem M_xor (a b c : Nat) : M a (b ^^^ c) = M a b ^^^ M a c := Mf_xor 8 a b c
theorem M_xor_left {a b c : Nat} (ha : a < 256) (hb : b < 256) (hc : c < 256) : M (a ^^^ b) c = M a c ^^^ M b c := by
  rw [M_comm (xor_lt ha hb) hc, M_xor, M_comm hc ha, M_comm hc hb]
theorem M_one_left {b : Nat} (h : b < 256) : M 1 b = b := M_one_all b h
theorem M_one_right {b : Nat} (h : b < 256) : M b 1 = b := by rw [M_comm h (by omega), M_one_left h]

/-- The inverse. -/
def inv (a : Nat) : Nat := E (255 - L a)
theorem inv_lt (a : Nat) : inv a < 256 := E_lt _
theorem M_inv {a : Nat} (h : a < 256) (h0 : 0 < a) : M a (inv a) = 1 := by
  have l := L_lt h h0
  unfold inv
  conv => lhs; arg 1; rw [← E_L h h0]
  rw [M_EE, ← E_zero]; exact E_congr (by omega)
theorem M_eq_one {a b : Nat} (ha : a < 256) (hb : b < 256) (h : M a b = 1) : 0 < a ∧ b = inv a := by
  have a0 : 0 < a := by
    rcases Nat.eq_zero_or_pos a with e | e
    · subst e; rw [M_zero_left] at h; omega
    · exact e
  refine ⟨a0, ?_⟩
  have k : M (inv a) (M a b) = b := by
    rw [← M_assoc (inv_lt a) ha hb, M_comm (inv_lt a) ha, M_inv ha a0, M_one_left hb]
  rw [h, M_one_right (inv_lt a)] at k
  exact k.symm

/-- a to the k. -/
def P (a : Nat) : Nat → Nat | 0 => 1 | k + 1 => M (P a k) a
theorem P_lt {a : Nat} (k : Nat) : P a k < 256 := by
  induction k with
  | zero => show 1 < 256; omega
  | succ k ih => exact M_lt _ ih
theorem P_E (i k : Nat) : P (E i) k = E (i * k) := by
  induction k with
  | zero => rw [Nat.mul_zero, E_zero]; rfl
  | succ k ih => show M (P (E i) k) (E i) = _; rw [ih, M_EE, Nat.mul_succ]
theorem P_log {a : Nat} (h : a < 256) (h0 : 0 < a) (k : Nat) : P a k = E (L a * k) := by
  conv => lhs; rw [← E_L h h0]
  rw [P_E]
theorem P_two (k : Nat) : P 2 k = E k := by
  rw [P_log (by omega) (by omega), show L 2 = 1 by decide +kernel, Nat.one_mul]
end Go.Proofs.Ytbfhmdphhhjlnaa.Gf
