/-
  Arithmetic of the field and of codes (texts of stages 1 to 3, one behind the other, in a namespace of their own).
-/
import Derived.Test.YtebngmgdciahiaaGreatDoorRows
import Derived.WalkKit
import Derived.WalkSpells
import Derived.WalkLawsBesides
import Derived.Deep.QuietTactic
import Derived.BigQuiet
import Derived.Deep.OwnRows
import Derived.Laws.IdiomCopy
import Derived.Deep.RegionHeld3
import Derived.Deep.DrawnRows
import Derived.Deep.AppendLies
import Derived.Laws.BytesArg
set_option maxRecDepth 100000
namespace Go.Proofs.YtebngmgdciahiaaGreatDoor.Rz.Gf

/-- a times two. -/
def dbl (a : Nat) : Nat := if a < 128 then a * 2 else (a * 2 - 256) ^^^ 29

/-- The powers of two, eight bits each. -/
def expBits : Nat := 70160881166704368827218703435136616750530459438269794890424969378298545675077208731798828898087927652446353395360628748027273188182808436399538186061104243134188885576122562338679313492324190829158544377810568631194580132524405266702234305646236648896994794467054525044798919765581988418950285252905306116225263236585714808161311289784028762024137133735135393922581566890382566480334369299400480864790538739986285574563168380416343369614948461817839620668187777978661530364712890858126432457562886306102556561631759900551331094983229723298224611133722330829711659991602983068895685602467964643306841827719562658305
/-- The logarithms, eight bits each. -/
def logBits : Nat := 22135253156888987530748098150270024343632497605293634117281264061560962248099620766229961468867162294233796152347975563017024165690400661622462404646302566225833645086064538892198543335321514950294300187779610338557442029018619797274438901674641748676613670242915365385819254959901651105240253464034662486586186382979728982817772067067513442677601938078891989292316012868233806586592927239821351197800766822366321181463280924672822998103315976779850880337712374790938628529953751181886374687897611504386983350015558142994211516619836411558782076806704747441947939324473761869443721989389604670425385080942269787340800

def E (n : Nat) : Nat := (expBits >>> (8 * (n % 255))) % 256
def L (a : Nat) : Nat := (logBits >>> (8 * a)) % 256

/-- The product, bit by bit. -/
def Mf : Nat → Nat → Nat → Nat
  | 0, _, _ => 0
  | f + 1, a, b => (if b % 2 = 1 then a else 0) ^^^ Mf f (dbl a) (b / 2)
def M (a b : Nat) : Nat := Mf 8 a b

theorem E_lt (n : Nat) : E n < 256 := by unfold E; omega
theorem L_lt' (a : Nat) : L a < 256 := by unfold L; omega
theorem E_mod (n : Nat) : E (n % 255) = E n := by unfold E; rw [Nat.mod_mod]
theorem E_period (n : Nat) : E (n + 255) = E n := by unfold E; rw [Nat.add_mod_right]

theorem E_all : ∀ i, i < 255 → 0 < E i ∧ E (i + 1) = dbl (E i) ∧ L (E i) = i := by decide +kernel
theorem L_all : ∀ a, a < 256 → 0 < a → L a < 255 ∧ E (L a) = a := by decide +kernel
theorem dbl_all : ∀ a, a < 256 → dbl a < 256 := by decide +kernel
theorem dbl_xor_all : ∀ a, a < 256 → ∀ b, b < 256 → dbl (a ^^^ b) = dbl a ^^^ dbl b := by decide +kernel
theorem M_one_all : ∀ b, b < 256 → M 1 b = b := by decide +kernel

theorem E_pos (n : Nat) : 0 < E n := by rw [← E_mod]; exact (E_all _ (Nat.mod_lt _ (by decide))).1
theorem E_succ (n : Nat) : E (n + 1) = dbl (E n) := by
  rw [← E_mod n, ← (E_all _ (Nat.mod_lt n (by decide))).2.1]
  unfold E; rw [Nat.mod_add_mod]
theorem L_E (n : Nat) : L (E n) = n % 255 := by rw [← E_mod]; exact (E_all _ (Nat.mod_lt n (by decide))).2.2
theorem L_lt {a : Nat} (h : a < 256) (h0 : 0 < a) : L a < 255 := (L_all a h h0).1
theorem E_L {a : Nat} (h : a < 256) (h0 : 0 < a) : E (L a) = a := (L_all a h h0).2
theorem E_zero : E 0 = 1 := by decide +kernel
theorem L_zero : L 0 = 0 := by decide +kernel
theorem dbl_lt {a : Nat} (h : a < 256) : dbl a < 256 := dbl_all a h
theorem xor_lt {a b : Nat} (h : a < 256) (k : b < 256) : a ^^^ b < 256 := Nat.xor_lt_two_pow (n := 8) h k
theorem dbl_xor {a b : Nat} (h : a < 256) (k : b < 256) : dbl (a ^^^ b) = dbl a ^^^ dbl b := dbl_xor_all a h b k

theorem Mf_lt (f : Nat) : ∀ a b, a < 256 → Mf f a b < 256 := by
  induction f with
  | zero => intro a b _; show 0 < 256; omega
  | succ f ih =>
    intro a b h
    show (if b % 2 = 1 then a else 0) ^^^ Mf f (dbl a) (b / 2) < 256
    refine xor_lt ?_ (ih _ _ (dbl_lt h))
    split <;> omega
theorem M_lt {a : Nat} (b : Nat) (h : a < 256) : M a b < 256 := Mf_lt 8 a b h

theorem Mf_zero (f : Nat) : ∀ a, Mf f a 0 = 0 := by
  induction f with
  | zero => intro a; rfl
  | succ f ih => intro a; show (if 0 % 2 = 1 then a else 0) ^^^ Mf f (dbl a) (0 / 2) = 0; rw [ih]; simp

theorem Mf_dbl (f : Nat) : ∀ a b, a < 256 → Mf f (dbl a) b = dbl (Mf f a b) := by
  induction f with
  | zero => intro a b _; rfl
  | succ f ih =>
    intro a b h
    show (if b % 2 = 1 then dbl a else 0) ^^^ Mf f (dbl (dbl a)) (b / 2) = dbl ((if b % 2 = 1 then a else 0) ^^^ Mf f (dbl a) (b / 2))
    rw [dbl_xor (by split <;> omega) (Mf_lt f _ _ (dbl_lt h)), ih _ _ (dbl_lt h)]
    split <;> rfl

theorem M_E (i b : Nat) (h : b < 256) : M (E i) b = if b = 0 then 0 else E (i + L b) := by
  split
  · rename_i e; subst e; exact Mf_zero 8 _
  · rename_i e
    induction i with
    | zero => rw [E_zero, M_one_all b h, Nat.zero_add, E_L h (by omega)]
    | succ i ih =>
      rw [E_succ]; unfold M at ih ⊢
      rw [Mf_dbl 8 _ _ (E_lt i), ih, ← E_succ]; congr 1; omega

theorem M_zero_left (b : Nat) : M 0 b = 0 := by
  have : ∀ f b, Mf f 0 b = 0 := by
    intro f; induction f with
    | zero => intro b; rfl
    | succ f ih =>
      intro b; show (if b % 2 = 1 then 0 else 0) ^^^ Mf f (dbl 0) (b / 2) = 0
      have e : dbl 0 = 0 := rfl
      rw [e, ih]; split <;> rfl
  exact this 8 b
theorem M_zero_right (a : Nat) : M a 0 = 0 := Mf_zero 8 a

/-- The product by way of the logarithms. -/
theorem M_log {a b : Nat} (ha : a < 256) (hb : b < 256) : M a b = if a = 0 ∨ b = 0 then 0 else E (L a + L b) := by
  by_cases e : a = 0
  · subst e; simp [M_zero_left]
  · have h := M_E (L a) b hb
    rw [E_L ha (by omega)] at h
    rw [h]; simp [e]

theorem M_comm {a b : Nat} (ha : a < 256) (hb : b < 256) : M a b = M b a := by
  rw [M_log ha hb, M_log hb ha, Nat.add_comm]
  by_cases e : a = 0 <;> by_cases f : b = 0 <;> simp [e, f]

theorem M_pos {a b : Nat} (ha : a < 256) (hb : b < 256) (h0 : 0 < a) (k0 : 0 < b) : 0 < M a b := by
  rw [M_log ha hb, if_neg (by omega)]; exact E_pos _
theorem L_M {a b : Nat} (ha : a < 256) (hb : b < 256) (h0 : 0 < a) (k0 : 0 < b) : L (M a b) = (L a + L b) % 255 := by
  rw [M_log ha hb, if_neg (by omega)]; exact L_E _
theorem E_congr {m n : Nat} (h : m % 255 = n % 255) : E m = E n := by rw [← E_mod m, ← E_mod n, h]
theorem M_EE (m n : Nat) : M (E m) (E n) = E (m + n) := by
  rw [M_E _ _ (E_lt _), if_neg (by have := E_pos n; omega), L_E]; exact E_congr (by omega)

theorem M_assoc {a b c : Nat} (ha : a < 256) (hb : b < 256) (hc : c < 256) : M (M a b) c = M a (M b c) := by
  by_cases a0 : a = 0
  · subst a0; simp [M_zero_left]
  by_cases b0 : b = 0
  · subst b0; simp [M_zero_left, M_zero_right]
  by_cases c0 : c = 0
  · subst c0; simp [M_zero_right]
  rw [← E_L ha (by omega), ← E_L hb (by omega), ← E_L hc (by omega), M_EE, M_EE, M_EE, M_EE, Nat.add_assoc]

theorem Mf_xor (f : Nat) : ∀ a b c, Mf f a (b ^^^ c) = Mf f a b ^^^ Mf f a c := by
  induction f with
  | zero => intro a b c; show 0 = 0 ^^^ 0; simp
  | succ f ih =>
    intro a b c
    show (if (b ^^^ c) % 2 = 1 then a else 0) ^^^ Mf f (dbl a) ((b ^^^ c) / 2) = ((if b % 2 = 1 then a else 0) ^^^ Mf f (dbl a) (b / 2)) ^^^ ((if c % 2 = 1 then a else 0) ^^^ Mf f (dbl a) (c / 2))
    rw [Nat.xor_div_two, ih]
    have e : (if (b ^^^ c) % 2 = 1 then a else 0) = (if b % 2 = 1 then a else 0) ^^^ (if c % 2 = 1 then a else 0) := by
      have q := @Nat.xor_mod_two_eq_one b c
      by_cases h : b % 2 = 1 <;> by_cases k : c % 2 = 1 <;> simp [h, k] at q ⊢ <;> simp [q]
    rw [e]
    rw [Nat.xor_assoc, Nat.xor_assoc]; congr 1
    rw [← Nat.xor_assoc, ← Nat.xor_assoc, Nat.xor_comm (if c % 2 = 1 then a else 0)]
theorem M_xor (a b c : Nat) : M a (b ^^^ c) = M a b ^^^ M a c := Mf_xor 8 a b c
theorem M_xor_left {a b c : Nat} (ha : a < 256) (hb : b < 256) (hc : c < 256) : M (a ^^^ b) c = M a c ^^^ M b c := by
  rw [M_comm (xor_lt ha hb) hc, M_xor, M_comm hc ha, M_comm hc hb]
theorem M_one_left {b : Nat} (h : b < 256) : M 1 b = b := M_one_all b h
theorem M_one_right {b : Nat} (h : b < 256) : M b 1 = b := by rw [M_comm h (by omega), M_one_left h]

/-- The inverse. -/
def inv (a : Nat) : Nat := E (255 - L a)
theorem inv_lt (a : Nat) : inv a < 256 := E_lt _
theorem M_inv {a : Nat} (h : a < 256) (h0 : 0 < a) : M a (inv a) = 1 := by
  have l := L_lt h h0
  unfold inv
  conv => lhs; arg 1; rw [← E_L h h0]
  rw [M_EE, ← E_zero]; exact E_congr (by omega)
theorem M_eq_one {a b : Nat} (ha : a < 256) (hb : b < 256) (h : M a b = 1) : 0 < a ∧ b = inv a := by
  have a0 : 0 < a := by
    rcases Nat.eq_zero_or_pos a with e | e
    · subst e; rw [M_zero_left] at h; omega
    · exact e
  refine ⟨a0, ?_⟩
  have k : M (inv a) (M a b) = b := by
    rw [← M_assoc (inv_lt a) ha hb, M_comm (inv_lt a) ha, M_inv ha a0, M_one_left hb]
  rw [h, M_one_right (inv_lt a)] at k
  exact k.symm

/-- a to the k. -/
def P (a : Nat) : Nat → Nat | 0 => 1 | k + 1 => M (P a k) a
theorem P_lt {a : Nat} (k : Nat) : P a k < 256 := by
  induction k with
  | zero => show 1 < 256; omega
  | succ k ih => exact M_lt _ ih
theorem P_E (i k : Nat) : P (E i) k = E (i * k) := by
  induction k with
  | zero => rw [Nat.mul_zero, E_zero]; rfl
  | succ k ih => show M (P (E i) k) (E i) = _; rw [ih, M_EE, Nat.mul_succ]
theorem P_log {a : Nat} (h : a < 256) (h0 : 0 < a) (k : Nat) : P a k = E (L a * k) := by
  conv => lhs; rw [← E_L h h0]
  rw [P_E]
theorem P_two (k : Nat) : P 2 k = E k := by
  rw [P_log (by omega) (by omega), show L 2 = 1 by decide +kernel, Nat.one_mul]
end Go.Proofs.YtebngmgdciahiaaGreatDoor.Rz.Gf

namespace Go.Proofs.YtebngmgdciahiaaGreatDoor.Rz
open Go.RowKit Gf

theorem ret_u8 {a b : Nat} (h : a = b) : Ending.returned (.int .u8 (a : Int)) = .returned (.int .u8 (b : Int)) := by rw [h]
theorem ret_int {k : IntKind} {a b : Int} (h : a = b) : Ending.returned (.int k a) = .returned (.int k b) := by rw [h]

theorem top_all : ∀ a, a < 256 → ((a &&& 128 = 0) ↔ a < 128) := by decide +kernel
theorem top_bit (a : Nat) (h : a < 256) : (bits .and .u8 (a : Int) 128 == 0) = decide (a < 128) := by
  rw [show (128 : Int) = ((128 : Nat) : Int) from rfl, u8_and_nat a 128 h (by omega)]
  have := top_all a h
  by_cases e : a < 128
  · have k : a &&& 128 = 0 := this.2 e
    simp [e, k]
  · have k : ¬ a &&& 128 = 0 := fun x => e (this.1 x)
    simp only [e, decide_false, beq_eq_false_iff_ne, ne_eq]
    omega

theorem dbl_hi (a : Nat) (h : a < 256) (e : ¬ a < 128) : bits .xor .u8 ((a : Int) * 2 % 256) 29 = ((dbl a : Nat) : Int) := by
  have q : (a : Int) * 2 % 256 = ((a * 2 - 256 : Nat) : Int) := by omega
  rw [q, show (29 : Int) = ((29 : Nat) : Int) from rfl, u8_xor_nat _ 29 (by omega) (by omega)]
  unfold dbl; rw [if_neg e]

set_option maxHeartbeats 400000 in
theorem double_any (a : Nat) (h : a < 256) (w : World) :
    Calls Tryz.prog 105 #[.int .u8 a] w fun e w' => e = .returned (.int .u8 (dbl a : Nat)) ∧ w = w' := by
  have ht := top_bit a h
  by_cases e : a < 128
  · have hb : (bits .and .u8 (a : Int) 128 == 0) = true := by rw [ht]; simp [e]
    clear ht
    go_enter Tryz.func105, Tryz.ntmps105
    go_wp2
    go_ret
    exact ⟨ret_int (by unfold dbl; rw [if_pos e]; omega), rfl⟩
  · have hb : (bits .and .u8 (a : Int) 128 == 0) = false := by rw [ht]; simp [e]
    clear ht
    go_enter Tryz.func105, Tryz.ntmps105
    go_wp2
    go_ret
    exact ⟨ret_int (dbl_hi a h e), rfl⟩

/-- Table b holds in w the powers below k and their logarithms. -/
structure Upto (w : World) (b k : Nat) : Prop where
  exp : ∀ i, i < 255 → w.cell? ⟨b, i, none⟩ = some (.int .u8 ((if i < k then E i else 0 : Nat) : Int))
  log : ∀ j, j < 256 → w.cell? ⟨b, 255 + j, none⟩ = some (.int .u8 ((if 0 < j ∧ L j < k then L j else 0 : Nat) : Int))
  soft : ∀ i, i < 511 → w.frozen? ⟨b, i, none⟩ = false

theorem ne_off {b i j : Nat} (h : i ≠ j) : (⟨b, i, none⟩ : Addr) ≠ ⟨b, j, none⟩ := fun e => h (by injection e)

theorem cell_other {w : World} {b i j : Nat} {v : Value} (h : i ≠ j) : (w.setCell ⟨b, i, none⟩ v).cell? ⟨b, j, none⟩ = w.cell? ⟨b, j, none⟩ := by apply World.cell?_setCell_other; exact ne_off h
theorem cell_same {w : World} {b i : Nat} {u v : Value} (h : w.cell? ⟨b, i, none⟩ = some u) : (w.setCell ⟨b, i, none⟩ v).cell? ⟨b, i, none⟩ = some v := by apply World.cell?_setCell_same; exact h
theorem Upto.step {w : World} {b k : Nat} (h : Upto w b k) (hk : k < 255) :
    Upto ((w.setCell ⟨b, k, none⟩ (.int .u8 ((E k : Nat) : Int))).setCell ⟨b, 255 + E k, none⟩ (.int .u8 ((k : Nat) : Int))) b (k + 1) := by
  refine ⟨fun i hi => ?_, fun j hj => ?_, fun i hi => ?_⟩
  · rw [cell_other (by omega)]
    by_cases e : i = k
    · subst e; rw [cell_same (h.exp i hi), if_pos (by omega)]
    · rw [cell_other (by omega), h.exp i hi]
      by_cases l : i < k
      · rw [if_pos l, if_pos (by omega)]
      · rw [if_neg l, if_neg (by omega)]
  · have hE := E_pos k
    by_cases e : j = E k
    · subst e
      have l : L (E k) = k := by rw [L_E]; omega
      rw [cell_same (u := .int .u8 ((if 0 < E k ∧ L (E k) < k then L (E k) else 0 : Nat) : Int)) (by rw [cell_other (by omega), h.log _ hj]), l, if_pos ⟨hE, by omega⟩]
    · rw [cell_other (by omega), cell_other (by omega), h.log j hj]
      by_cases z : 0 < j
      · have l : L j ≠ k := fun q => e (by rw [← q, E_L hj z])
        by_cases m : L j < k
        · rw [if_pos ⟨z, m⟩, if_pos ⟨z, by omega⟩]
        · rw [if_neg (fun q => m q.2), if_neg (fun q => m (by have := q.2; omega))]
      · rw [if_neg (fun q => z q.1), if_neg (fun q => z q.1)]
  · rw [World.frozen?_setCell, World.frozen?_setCell]; exact h.soft i hi

def zeros : Array Value := Array.replicate 511 (.int .u8 0)
theorem zero45 (w : World) : Sem.run Tryz.prog (zeroValue 179) w = .ok (.agg zeros) w := by kernel_rfl

theorem zeros_at (i : Nat) (h : i < 511) : zeros[i]? = some (.int .u8 0) := by
  unfold zeros; rw [Array.getElem?_replicate, if_pos h]
theorem Upto.start (w : World) : Upto (w.alloc (.cells zeros 179)) w.heap.size 0 :=
  ⟨fun i hi => by rw [World.cell?_alloc_new, zeros_at i (by omega)]; rfl, fun j hj => by rw [World.cell?_alloc_new, zeros_at _ (by omega), if_neg (by omega)]; rfl, fun i _ => World.frozen?_alloc_new _ _ _ _⟩

set_option maxRecDepth 100000 in
set_option maxHeartbeats 400000 in
theorem new_any (w : World) :
    Calls Tryz.prog 84 #[] w fun e w' => e = .returned (.pointer (some ⟨w.heap.size, 0, none⟩)) ∧ Upto w' w.heap.size 255 ∧ Below w.heap.size w w' := by
  have hz := zero45
  go_enter Tryz.func84, Tryz.ntmps84
  go_wp2
  go_loopw [2, 6] (fun p n wr => ∃ k : Nat, k ≤ 255 ∧ n = .int .i64 k ∧ p = .int .u8 (E k : Nat) ∧ Upto wr w.heap.size k ∧ Below w.heap.size w wr) (fun _ n _ => 255 - (intOf n).toNat)
  case atStart => exact ⟨0, by omega, rfl, by rw [E_zero]; rfl, Upto.start w, (Below.refl _ _).alloc (Nat.le_refl _) _⟩
  case round =>
    obtain ⟨k, hk, rfl, rfl, hu, hb⟩ := hrel
    by_cases hlt : k < 255
    · have hE := E_lt k
      have f1 := hu.soft k (by omega)
      have f2 := hu.soft (255 + E k) (by omega)
      have C1 := hu.exp k hlt
      have c1 := C1
      have c2 := hu.log (E k) hE
      have HU : Hid (Upto ((wr.setCell ⟨w.heap.size, k, none⟩ (.int .u8 ((E k : Nat) : Int))).setCell ⟨w.heap.size, 255 + E k, none⟩ (.int .u8 ((k : Nat) : Int))) w.heap.size (k + 1)) := hu.step hlt
      clear hu
      clear hz
      have hdl := dbl_lt hE
      obtain ⟨d, hd⟩ : ∃ d, dbl (E k) = d := ⟨_, rfl⟩
      have hdc := fun w => double_any (E k) hE w
      rw [hd] at hdc hdl
      obtain ⟨p, hp⟩ : ∃ p, E k = p := ⟨_, rfl⟩
      rw [hp] at hE f2 c2 hdc hd HU ⊢
      have HP : Hid (E k = p) := hp
      clear hp c1
      obtain ⟨v1, c1⟩ : ∃ v, wr.cell? ⟨w.heap.size, k, none⟩ = some v := ⟨_, C1⟩
      obtain ⟨v2, c2⟩ : ∃ v, wr.cell? ⟨w.heap.size, 255 + p, none⟩ = some v := ⟨_, c2⟩
      clear C1
      have HD : Hid (dbl p = d) := hd
      clear hd
      go_wp2_with (go_at_call 105; refine (hdc _).mono ?_; rintro e w' ⟨rfl, rfl⟩)
      go_round
      case rel => exact ⟨k + 1, by omega, by go_num, by rw [E_succ, HP.out, HD.out], HU.out, (hb.setCell (Nat.le_refl _) _).setCell (Nat.le_refl _) _⟩
      case measure => simp [intOf]; omega
    · have e : k = 255 := by omega
      subst e
      clear hz hlt hk
      go_wp2
      go_ret
      exact ⟨rfl, hu, hb⟩
end Go.Proofs.YtebngmgdciahiaaGreatDoor.Rz

namespace Go.Proofs.YtebngmgdciahiaaGreatDoor.Rz
open Go.RowKit Gf

structure Tab (w : World) (b : Nat) : Prop where
  exp : ∀ i, i < 255 → w.cell? ⟨b, i, none⟩ = some (.int .u8 ((E i : Nat) : Int))
  log : ∀ j, j < 256 → w.cell? ⟨b, 255 + j, none⟩ = some (.int .u8 ((L j : Nat) : Int))
  one : w.cell? ⟨b, 0, none⟩ = some (.int .u8 1)

theorem Upto.tab {w : World} {b : Nat} (h : Upto w b 255) : Tab w b := by
  refine ⟨fun i hi => by rw [h.exp i hi, if_pos hi], fun j hj => ?_, by rw [h.exp 0 (by omega), if_pos (by omega), E_zero]; rfl⟩
  rw [h.log j hj]
  by_cases z : 0 < j
  · rw [if_pos ⟨z, L_lt hj z⟩]
  · have e : j = 0 := by omega
    subst e; rw [if_neg (by omega), L_zero]

set_option maxHeartbeats 400000 in
theorem built_any (b : Nat) (w : World) (h : w.cell? ⟨b, 0, none⟩ = some (.int .u8 1)) :
    Calls Tryz.prog 152 #[.pointer (some ⟨b, 0, none⟩)] w fun e w' => e = .returned (.bool true) ∧ w = w' := by
  go_enter Tryz.func152, Tryz.ntmps152
  go_wp2
  go_ret
  exact ⟨rfl, rfl⟩

theorem tmod_form (n : Int) : (0 ≤ n ∧ n.tmod 255 = n % 255) ∨ (n < 0 ∧ n % 255 = 0 ∧ n.tmod 255 = 0) ∨ (n < 0 ∧ n % 255 ≠ 0 ∧ n.tmod 255 = n % 255 - 255) := by
  rcases Int.lt_or_le n 0 with h | h
  · have q : n.tmod 255 = -((-n) % 255) := by
      have e : n.tmod 255 = -((-n).tmod 255) := by rw [Int.neg_tmod]; omega
      rw [e, Int.tmod_eq_emod_of_nonneg (by omega)]
    by_cases z : n % 255 = 0
    · exact .inr (.inl ⟨h, z, by omega⟩)
    · exact .inr (.inr ⟨h, z, by omega⟩)
  · exact .inl ⟨h, Int.tmod_eq_emod_of_nonneg h⟩

set_option maxRecDepth 100000 in
set_option maxHeartbeats 400000 in
theorem exp_any (b : Nat) (n : Int) (w : World) (h : Tab w b) (n1 : -9223372036854775808 ≤ n) (n2 : n ≤ 9223372036854775807) :
    Calls Tryz.prog 153 #[.pointer (some ⟨b, 0, none⟩), .int .i64 n] w fun e w' => e = .returned (.int .u8 ((E (n % 255).toNat : Nat) : Int)) ∧ w = w' := by
  have h1 := h.one
  have hc := h.exp (n % 255).toNat (by omega)
  have hlt := E_lt (n % 255).toNat
  generalize E (n % 255).toNat = p at *
  clear h
  rcases tmod_form n with ⟨g0, g⟩ | ⟨g0, g2, g⟩ | ⟨g0, g2, g⟩
  · clear g
    go_enter Tryz.func153, Tryz.ntmps153
    go_wp2_with (go_at_call 152; refine (built_any _ _ h1).mono ?_; rintro e w' ⟨rfl, rfl⟩)
    go_ret
    exact ⟨rfl, rfl⟩
  · have G : Hid (n.tmod 255 = 0) := g
    have g3 : 0 ≤ n.tmod 255 := by omega
    have g4 : n.tmod 255 < 1 := by omega
    have hc' : w.cell? ⟨b, (n.tmod 255).toNat, none⟩ = some (.int .u8 (p : Int)) := by rw [g]; rw [g2] at hc; exact hc
    clear g hc g2
    go_enter Tryz.func153, Tryz.ntmps153
    go_wp2_with (go_at_call 152; refine (built_any _ _ h1).mono ?_; rintro e w' ⟨rfl, rfl⟩)
    go_ret
    exact ⟨rfl, rfl⟩
  · have g3 : n.tmod 255 < 0 := by omega
    have g4 : -255 < n.tmod 255 := by omega
    have hc' : w.cell? ⟨b, (n.tmod 255 + 255).toNat, none⟩ = some (.int .u8 (p : Int)) := by rw [g]; rw [show n % 255 - 255 + 255 = n % 255 by omega]; exact hc
    clear g hc g2
    go_enter Tryz.func153, Tryz.ntmps153
    go_wp2_with (go_at_call 152; refine (built_any _ _ h1).mono ?_; rintro e w' ⟨rfl, rfl⟩)
    go_ret
    exact ⟨rfl, rfl⟩
end Go.Proofs.YtebngmgdciahiaaGreatDoor.Rz

namespace Go.Proofs.YtebngmgdciahiaaGreatDoor.Rz
open Go.RowKit Gf

theorem Tab.drewN {w : World} {b : Nat} (h : Tab w b) (n : Nat) : Tab (w.drewN n) b := ⟨h.exp, h.log, h.one⟩
theorem Tab.keep {w w' : World} {b B : Nat} (h : Tab w b) (k : Below B w w') (hb : b < B) : Tab w' b :=
  ⟨fun i hi => (k.cell (p := ⟨b, i, none⟩) hb).trans (h.exp i hi), fun j hj => (k.cell (p := ⟨b, 255 + j, none⟩) hb).trans (h.log j hj), (k.cell (p := ⟨b, 0, none⟩) hb).trans h.one⟩

set_option maxRecDepth 100000 in
set_option maxHeartbeats 400000 in
theorem tmul_any (b x y : Nat) (w : World) (h : Tab w b) (hx : x < 256) (hy : y < 256) :
    Calls Tryz.prog 159 #[.pointer (some ⟨b, 0, none⟩), .int .u8 x, .int .u8 y] w fun e w' => e = .returned (.int .u8 (M x y : Nat)) ∧ ∃ n, w' = w.drewN n := by
  have h1 := h.one
  have hm := M_log hx hy
  by_cases z : x = 0
  · subst z
    rw [hm, if_pos (.inl rfl)]
    clear hm
    go_enter Tryz.func159, Tryz.ntmps159
    go_wp2_with (go_at_call 152; refine (built_any _ _ h1).mono ?_; rintro e w' ⟨rfl, rfl⟩)
    go_ret
    exact ⟨rfl, 0, rfl⟩
  by_cases z' : y = 0
  · subst z'
    have hd : ((x : Int) == 0) = false := by simp; omega
    rw [hm, if_pos (.inr rfl)]
    clear hm
    go_enter Tryz.func159, Tryz.ntmps159
    go_wp2_with (go_at_call 152; refine (built_any _ _ h1).mono ?_; rintro e w' ⟨rfl, rfl⟩)
    go_ret
    exact ⟨rfl, 0, rfl⟩
  have hd : ((x : Int) == 0) = false := by simp; omega
  have hd' : ((y : Int) == 0) = false := by simp; omega
  have cx := h.log x hx
  have cy := h.log y hy
  have lx := L_lt hx (by omega)
  have ly := L_lt hy (by omega)
  rw [hm, if_neg (by omega)]
  clear hm
  have hE := fun n => (exp_any b ((L x : Int) + (L y : Int)) (w.drewN n) (h.drewN n) (by omega) (by omega)).mono fun _ _ q => And.intro q.1 q.2.symm
  have e1 : E (((L x : Int) + (L y : Int)) % 255).toNat = E (L x + L y) := E_congr (by omega)
  rw [e1] at hE
  clear e1
  generalize E (L x + L y) = p at *
  generalize L x = lx at *
  generalize L y = ly at *
  have xi : (x : Int) < 256 := by omega
  have yi : (y : Int) < 256 := by omega
  go_enter Tryz.func159, Tryz.ntmps159
  go_wp2_with (go_at_call 152; refine (built_any _ _ h1).mono ?_; rintro e w' ⟨rfl, rfl⟩)
  go_quiet ((go_at_call 153; exact Calls.quiet_of_same (hE _)))
  go_wp2
  go_ret
  exact ⟨rfl, nq, rfl⟩

/-- The quotient as the table reckons it. -/
def dv (x y : Nat) : Nat := if x = 0 ∨ y = 0 then 0 else E (L x + 255 - L y)
theorem dv_lt (x y : Nat) : dv x y < 256 := by unfold dv; split; omega; exact E_lt _

set_option maxRecDepth 100000 in
set_option maxHeartbeats 400000 in
theorem div_any (b x y : Nat) (w : World) (h : Tab w b) (hx : x < 256) (hy : y < 256) :
    Calls Tryz.prog 162 #[.pointer (some ⟨b, 0, none⟩), .int .u8 x, .int .u8 y] w fun e w' => e = .returned (.tuple #[.int .u8 (dv x y : Nat), .bool (decide (0 < y))]) ∧ ∃ n, w' = w.drewN n := by
  have h1 := h.one
  unfold dv
  by_cases z' : y = 0
  · subst z'
    rw [if_pos (.inr rfl), decide_eq_false (by omega)]
    go_enter Tryz.func162, Tryz.ntmps162
    go_wp2_with (go_at_call 152; refine (built_any _ _ h1).mono ?_; rintro e w' ⟨rfl, rfl⟩)
    go_ret2
    exact ⟨rfl, 0, rfl⟩
  have hd' : ((y : Int) == 0) = false := by simp; omega
  rw [decide_eq_true (show 0 < y by omega)]
  by_cases z : x = 0
  · subst z
    rw [if_pos (.inl rfl)]
    go_enter Tryz.func162, Tryz.ntmps162
    go_wp2_with (go_at_call 152; refine (built_any _ _ h1).mono ?_; rintro e w' ⟨rfl, rfl⟩)
    go_ret2
    exact ⟨rfl, 0, rfl⟩
  have hd : ((x : Int) == 0) = false := by simp; omega
  have cx := h.log x hx
  have cy := h.log y hy
  have lx := L_lt hx (by omega)
  have ly := L_lt hy (by omega)
  rw [if_neg (by omega)]
  have hE := fun n => (exp_any b ((L x : Int) - (L y : Int)) (w.drewN n) (h.drewN n) (by omega) (by omega)).mono fun _ _ q => And.intro q.1 q.2.symm
  have e1 : E (((L x : Int) - (L y : Int)) % 255).toNat = E (L x + 255 - L y) := E_congr (by omega)
  rw [e1] at hE
  clear e1
  generalize E (L x + 255 - L y) = p at *
  generalize L x = lx at *
  generalize L y = ly at *
  have xi : (x : Int) < 256 := by omega
  have yi : (y : Int) < 256 := by omega
  go_enter Tryz.func162, Tryz.ntmps162
  go_wp2_with (go_at_call 152; refine (built_any _ _ h1).mono ?_; rintro e w' ⟨rfl, rfl⟩)
  go_quiet ((go_at_call 153; exact Calls.quiet_of_same (hE _)))
  go_wp2
  go_ret2
  exact ⟨rfl, nq, rfl⟩

set_option maxRecDepth 100000 in
set_option maxHeartbeats 400000 in
theorem inv_any (b x : Nat) (w : World) (h : Tab w b) (hx : x < 256) :
    Calls Tryz.prog 156 #[.pointer (some ⟨b, 0, none⟩), .int .u8 x] w fun e w' => e = .returned (.tuple #[.int .u8 (dv 1 x : Nat), .bool (decide (0 < x))]) ∧ ∃ n, w' = w.drewN n := by
  have hD : Calls Tryz.prog 162 #[.pointer (some ⟨b, 0, none⟩), .int .u8 1, .int .u8 x] w fun e w' => e = .returned (.tuple #[.int .u8 (dv 1 x : Nat), .bool (decide (0 < x))]) ∧ ∃ n, w' = w.drewN n :=
    div_any b 1 x w h (by omega) hx
  generalize dv 1 x = p at *
  generalize decide (0 < x) = q at *
  go_enter Tryz.func156, Tryz.ntmps156
  go_wp2_with (go_at_call 162; refine hD.mono ?_; rintro e w' ⟨rfl, n, rfl⟩)
  go_ret2
  exact ⟨rfl, _, rfl⟩

/-- The power as the table reckons it. -/
def pw (a : Nat) (n : Int) : Nat := if n < 0 then 0 else if n = 0 then 1 else if a = 0 then 0 else E (L a * (n % 255).toNat)
theorem pw_lt (a : Nat) (n : Int) : pw a n < 256 := by unfold pw; split; omega; split; omega; split; omega; exact E_lt _

set_option maxRecDepth 100000 in
set_option maxHeartbeats 400000 in
theorem pow_any (b x : Nat) (n : Int) (w : World) (h : Tab w b) (hx : x < 256) (n1 : -9223372036854775808 ≤ n) (n2 : n ≤ 9223372036854775807) :
    Calls Tryz.prog 131 #[.pointer (some ⟨b, 0, none⟩), .int .u8 x, .int .i64 n] w fun e w' => e = .returned (.int .u8 (pw x n : Nat)) ∧ w = w' := by
  have h1 := h.one
  unfold pw
  by_cases hn : n < 0
  · rw [if_pos hn]
    go_enter Tryz.func131, Tryz.ntmps131
    go_wp2_with (go_at_call 152; refine (built_any _ _ h1).mono ?_; rintro e w' ⟨rfl, rfl⟩)
    go_ret
    exact ⟨rfl, rfl⟩
  rw [if_neg hn]
  by_cases hz : n = 0
  · subst hz
    rw [if_pos rfl]
    clear hn
    go_enter Tryz.func131, Tryz.ntmps131
    go_wp2_with (go_at_call 152; refine (built_any _ _ h1).mono ?_; rintro e w' ⟨rfl, rfl⟩)
    go_ret
    exact ⟨rfl, rfl⟩
  rw [if_neg hz]
  have hz' : (n == 0) = false := by simp; omega
  have hn' : 0 < n := by omega
  by_cases z : x = 0
  · subst z
    rw [if_pos rfl]
    go_enter Tryz.func131, Tryz.ntmps131
    go_wp2_with (go_at_call 152; refine (built_any _ _ h1).mono ?_; rintro e w' ⟨rfl, rfl⟩)
    go_ret
    exact ⟨rfl, rfl⟩
  have hd : ((x : Int) == 0) = false := by simp; omega
  rw [if_neg z]
  have cx := h.log x hx
  have lx := L_lt hx (by omega)
  have m1 : 0 ≤ (L x : Int) * (n % 255) := Int.mul_nonneg (by omega) (by omega)
  have m2 : (L x : Int) * (n % 255) ≤ 255 * 255 := Int.mul_le_mul (by omega) (by omega) (by omega) (by omega)
  have hE := exp_any b ((L x : Int) * (n % 255)) w h (by omega) (by omega)
  have e1 : E (((L x : Int) * (n % 255)) % 255).toNat = E (L x * (n % 255).toNat) := by
    apply E_congr
    have q : (L x : Int) * (n % 255) = ((L x * (n % 255).toNat : Nat) : Int) := by
      rw [Int.natCast_mul]; congr 1; omega
    rw [q]; omega
  rw [e1] at hE
  clear e1
  have xi : (x : Int) < 256 := by omega
  generalize E (L x * (n % 255).toNat) = p at *
  generalize L x = lx at *
  go_enter Tryz.func131, Tryz.ntmps131
  go_wp2_with (first | (go_at_call 152; refine (built_any _ _ h1).mono ?_; rintro e w' ⟨rfl, rfl⟩) | (go_at_call 153; refine hE.mono ?_; rintro e w' ⟨rfl, rfl⟩))
  go_ret
  exact ⟨rfl, rfl⟩

set_option maxHeartbeats 400000 in
theorem add_any (x y : Nat) (w : World) (hx : x < 256) (hy : y < 256) :
    Calls Tryz.prog 158 #[.int .u8 x, .int .u8 y] w fun e w' => e = .returned (.int .u8 (x ^^^ y : Nat)) ∧ w = w' := by
  go_enter Tryz.func158, Tryz.ntmps158
  go_wp2
  go_ret
  exact ⟨ret_int (u8_xor_nat x y hx hy), rfl⟩

end Go.Proofs.YtebngmgdciahiaaGreatDoor.Rz

namespace Go.Proofs.YtebngmgdciahiaaGreatDoor.Rz
open Go.RowKit Gf

theorem low_bit (b : Nat) (h : b < 256) : (bits .and .u8 (b : Int) 1 == 1) = decide (b % 2 = 1) := by
  rw [show (1 : Int) = ((1 : Nat) : Int) from rfl, u8_and_nat b 1 h (by omega), nat_mask1]
  by_cases e : b % 2 = 1
  · simp [e]
  · have q : b % 2 = 0 := by omega
    simp [q]

theorem Mf_succ (f a b : Nat) : Mf (f + 1) a b = (if b % 2 = 1 then a else 0) ^^^ Mf f (dbl a) (b / 2) := rfl

theorem i64_xor_nat (a b : Nat) (ha : a < 1024) (hb : b < 1024) : bits .xor .i64 (a : Int) (b : Int) = ((a ^^^ b : Nat) : Int) := by
  have hl : a ^^^ b < 1024 := Nat.xor_lt_two_pow (n := 10) ha hb
  have e1 : a % 2 ^ IntKind.i64.bits = a := Nat.mod_eq_of_lt (by simp [IntKind.bits]; omega)
  have e2 : b % 2 ^ IntKind.i64.bits = b := Nat.mod_eq_of_lt (by simp [IntKind.bits]; omega)
  simp only [bits, BitVec.ofInt_natCast, BitVec.toNat_xor, BitVec.toNat_ofNat, e1, e2]
  rw [IntKind.wrap_i64]; omega

theorem hi_all : ∀ u, u < 256 → 256 ≤ u * 2 → (u * 2) ^^^ 285 = dbl u := by decide +kernel
theorem dbl_i64_hi (u : Nat) (hu : u < 256) (h : (256 : Int) ≤ (u : Int) * 2) : bits .xor .i64 ((u : Int) * 2) 285 = ((dbl u : Nat) : Int) := by
  rw [show (u : Int) * 2 = ((u * 2 : Nat) : Int) by omega, show (285 : Int) = ((285 : Nat) : Int) from rfl, i64_xor_nat _ _ (by omega) (by omega), hi_all u hu (by omega)]
theorem dbl_i64_lo (u : Nat) (h : (u : Int) * 2 < 256) : (u : Int) * 2 = ((dbl u : Nat) : Int) := by
  unfold dbl; rw [if_pos (by omega)]; omega
theorem at_bit (y k : Nat) (hy : y < 256) : (bits .and .u8 ((y : Int) / 2 ^ k) 1 == 1) = decide (y / 2 ^ k % 2 = 1) := by
  have e : (y : Int) / 2 ^ k = ((y / 2 ^ k : Nat) : Int) := by simp
  rw [e, low_bit _ (Nat.lt_of_le_of_lt (Nat.div_le_self _ _) hy)]

theorem rstep (x y k u q : Nat) (hk : k < 8) (h : q ^^^ Mf (8 - k) u (y / 2 ^ k) = M x y) :
    (y / 2 ^ k % 2 = 1 → (q ^^^ u) ^^^ Mf (8 - (k + 1)) (dbl u) (y / 2 ^ (k + 1)) = M x y) ∧ (¬ y / 2 ^ k % 2 = 1 → q ^^^ Mf (8 - (k + 1)) (dbl u) (y / 2 ^ (k + 1)) = M x y) := by
  have e : 8 - k = (8 - (k + 1)) + 1 := by omega
  rw [e, Mf_succ] at h
  have d : y / 2 ^ (k + 1) = y / 2 ^ k / 2 := by rw [Nat.pow_succ, Nat.div_div_eq_div_mul]
  constructor
  · intro o; rw [if_pos o] at h; rw [d, Nat.xor_assoc]; exact h
  · intro o; rw [if_neg o, Nat.zero_xor] at h; rw [d]; exact h

theorem i64_eq {a b : Int} (h : a = b) : Value.int .i64 a = .int .i64 b := by rw [h]

set_option maxRecDepth 100000 in
set_option maxHeartbeats 1000000 in
theorem rmul_any (x y : Nat) (w : World) (hx : x < 256) (hy : y < 256) :
    Calls Tryz.prog 144 #[.int .u8 x, .int .u8 y] w fun e w' => e = .returned (.int .u8 (M x y : Nat)) ∧ w = w' := by
  go_enter Tryz.func144, Tryz.ntmps144
  go_wp2
  go_loop [5, 6, 7] (fun a p i => ∃ k u q : Nat, k ≤ 8 ∧ u < 256 ∧ q < 256 ∧ q ^^^ Mf (8 - k) u (y / 2 ^ k) = M x y ∧ a = .int .i64 u ∧ p = .int .i64 q ∧ i = .int .i64 k) (fun _ _ i => 8 - (intOf i).toNat)
  case atStart => exact ⟨0, x, 0, by omega, hx, by omega, by simp [M], rfl, rfl, rfl⟩
  case round =>
    obtain ⟨k, u, q, hk, hu, hq, hM, rfl, rfl, rfl⟩ := hrel
    by_cases hlt : k < 8
    · have HS : Hid _ := rstep x y k u q hlt hM
      have HB : Hid _ := at_bit y k hy
      have hxl := xor_lt hq hu
      have hdu := dbl_lt hu
      clear hM
      go_wp2
      all_goals
        have HS' := HS.out
        have HB' := HB.out
        clear HS HB
      all_goals go_round
      case rel =>
        rename_i h1 h2
        rw [h1] at HB'
        exact ⟨k + 1, dbl u, q ^^^ u, by omega, hdu, hxl, HS'.1 (of_decide_eq_true HB'.symm), i64_eq (dbl_i64_hi u hu h2), i64_eq (i64_xor_nat q u (by omega) (by omega)), by go_num⟩
      case measure => simp [intOf]; omega
      case rel =>
        rename_i h1 h2
        rw [h1] at HB'
        exact ⟨k + 1, dbl u, q ^^^ u, by omega, hdu, hxl, HS'.1 (of_decide_eq_true HB'.symm), i64_eq (dbl_i64_lo u h2), i64_eq (i64_xor_nat q u (by omega) (by omega)), by go_num⟩
      case measure => simp [intOf]; omega
      case rel =>
        rename_i h1 h2
        rw [h1] at HB'
        exact ⟨k + 1, dbl u, q, by omega, hdu, hq, HS'.2 (of_decide_eq_false HB'.symm), i64_eq (dbl_i64_hi u hu h2), rfl, by go_num⟩
      case measure => simp [intOf]; omega
      case rel =>
        rename_i h1 h2
        rw [h1] at HB'
        exact ⟨k + 1, dbl u, q, by omega, hdu, hq, HS'.2 (of_decide_eq_false HB'.symm), i64_eq (dbl_i64_lo u h2), rfl, by go_num⟩
      case measure => simp [intOf]; omega
    · have e : k = 8 := by omega
      subst e
      have HM : Hid (q = M x y) := by
        have z : y / 2 ^ 8 = 0 := by omega
        rw [z, Mf_zero, Nat.xor_zero] at hM; exact hM
      clear hM hlt hk
      go_wp2
      go_ret
      exact ⟨ret_u8 HM.out, rfl⟩
end Go.Proofs.YtebngmgdciahiaaGreatDoor.Rz

namespace Go.Proofs.YtebngmgdciahiaaGreatDoor.Rz
open Go.RowKit Gf
attribute [local go_sem ↓] Go.wp_at_zero Go.wp_at_succ

theorem info5 : (Tryz.prog.info? 5).map (fun i => (i.zero, i.size, i.bytes)) = some (some (.int .u8 0), 1, 1) := by kernel_rfl
theorem size5 : (Tryz.prog.info? 5).map (·.size) = some 1 := by kernel_rfl

/-- A slice that begins at a holds in w the n bytes f 0, f 1 .. -/
structure Row (w : World) (a : Option Addr) (n : Nat) (f : Nat → Nat) : Prop where
  lt : ∀ i, f i < 256
  lies : 0 < n → ∃ b o, a = some ⟨b, o, none⟩ ∧ ∀ i, i < n → w.cell? ⟨b, o + i, none⟩ = some (.int .u8 ((f i : Nat) : Int))

theorem Tab.drew {w : World} {b : Nat} (h : Tab w b) : Tab w.drew b := ⟨h.exp, h.log, h.one⟩

theorem Row.keep {w w' : World} {a : Option Addr} {n : Nat} {f : Nat → Nat} (h : Row w a n f) (hb : Below w.heap.size w w') : Row w' a n f := by
  refine ⟨h.lt, fun hn => ?_⟩
  obtain ⟨b, o, e, hc⟩ := h.lies hn
  refine ⟨b, o, e, fun i hi => ?_⟩
  have hlt : b < w.heap.size := block_lt_of_cell (hc i hi)
  exact (hb.cell (p := ⟨b, o + i, none⟩) hlt).trans (hc i hi)

theorem below_setCells {B b : Nat} {a : World} (hb : B ≤ b) : ∀ (vs : List Value) (o : Nat) (w : World), Below B a w → Below B a (w.setCells b o vs)
  | [], _, _, h => h
  | v :: vs, o, w, h => below_setCells hb vs (o + 1) (w.setCell ⟨b, o, none⟩ v) (h.setCell hb v)

theorem size_setCells (b : Nat) : ∀ (vs : List Value) (o : Nat) (w : World), (w.setCells b o vs).heap.size = w.heap.size
  | [], _, _ => rfl
  | v :: vs, o, w => (size_setCells b vs (o + 1) (w.setCell ⟨b, o, none⟩ v)).trans (by simp [World.setCell])
theorem copied {w : World} {a : Option Addr} {n c : Nat} {f : Nat → Nat} (h : Row w a n f) :
    ∃ W, Sem.run Tryz.prog (Builtin.copy_ #[27, 27] 3 #[.slice (some ⟨w.heap.size, 0, none⟩) n n, .slice a n c]) (w.alloc (.cells (madeCells #[.int .u8 0] n) 5)) = .ok (goInt n) W ∧
      (∀ i, i < n → W.cell? ⟨w.heap.size, i, none⟩ = some (.int .u8 ((f i : Nat) : Int))) ∧ (∀ i, i < n → W.frozen? ⟨w.heap.size, i, none⟩ = false) ∧ Below w.heap.size w W ∧ W.heap.size = w.heap.size + 1 := by
  by_cases hn : n = 0
  · subst hn
    exact ⟨_, run_copy_none _ 27 27 3 5 _ _ 0 0 0 c Tryz.underlying27 size5 rfl, fun i hi => absurd hi (by omega), fun i hi => absurd hi (by omega), (Below.refl _ _).alloc (Nat.le_refl _) _, by simp⟩
  · obtain ⟨b, o, e, hc⟩ := h.lies (by omega)
    subst e
    have hb : b < w.heap.size := block_lt_of_cell (hc 0 (by omega))
    have hnew : ∀ i, i < n → (w.alloc (.cells (madeCells #[.int .u8 0] n) 5)).cell? ⟨w.heap.size, 0 + i, none⟩ = some (.int .u8 0) := by
      intro i hi
      rw [World.cell?_alloc_new, ← Array.getElem?_toList, toList_madeCells_one, List.getElem?_replicate, if_pos (by omega)]
    obtain ⟨cs, hcs⟩ : ∃ cs, cs = (List.range n).map fun i => Value.int .u8 ((f i : Nat) : Int) := ⟨_, rfl⟩
    have hl : cs.length = n := by rw [hcs]; simp
    have hat : ∀ j, j < n → cs[j]? = some (.int .u8 ((f j : Nat) : Int)) := fun j hj => by rw [hcs]; simp [hj]
    have hrun := run_copy_cells (P := Tryz.prog) (w.alloc (.cells (madeCells #[.int .u8 0] n) 5)) 27 27 3 5 w.heap.size 0 n n ⟨b, o, none⟩ n c cs Tryz.underlying27 size5 (by rw [hl]; exact (Nat.min_self n).symm)
      (fun j v hv => by
        have hj : j < n := by rw [← hl]; exact (List.getElem?_eq_some_iff.1 hv).1
        rw [hat j hj] at hv; injection hv with hv
        have e : (⟨b, o, none⟩ : Addr).add j = ⟨b, o + j, none⟩ := by unfold Addr.add; split <;> simp_all
        rw [e, ((Below.refl w.heap.size w).alloc (Nat.le_refl _) _).cell (p := ⟨b, o + j, none⟩) hb, hc j hj, hv])
      (fun j hj => by rw [hnew j (by omega)]; rfl) (fun j _ => World.frozen?_alloc_new _ _ _ _) (fun v hv => by rw [hcs] at hv; simp at hv; obtain ⟨_, _, rfl⟩ := hv; rfl)
    rw [hl] at hrun
    refine ⟨_, hrun, fun i hi => ?_, fun i hi => ?_, below_setCells (Nat.le_refl _) _ _ _ ((Below.refl _ _).alloc (Nat.le_refl _) _), ?_⟩
    · have := World.cell?_setCells_in w.heap.size cs 0 (w.alloc (.cells (madeCells #[.int .u8 0] n) 5)) (fun j hj => by rw [hnew j (by omega)]; rfl) i (by omega)
      rw [Nat.zero_add] at this
      rw [this, ← List.getElem?_eq_getElem, hat i hi]
    · rw [World.frozen?_setCells]; exact World.frozen?_alloc_new _ _ _ _
    · rw [size_setCells]; simp

set_option maxRecDepth 100000 in
set_option maxHeartbeats 400000 in
theorem mulAdd_any (b c n0 c0 n1 c1 : Nat) (a0 a1 : Option Addr) (f g : Nat → Nat) (w : World) (htab : Tab w b) (hc : c < 256) (h0 : Row w a0 n0 f) (h1 : Row w a1 n1 g) (l0 : n0 ≤ 140737488355328) (l1 : n1 ≤ 140737488355328) :
    Calls Tryz.prog 138 #[.pointer (some ⟨b, 0, none⟩), .slice a0 n0 c0, .slice a1 n1 c1, .int .u8 c] w fun e w' =>
      e = .returned (.slice (some ⟨w.heap.size, 0, none⟩) n0 n0) ∧ (∀ i, i < n0 → w'.cell? ⟨w.heap.size, i, none⟩ = some (.int .u8 ((if i < n1 then f i ^^^ M c (g i) else f i : Nat) : Int))) ∧ Below w.heap.size w w' := by
  have hone := htab.one
  have hmk := run_make_row' (P := Tryz.prog) 27 5 (.int .u8 0) 1 Tryz.underlying27 info5 rfl .i64 .i64 n0 (by omega) (by omega)
  obtain ⟨W, hcp, hcell, hsoft, hbel, hsize⟩ := copied (c := c0) h0
  go_enter Tryz.func138, Tryz.ntmps138
  go_wp2_with (go_at_call 152; refine (built_any _ _ hone).mono ?_; rintro e w' ⟨rfl, rfl⟩)
  all_goals clear hmk hcp hone
  all_goals
    go_loopw [25] (fun n wr => ∃ k : Nat, k ≤ n0 ∧ k ≤ n1 ∧ n = .int .i64 k ∧ (∀ i, i < n0 → wr.cell? ⟨w.heap.size, i, none⟩ = some (.int .u8 ((if i < k then f i ^^^ M c (g i) else f i : Nat) : Int))) ∧ (∀ i, i < n0 → wr.frozen? ⟨w.heap.size, i, none⟩ = false) ∧ Below w.heap.size w wr) (fun n _ => n0 - (intOf n).toNat)
    case atStart => exact ⟨0, by omega, by omega, rfl, fun i hi => by rw [hcell i hi, if_neg (by omega)], hsoft, hbel⟩
    case round =>
      obtain ⟨k, hk0, hk1, rfl, hcr, hsr, hbr⟩ := hrel
      clear hcell hsoft hbel hsize
      by_cases hlt : k < n0 ∧ k < n1
      · obtain ⟨hlt0, hlt1⟩ := hlt
        have ht := htab.keep hbr (block_lt_of_cell htab.one)
        have hg := h1.keep hbr
        obtain ⟨b1, o1, rfl, hgc⟩ := hg.lies (by omega)
        have hgk := hgc k hlt1
        have hfk := hcr k hlt0
        rw [if_neg (by omega)] at hfk
        have hsk := hsr k hlt0
        have lf := h0.lt k
        have lg := h1.lt k
        have cM := fun w (t : Tab w b) => tmul_any b c (g k) w t hc lg
        have lM := M_lt (g k) hc
        have cA := fun w => add_any (f k) (M c (g k)) w lf lM
        have lx := xor_lt lf lM
        have hi0 : (k : Int) < (n0 : Int) := by omega
        have hi1 : (k : Int) < (n1 : Int) := by omega
        clear hg hgc
        generalize hM : M c (g k) = m at *
        have HM : Hid (M c (g k) = m) := hM
        clear hM
        have HS : Hid (∀ n, ∀ i, i < n0 → ((wr.drewN n).setCell ⟨w.heap.size, k, none⟩ (.int .u8 ((f k ^^^ m : Nat) : Int))).cell? ⟨w.heap.size, i, none⟩ = some (.int .u8 ((if i < k + 1 then f i ^^^ M c (g i) else f i : Nat) : Int))) := by
          intro n i hi
          by_cases e : i = k
          · subst e
            rw [cell_same (w := wr.drewN n) (u := .int .u8 ((f i : Nat) : Int)) hfk, if_pos (by omega), HM.out]
          · rw [cell_other (by omega), show (wr.drewN n).cell? ⟨w.heap.size, i, none⟩ = wr.cell? ⟨w.heap.size, i, none⟩ from rfl, hcr i hi]
            by_cases l : i < k
            · rw [if_pos l, if_pos (by omega)]
            · rw [if_neg l, if_neg (by omega)]
        clear hcr
        go_wp2
        go_region_with (first | (go_at_call 159; refine (cM _ ?_).mono ?_; (first | exact ht.drew | exact ht.drewN _); rintro e w' ⟨rfl, n, rfl⟩) | (go_at_call 158; refine (cA _).mono ?_; rintro e w' ⟨rfl, rfl⟩))
        all_goals
          go_wp2
          go_round
          case rel => exact ⟨k + 1, by omega, by omega, by go_num, HS.out _, fun i hi => by rw [World.frozen?_setCell]; exact hsr i hi, (below_drewN hbr _).setCell (Nat.le_refl _) _⟩
          case measure => simp [intOf]; omega
      · have HE : Hid (∀ i, i < n0 → wr.cell? ⟨w.heap.size, i, none⟩ = some (.int .u8 ((if i < n1 then f i ^^^ M c (g i) else f i : Nat) : Int))) := by
          intro i hi
          rw [hcr i hi]
          by_cases e : i < n1
          · rw [if_pos e, if_pos (by omega)]
          · rw [if_neg e, if_neg (by omega)]
        clear hcr hsr
        go_wp2
        go_ret
        exact ⟨rfl, HE.out, hbr⟩
end Go.Proofs.YtebngmgdciahiaaGreatDoor.Rz

namespace Go.Proofs.YtebngmgdciahiaaGreatDoor.Rz
open Go.RowKit Gf

theorem L_one : L 1 = 0 := by decide +kernel
theorem L_two : L 2 = 1 := by decide +kernel
theorem dv_one {a : Nat} (h0 : 0 < a) : dv 1 a = inv a := by
  unfold dv inv; rw [if_neg (by omega), L_one, Nat.zero_add]
theorem dv_one_zero : dv 1 0 = 0 := rfl
theorem M_dv {a b : Nat} (ha : a < 256) (hb : b < 256) : M a (dv 1 b) = dv a b := by
  by_cases b0 : b = 0
  · subst b0; rw [dv_one_zero, M_zero_right]; unfold dv; rw [if_pos (.inr rfl)]
  · rw [dv_one (by omega)]; unfold inv
    by_cases a0 : a = 0
    · subst a0; rw [M_zero_left]; unfold dv; rw [if_pos (.inl rfl)]
    · have l := L_lt hb (by omega)
      conv => lhs; arg 1; rw [← E_L ha (by omega)]
      rw [M_EE]; unfold dv; rw [if_neg (by omega)]; congr 1; omega
theorem pw_P {x : Nat} {n : Int} (hx : x < 256) (hn : 0 ≤ n) (h : n = 0 ∨ 0 < x) : pw x n = P x (n % 255).toNat := by
  unfold pw; rw [if_neg (by omega)]
  by_cases z : n = 0
  · subst z; rw [if_pos rfl]; rfl
  · rw [if_neg z, if_neg (by omega), P_log hx (by omega)]
theorem pw_two (m : Int) (h : 0 ≤ m) (k : m < 255) : pw 2 m = E m.toNat := by
  rw [pw_P (by omega) h (.inr (by omega)), P_two]; exact E_congr (by omega)

theorem u8_eq {a b : Nat} (h : a = b) : Value.int .u8 (a : Int) = .int .u8 (b : Int) := by rw [h]

set_option maxRecDepth 100000 in
set_option maxHeartbeats 400000 in
theorem rpow_any (x : Nat) (n : Int) (w : World) (hx : x < 256) (n1 : -9223372036854775808 ≤ n) (n2 : n ≤ 9223372036854775807) :
    Calls Tryz.prog 139 #[.int .u8 x, .int .i64 n] w fun e w' => e = .returned (.int .u8 (pw x n : Nat)) ∧ w = w' := by
  by_cases hn : n < 0
  · have e : pw x n = 0 := by unfold pw; rw [if_pos hn]
    rw [e]; clear e
    go_enter Tryz.func139, Tryz.ntmps139
    go_wp2
    go_ret
    exact ⟨rfl, rfl⟩
  by_cases hz : 0 < n ∧ x = 0
  · obtain ⟨h1, rfl⟩ := hz
    have e : pw 0 n = 0 := by unfold pw; rw [if_neg hn, if_neg (by omega), if_pos rfl]
    rw [e]; clear e hn
    go_enter Tryz.func139, Tryz.ntmps139
    go_wp2
    go_ret
    exact ⟨rfl, rfl⟩
  have hn' : 0 ≤ n := by omega
  rw [pw_P hx hn' (by omega)]
  have fin : (0 < n ∧ ((x : Int) == 0) = false) ∨ n = 0 := by
    rcases Int.lt_or_le 0 n with h | h
    · exact .inl ⟨h, by simp; omega⟩
    · exact .inr (by omega)
  clear hz
  rcases fin with ⟨h1, h2⟩ | h1
  · clear hn
    go_enter Tryz.func139, Tryz.ntmps139
    go_wp2
    go_loop [5, 6] (fun p i => ∃ k : Nat, (k : Int) ≤ n % 255 ∧ p = .int .u8 (P x k : Nat) ∧ i = .int .i64 k) (fun _ i => 255 - (intOf i).toNat)
    case atStart => exact ⟨0, by omega, rfl, rfl⟩
    case round =>
      obtain ⟨k, hk, rfl, rfl⟩ := hrel
      by_cases hlt : (k : Int) < n % 255
      · have hp := P_lt (a := x) k
        have hM := fun w => rmul_any (P x k) x w hp hx
        have HP : Hid (P x (k + 1) = M (P x k) x) := rfl
        generalize M (P x k) x = m at *
        generalize P x k = p at *
        go_wp2_with (go_at_call 144; refine (hM _).mono ?_; rintro e w' ⟨rfl, rfl⟩)
        go_round
        case rel => exact ⟨k + 1, by omega, u8_eq HP.out.symm, by go_num⟩
        case measure => simp [intOf]; omega
      · have e : (n % 255).toNat = k := by omega
        obtain ⟨p, hp⟩ : ∃ p, P x k = p := ⟨_, rfl⟩
        have HK : Hid (p = P x (n % 255).toNat) := by rw [e]; exact hp.symm
        clear e
        rw [hp]
        clear hp
        go_wp2
        go_ret
        exact ⟨ret_u8 HK.out, rfl⟩
  · subst h1
    clear hn hn'
    go_enter Tryz.func139, Tryz.ntmps139
    go_wp2
    go_loop [5, 6] (fun p i => p = .int .u8 1 ∧ i = .int .i64 0) (fun _ i => 255 - (intOf i).toNat)
    case atStart => exact ⟨rfl, rfl⟩
    case round =>
      obtain ⟨rfl, rfl⟩ := hrel
      go_wp2
      go_ret
      exact ⟨rfl, rfl⟩

theorem ret2 {u v : Value} {p q : Bool} (h : u = v) (k : p = q) : Ending.returned (.tuple #[u, .bool p]) = .returned (.tuple #[v, .bool q]) := by rw [h, k]

set_option maxRecDepth 100000 in
set_option maxHeartbeats 400000 in
theorem rinv_any (a : Nat) (w : World) (ha : a < 256) :
    Calls Tryz.prog 143 #[.int .u8 a] w fun e w' => e = .returned (.tuple #[.int .u8 (dv 1 a : Nat), .bool (decide (0 < a))]) ∧ w = w' := by
  go_enter Tryz.func143, Tryz.ntmps143
  go_wp2
  go_loop [4] (fun i => ∃ k : Nat, k ≤ 256 ∧ 1 ≤ k ∧ (∀ j, j < k → M a j ≠ 1) ∧ i = .int .i64 k) (fun i => 256 - (intOf i).toNat)
  case atStart => exact ⟨1, by omega, by omega, fun j hj => by rw [show j = 0 by omega, M_zero_right]; omega, rfl⟩
  case round =>
    obtain ⟨k, hk, hk1, hj, rfl⟩ := hrel
    have HJ : Hid (∀ j, j < k → M a j ≠ 1) := hj
    clear hj
    by_cases hlt : k < 256
    · have hE := fun w => rmul_any a k w ha hlt
      by_cases he : M a k = 1
      · have HL : Hid (k = dv 1 a ∧ 0 < a) := by
          obtain ⟨h0, h1⟩ := M_eq_one ha hlt he
          exact ⟨by rw [dv_one h0]; exact h1, h0⟩
        rw [he] at hE
        clear he
        go_wp2_with (go_at_call 144; refine (hE _).mono ?_; rintro e w' ⟨rfl, rfl⟩)
        go_ret2
        exact ⟨ret2 (by rw [← HL.out.1]; rfl) (decide_eq_true HL.out.2).symm, rfl⟩
      · have hd : (((M a k : Nat) : Int) == 1) = false := by simp; omega
        have HN : Hid (∀ j, j < k + 1 → M a j ≠ 1) := fun j hj => by
          rcases Nat.lt_or_ge j k with h | h
          · exact HJ.out j h
          · have e : j = k := by omega
            subst e; exact he
        clear he HJ
        generalize M a k = p at *
        go_wp2_with (go_at_call 144; refine (hE _).mono ?_; rintro e w' ⟨rfl, rfl⟩)
        go_round
        case rel => exact ⟨k + 1, by omega, by omega, HN.out, by go_num⟩
        case measure => simp [intOf]; omega
    · have HZ : Hid (a = 0) := by
        rcases Nat.eq_zero_or_pos a with z | z
        · exact z
        · exact absurd (M_inv ha z) (HJ.out (inv a) (by have := inv_lt a; omega))
      clear HJ
      go_wp2
      go_ret2
      exact ⟨ret2 (by rw [HZ.out, dv_one_zero]; rfl) (by rw [HZ.out]; rfl), rfl⟩

end Go.Proofs.YtebngmgdciahiaaGreatDoor.Rz

namespace Go.Proofs.YtebngmgdciahiaaGreatDoor.Rz
open Go.RowKit Gf
attribute [local go_sem ↓] Go.wp_at_zero Go.wp_at_succ

/-- A slice of n bytes in memory from block B on, not frozen: f 0, f 1 .. -/
def Fresh (B : Nat) (w : World) (a : Option Addr) (n : Nat) (f : Nat → Nat) : Prop :=
  0 < n → ∃ g, a = some ⟨g, 0, none⟩ ∧ B ≤ g ∧ (∀ i, i < n → w.cell? ⟨g, i, none⟩ = some (.int .u8 ((f i : Nat) : Int))) ∧ ∀ i, i < n → w.frozen? ⟨g, i, none⟩ = false

theorem Fresh.row {B : Nat} {w : World} {a : Option Addr} {n : Nat} {f : Nat → Nat} (h : Fresh B w a n f) (hf : ∀ i, f i < 256) : Row w a n f := by
  refine ⟨hf, fun hn => ?_⟩
  obtain ⟨g, e, _, hc, _⟩ := h hn
  exact ⟨g, 0, e, fun i hi => by rw [Nat.zero_add]; exact hc i hi⟩

theorem appended {w : World} {a : Option Addr} {n c : Nat} {f : Nat → Nat} (h : Row w a n f) (hnil : a = none → n = 0 ∧ c = 0) (hn : n ≤ 140737488355328) :
    ∃ a' c' W, Sem.run Tryz.prog (Builtin.append_ #[27, 27] 27 #[.slice none 0 0, .slice a n c]) w = .ok (.slice a' n c') W ∧ Fresh w.heap.size W a' n f ∧ Below w.heap.size w W := by
  obtain ⟨i, hi, hzz⟩ := Option.map_eq_some_iff.1 info5
  simp only [Prod.mk.injEq] at hzz
  obtain ⟨hz, hs, hb⟩ := hzz
  have h0 := World.ownsRow_nil w w.heap.size 5 1
  cases a with
  | none =>
    obtain ⟨rfl, rfl⟩ := hnil rfl
    exact ⟨none, 0, w, run_append_owned_none (P := Tryz.prog) w w.heap.size 27 27 5 i 1 Tryz.underlying27 hi _ 0 [] h0, fun h => absurd h (by omega), Below.refl _ _⟩
  | some ad =>
    obtain ⟨cs, hcs⟩ : ∃ cs, cs = (List.range n).map fun i => Value.int .u8 ((f i : Nat) : Int) := ⟨_, rfl⟩
    have hl : cs.length = n := by rw [hcs]; simp
    have hat : ∀ j, j < n → cs[j]? = some (.int .u8 ((f j : Nat) : Int)) := fun j hj => by rw [hcs]; simp [hj]
    obtain ⟨v', w', hr, hown, hgrow, hnl, hblk⟩ := run_append_own_at (P := Tryz.prog) w w.heap.size 27 27 5 i (.int .u8 0) 1 1 Tryz.underlying27 hi hz hs hb rfl (by omega) (.slice none 0 0) 0 [] h0 ad n c cs (by omega)
      (fun j u hu => by
        have hj : j < n := by rw [← hl]; exact (List.getElem?_eq_some_iff.1 hu).1
        rw [hat j hj] at hu; injection hu with hu
        obtain ⟨b, o, e, hc⟩ := h.lies (by omega)
        injection e with e
        subst e
        have e : (⟨b, o, none⟩ : Addr).add j = ⟨b, o + j, none⟩ := by unfold Addr.add; split <;> simp_all
        rw [e, hc j hj, hu]) (fun v hv => by rw [hcs] at hv; simp at hv; obtain ⟨_, _, rfl⟩ := hv; rfl) (by unfold maxLen; omega) (by omega) (Nat.le_refl _)
    have hbel : Below w.heap.size w w' := (Below.refl w.heap.size w).grown hgrow (Nat.le_refl _) (fun k hk => by simp [Value.ownBlock] at hk)
    rw [Nat.zero_add, List.nil_append] at hown
    rcases hown.2 with ⟨e, e0⟩ | ⟨g, cap, cur, e, hg, _⟩
    · subst e0; subst e
      exact ⟨none, 0, w', hr, fun h => absurd h (by omega), hbel⟩
    · subst e
      refine ⟨_, cap, w', hr, fun _ => ⟨g, rfl, hg, fun j hj => ?_, fun j _ => hown.frozenAt j⟩, hbel⟩
      rw [hown.cellAt j (by omega), hat j hj]

/-- At an append whose run is known. -/
theorem wpList_append_ran {P : Program} {w : World} {ops : Array Oper} {rest : List Oper} {o : Oper} {a : Act} {Q : Exit → Act → World → Prop} (hgd : o.guard = none) (s x : Operand) (t : TypeId)
    (ho : o.op = .call { callee := .builtin .append, args := #[s, x], argTypes := #[t, t] }) (u v r : Value) (w' : World) (hs : a.eval s = u) (hx : a.eval x = v)
    (hr : Sem.run P (Builtin.append_ #[t, t] o.type #[u, v]) w = .ok r w') (h : wpList P ops Q rest (a.put o.dst r) w') : wpList P ops Q (o :: rest) a w := by
  refine wpList_plain hgd fun K hK => ?_
  unfold Oper.wp execOp
  simp only [ho, resolve, invoke, builtin, Sem.run_bind, Sem.run_pure, Result.andThen_ok, List.map_toArray, List.map_cons, List.map_nil, hs, hx, hr]
  exact hK _ _ h

end Go.Proofs.YtebngmgdciahiaaGreatDoor.Rz

namespace Go.Proofs.YtebngmgdciahiaaGreatDoor.Rz
open Go.RowKit Gf

/-- The bytes f 0 .. f (n - 1) as a string. -/
def str (f : Nat → Nat) (n : Nat) : ByteArray := strOfNums ((List.range n).map fun i => ((f i : Nat) : Int))
theorem str_congr {f g : Nat → Nat} {n : Nat} (h : ∀ i, i < n → f i = g i) : str f n = str g n := by
  unfold str; congr 1
  apply List.map_congr_left
  intro i hi
  rw [h i (List.mem_range.1 hi)]

theorem conv_row {w : World} {a : Option Addr} {n c : Nat} {f : Nat → Nat} (h : Row w a n f) (hnil : a = none → n = 0) :
    Sem.run Tryz.prog (convert 27 9 (.slice a n c)) w = .ok (.string (str f n)) w := by
  by_cases hn : n = 0
  · subst hn
    cases a with
    | none => exact run_convert_bytes_nil (P := Tryz.prog) w 27 5 Tryz.underlying27 Tryz.underlying5 0 c 9 Tryz.underlying9
    | some x =>
      have hl : (loadCells x 0).run Tryz.prog w = .ok (([] : List Int).map (Value.int .u8)).toArray w := by
        simpa using run_loadCells_list (P := Tryz.prog) w x [] (by simp)
      have := run_bytesToString (P := Tryz.prog) w x 0 c [] hl
      rw [run_convert_bytes_string (P := Tryz.prog) w 27 9 5 (some x) 0 c Tryz.underlying27 Tryz.underlying5 Tryz.underlying9, this]
      rfl
  · obtain ⟨b, o, rfl, hc⟩ := h.lies (by omega)
    exact run_convert_bytes_arg (P := Tryz.prog) w 27 5 Tryz.underlying27 Tryz.underlying5 b o n c _ (by simp) (fun i hi => by rw [hc i hi]; simp [hi]) 9 Tryz.underlying9
end Go.Proofs.YtebngmgdciahiaaGreatDoor.Rz

namespace Go.Proofs.YtebngmgdciahiaaGreatDoor.Rz.Gf

/-- The sum of f 0 .. f (k - 1). -/
def xs : Nat → (Nat → Nat) → Nat
  | 0, _ => 0
  | k + 1, f => xs k f ^^^ f k

theorem xor_zero_eq {a b : Nat} (h : a ^^^ b = 0) : a = b := by
  have e : (a ^^^ b) ^^^ b = a := by rw [Nat.xor_assoc, Nat.xor_self, Nat.xor_zero]
  rw [← e, h, Nat.zero_xor]
theorem xor4 (a b c d : Nat) : (a ^^^ b) ^^^ (c ^^^ d) = (a ^^^ c) ^^^ (b ^^^ d) := by
  rw [Nat.xor_assoc, Nat.xor_assoc]; congr 1
  rw [← Nat.xor_assoc, ← Nat.xor_assoc, Nat.xor_comm b c]

theorem xs_congr {k : Nat} {f g : Nat → Nat} (h : ∀ i, i < k → f i = g i) : xs k f = xs k g := by
  induction k with
  | zero => rfl
  | succ k ih => show xs k f ^^^ f k = xs k g ^^^ g k; rw [ih fun i hi => h i (by omega), h k (by omega)]
theorem xs_lt {k : Nat} {f : Nat → Nat} (h : ∀ i, i < k → f i < 256) : xs k f < 256 := by
  induction k with
  | zero => show 0 < 256; omega
  | succ k ih => exact xor_lt (ih fun i hi => h i (by omega)) (h k (by omega))
theorem xs_zero {k : Nat} {f : Nat → Nat} (h : ∀ i, i < k → f i = 0) : xs k f = 0 := by
  induction k with
  | zero => rfl
  | succ k ih => show xs k f ^^^ f k = 0; rw [ih fun i hi => h i (by omega), h k (by omega)]; rfl
theorem xs_xor (k : Nat) (f g : Nat → Nat) : xs k (fun i => f i ^^^ g i) = xs k f ^^^ xs k g := by
  induction k with
  | zero => show 0 = 0 ^^^ 0; simp
  | succ k ih => show xs k _ ^^^ _ = (xs k f ^^^ f k) ^^^ (xs k g ^^^ g k); rw [ih, xor4]
theorem xs_mul_left (c k : Nat) (f : Nat → Nat) : M c (xs k f) = xs k (fun i => M c (f i)) := by
  induction k with
  | zero => exact M_zero_right c
  | succ k ih => show M c (xs k f ^^^ f k) = _; rw [M_xor, ih]; rfl
theorem xs_mul_right {c k : Nat} {f : Nat → Nat} (hc : c < 256) (h : ∀ i, i < k → f i < 256) : M (xs k f) c = xs k (fun i => M (f i) c) := by
  rw [M_comm (xs_lt h) hc, xs_mul_left]
  exact xs_congr fun i hi => M_comm hc (h i hi)
theorem xs_swap (k l : Nat) (f : Nat → Nat → Nat) : xs k (fun i => xs l (fun j => f i j)) = xs l (fun j => xs k (fun i => f i j)) := by
  induction k with
  | zero => exact (xs_zero fun _ _ => rfl).symm
  | succ k ih => show xs k _ ^^^ xs l _ = _; rw [ih, ← xs_xor]; rfl
theorem xs_single {k t : Nat} {f : Nat → Nat} (ht : t < k) (h : ∀ i, i < k → i ≠ t → f i = 0) : xs k f = f t := by
  induction k with
  | zero => omega
  | succ k ih =>
    show xs k f ^^^ f k = f t
    by_cases e : t = k
    · subst e; rw [xs_zero fun i hi => h i (by omega) (by omega), Nat.zero_xor]
    · rw [h k (by omega) (by omega), Nat.xor_zero]
      exact ih (by omega) fun i hi hne => h i (by omega) hne

/-- Entries of the field. -/
def B (a : Nat → Nat → Nat) : Prop := ∀ i j, a i j < 256
/-- The product; k: a's columns, b's rows. -/
def mm (k : Nat) (a b : Nat → Nat → Nat) : Nat → Nat → Nat := fun i j => xs k (fun t => M (a i t) (b t j))
/-- The unit. -/
def one : Nat → Nat → Nat := fun i j => if i = j then 1 else 0
/-- A matrix times a column. -/
def mv (k : Nat) (a : Nat → Nat → Nat) (v : Nat → Nat) : Nat → Nat := fun i => xs k (fun t => M (a i t) (v t))

theorem one_B : B one := fun i j => by unfold one; split <;> omega
theorem mm_B {k : Nat} {a b : Nat → Nat → Nat} (ha : B a) : B (mm k a b) := fun i _ => xs_lt fun t _ => M_lt _ (ha i t)
theorem mv_lt {k : Nat} {a : Nat → Nat → Nat} {v : Nat → Nat} (ha : B a) (i : Nat) : mv k a v i < 256 := xs_lt fun t _ => M_lt _ (ha i t)
theorem mm_assoc {k l : Nat} {a b c : Nat → Nat → Nat} (ha : B a) (hb : B b) (hc : B c) (i j : Nat) : mm l (mm k a b) c i j = mm k a (mm l b c) i j := by
  unfold mm
  rw [xs_congr (g := fun t => xs k (fun s => M (a i s) (M (b s t) (c t j)))), xs_swap]
  · exact xs_congr fun s _ => (xs_mul_left _ _ _).symm
  · intro t _
    rw [xs_mul_right (hc t j) fun s _ => M_lt _ (ha i s)]
    exact xs_congr fun s _ => M_assoc (ha i s) (hb s t) (hc t j)
theorem mv_mm {k l : Nat} {a b : Nat → Nat → Nat} {v : Nat → Nat} (ha : B a) (hb : B b) (hv : ∀ i, v i < 256) (i : Nat) : mv l (mm k a b) v i = mv k a (mv l b v) i :=
  mm_assoc (c := fun i _ => v i) ha hb (fun i _ => hv i) i 0
theorem mm_congr {k : Nat} {a a' b b' : Nat → Nat → Nat} {i j : Nat} (h : ∀ t, t < k → a i t = a' i t) (g : ∀ t, t < k → b t j = b' t j) : mm k a b i j = mm k a' b' i j :=
  xs_congr fun t ht => by rw [h t ht, g t ht]
theorem mv_congr {k : Nat} {a a' : Nat → Nat → Nat} {v v' : Nat → Nat} {i : Nat} (h : ∀ t, t < k → a i t = a' i t) (g : ∀ t, t < k → v t = v' t) : mv k a v i = mv k a' v' i :=
  xs_congr fun t ht => by rw [h t ht, g t ht]
theorem mm_one_left {n i j : Nat} {a : Nat → Nat → Nat} (ha : B a) (hi : i < n) : mm n one a i j = a i j := by
  unfold mm
  rw [xs_single hi fun t _ hne => by unfold one; rw [if_neg (by omega), M_zero_left]]
  unfold one; rw [if_pos rfl, M_one_left (ha i j)]
theorem mm_one_right {n i j : Nat} {a : Nat → Nat → Nat} (ha : B a) (hj : j < n) : mm n a one i j = a i j := by
  unfold mm
  rw [xs_single hj fun t _ hne => by unfold one; rw [if_neg (by omega), M_zero_right]]
  unfold one; rw [if_pos rfl, M_one_right (ha i j)]
theorem mv_one {n i : Nat} {v : Nat → Nat} (hv : ∀ i, v i < 256) (hi : i < n) : mv n one v i = v i :=
  mm_one_left (a := fun i _ => v i) (j := 0) (fun i _ => hv i) hi
theorem mv_zero {n i : Nat} {a : Nat → Nat → Nat} {v : Nat → Nat} (h : ∀ t, t < n → v t = 0) : mv n a v i = 0 := xs_zero fun t ht => by rw [h t ht, M_zero_right]

/-- No column but nought is made nought by it. -/
def Inj (n : Nat) (a : Nat → Nat → Nat) : Prop := ∀ v, (∀ i, v i < 256) → (∀ i, i < n → mv n a v i = 0) → ∀ i, i < n → v i = 0
/-- x is a's inverse, either way round. -/
structure IsInv (n : Nat) (a x : Nat → Nat → Nat) : Prop where
  left : ∀ i, i < n → ∀ j, j < n → mm n x a i j = one i j
  right : ∀ i, i < n → ∀ j, j < n → mm n a x i j = one i j

theorem IsInv.symm {n : Nat} {a x : Nat → Nat → Nat} (h : IsInv n a x) : IsInv n x a := ⟨h.right, h.left⟩
theorem IsInv.inj {n : Nat} {a x : Nat → Nat → Nat} (h : IsInv n a x) (ha : B a) (hx : B x) : Inj n a := by
  intro v hv hz i hi
  have e : mv n (mm n x a) v i = v i := by
    rw [← mv_one hv hi]; exact mv_congr (fun t ht => h.left i hi t ht) fun _ _ => rfl
  rw [← e, mv_mm hx ha hv]; exact mv_zero hz
theorem IsInv.unique {n : Nat} {a x y : Nat → Nat → Nat} (h : IsInv n a x) (k : IsInv n a y) (ha : B a) (hx : B x) (hy : B y) : ∀ i, i < n → ∀ j, j < n → x i j = y i j := by
  intro i hi j hj
  rw [← mm_one_right hx hj, mm_congr (b' := mm n a y) (fun _ _ => rfl) fun t ht => (k.right t ht j hj).symm, ← mm_assoc hx ha hy, mm_congr (a' := one) (b' := y) (fun t ht => h.left i hi t ht) fun _ _ => rfl, mm_one_left hy hi]

/-- What the elimination keeps: y times a is x, and y makes no column but nought nought. -/
structure Elim (n : Nat) (a x y : Nat → Nat → Nat) : Prop where
  bx : B x
  bys : B y
  rel : ∀ i, i < n → ∀ j, j < n → mm n y a i j = x i j
  inj : Inj n y
theorem Elim.start {n : Nat} {a : Nat → Nat → Nat} (ha : B a) : Elim n a a one :=
  ⟨ha, one_B, fun _ hi _ _ => mm_one_left ha hi, fun v hv hz i hi => by rw [← mv_one hv hi]; exact hz i hi⟩
/-- Two rows exchanged. -/
def swp (c p : Nat) (x : Nat → Nat → Nat) : Nat → Nat → Nat := fun i => if i = c then x p else if i = p then x c else x i
/-- Row c times f. -/
def scl (c f : Nat) (x : Nat → Nat → Nat) : Nat → Nat → Nat := fun i j => if i = c then M (x c j) f else x i j
/-- g times row c added to row r. -/
def addr (r c g : Nat) (x : Nat → Nat → Nat) : Nat → Nat → Nat := fun i j => if i = r then x r j ^^^ M g (x c j) else x i j
theorem Elim.swap {n c p : Nat} {a x y : Nat → Nat → Nat} (h : Elim n a x y) (hc : c < n) (hp : p < n) : Elim n a (swp c p x) (swp c p y) := by
  refine ⟨fun i j => ?_, fun i j => ?_, fun i hi j hj => ?_, fun v hv hz i hi => ?_⟩
  · unfold swp; split; exact h.bx _ _; split <;> exact h.bx _ _
  · unfold swp; split; exact h.bys _ _; split <;> exact h.bys _ _
  · show xs n (fun t => M (swp c p y i t) (a t j)) = swp c p x i j
    by_cases e : i = c
    · rw [show swp c p y i = y p by unfold swp; rw [if_pos e], show swp c p x i = x p by unfold swp; rw [if_pos e]]
      exact h.rel p hp j hj
    · by_cases q : i = p
      · rw [show swp c p y i = y c by unfold swp; rw [if_neg e, if_pos q], show swp c p x i = x c by unfold swp; rw [if_neg e, if_pos q]]
        exact h.rel c hc j hj
      · rw [show swp c p y i = y i by unfold swp; rw [if_neg e, if_neg q], show swp c p x i = x i by unfold swp; rw [if_neg e, if_neg q]]
        exact h.rel i hi j hj
  · refine h.inj v hv (fun t ht => ?_) i hi
    by_cases e : t = c
    · subst e
      have := hz p hp
      unfold mv swp at this
      by_cases q : p = t
      · subst q; simpa [mv] using this
      · simpa [q, mv] using this
    · by_cases q : t = p
      · subst q
        have := hz c hc
        unfold mv swp at this
        simpa [mv] using this
      · have := hz t ht
        unfold mv swp at this
        simpa [e, q, mv] using this
theorem M_ne_zero {a f : Nat} (ha : a < 256) (hf : f < 256) (f0 : 0 < f) (h : M a f = 0) : a = 0 := by
  rcases Nat.eq_zero_or_pos a with z | z
  · exact z
  · have := M_pos ha hf z f0; omega
theorem Elim.scale {n c f : Nat} {a x y : Nat → Nat → Nat} (h : Elim n a x y) (ha : B a) (hf : f < 256) (f0 : 0 < f) : Elim n a (scl c f x) (scl c f y) := by
  refine ⟨fun i j => ?_, fun i j => ?_, fun i hi j hj => ?_, fun v hv hz i hi => ?_⟩
  · unfold scl; split; exact M_lt _ (h.bx _ _); exact h.bx _ _
  · unfold scl; split; exact M_lt _ (h.bys _ _); exact h.bys _ _
  · unfold scl mm
    by_cases e : i = c
    · subst e
      simp only [if_true]
      rw [← h.rel i hi j hj]
      unfold mm
      rw [xs_mul_right hf fun t _ => M_lt _ (h.bys i t)]
      refine xs_congr fun t _ => ?_
      rw [M_assoc (h.bys i t) hf (ha t j), M_comm hf (ha t j), ← M_assoc (h.bys i t) (ha t j) hf]
    · simp only [if_neg e]; exact h.rel i hi j hj
  · refine h.inj v hv (fun t ht => ?_) i hi
    have := hz t ht
    unfold mv scl at this
    by_cases e : t = c
    · subst e
      simp only [if_true] at this
      refine M_ne_zero (mv_lt h.bys t) hf f0 ?_
      unfold mv
      rw [xs_mul_right hf fun s _ => M_lt _ (h.bys t s), ← this]
      refine xs_congr fun s _ => ?_
      rw [M_assoc (h.bys t s) (hv s) hf, M_comm (hv s) hf, ← M_assoc (h.bys t s) hf (hv s)]
    · simp only [if_neg e] at this; exact this
theorem Elim.add {n r c g : Nat} {a x y : Nat → Nat → Nat} (h : Elim n a x y) (ha : B a) (hr : r < n) (hc : c < n) (hne : r ≠ c) (hg : g < 256) : Elim n a (addr r c g x) (addr r c g y) := by
  refine ⟨fun i j => ?_, fun i j => ?_, fun i hi j hj => ?_, fun v hv hz i hi => ?_⟩
  · unfold addr; split; exact xor_lt (h.bx _ _) (M_lt _ hg); exact h.bx _ _
  · unfold addr; split; exact xor_lt (h.bys _ _) (M_lt _ hg); exact h.bys _ _
  · unfold addr mm
    by_cases e : i = r
    · subst e
      simp only [if_true]
      rw [← h.rel i hi j hj, ← h.rel c hc j hj]
      unfold mm
      rw [xs_mul_left, ← xs_xor]
      refine xs_congr fun t _ => ?_
      rw [M_xor_left (h.bys i t) (M_lt _ hg) (ha t j), M_assoc hg (h.bys c t) (ha t j)]
    · simp only [if_neg e]; exact h.rel i hi j hj
  · have key : ∀ t, t < n → mv n y v t = 0 := by
      have zc : mv n y v c = 0 := by
        have := hz c hc
        unfold mv addr at this
        simp only [if_neg (Ne.symm hne)] at this
        exact this
      intro t ht
      have := hz t ht
      unfold mv addr at this
      by_cases e : t = r
      · subst e
        simp only [if_true] at this
        rw [xs_congr (g := fun s => M (y t s) (v s) ^^^ M g (M (y c s) (v s))) (fun s _ => by rw [M_xor_left (h.bys t s) (M_lt _ hg) (hv s), M_assoc hg (h.bys c s) (hv s)]), xs_xor, ← xs_mul_left] at this
        have zc' : xs n (fun s => M (y c s) (v s)) = 0 := zc
        rw [zc', M_zero_right, Nat.xor_zero] at this
        exact this
      · simp only [if_neg e] at this; exact this
    exact h.inj v hv key i hi
/-- At the end, x the unit: y is the inverse. -/
theorem Elim.done {n : Nat} {a x y : Nat → Nat → Nat} (h : Elim n a x y) (ha : B a) (hx : ∀ i, i < n → ∀ j, j < n → x i j = one i j) : IsInv n a y := by
  have left : ∀ i, i < n → ∀ j, j < n → mm n y a i j = one i j := fun i hi j hj => (h.rel i hi j hj).trans (hx i hi j hj)
  refine ⟨left, fun i hi j hj => ?_⟩
  -- y (a y) = y, and y makes no column but nought nought: so a y is the unit
  have hv : ∀ t, (mm n a y t j ^^^ one t j) < 256 := fun t => xor_lt (mm_B ha t j) (one_B t j)
  have z : ∀ s, s < n → mv n y (fun t => mm n a y t j ^^^ one t j) s = 0 := by
    intro s hs
    unfold mv
    rw [xs_congr (g := fun t => M (y s t) (mm n a y t j) ^^^ M (y s t) (one t j)) (fun t _ => M_xor _ _ _), xs_xor]
    have e1 : xs n (fun t => M (y s t) (mm n a y t j)) = y s j := by
      show mm n y (mm n a y) s j = _
      rw [← mm_assoc h.bys ha h.bys, mm_congr (a' := one) (b' := y) (fun t ht => left s hs t ht) fun _ _ => rfl, mm_one_left h.bys hs]
    have e2 : xs n (fun t => M (y s t) (one t j)) = y s j := mm_one_right h.bys hj
    rw [e1, e2, Nat.xor_self]
  exact xor_zero_eq (h.inj _ hv z i hi)
/-- If x makes a column that is not nought nought, so does a. -/
theorem Elim.sing {n : Nat} {a x y : Nat → Nat → Nat} (h : Elim n a x y) (ha : B a) {v : Nat → Nat} (hv : ∀ i, v i < 256) (hz : ∀ i, i < n → mv n x v i = 0) : ∀ i, i < n → mv n a v i = 0 := by
  refine h.inj _ (fun i => mv_lt ha i) fun i hi => ?_
  rw [← mv_mm h.bys ha hv, ← hz i hi]
  exact mv_congr (fun t ht => h.rel i hi t ht) fun _ _ => rfl
/-- No pivot in column c: a makes a column that is not nought nought. -/
theorem Elim.stuck {n c : Nat} {a x y : Nat → Nat → Nat} (h : Elim n a x y) (ha : B a) (hc : c < n) (hred : ∀ i, i < n → ∀ j, j < c → x i j = one i j) (hz : ∀ i, i < n → c ≤ i → x i c = 0) : ¬ Inj n a := by
  intro hinj
  have hv : ∀ i, (if i < c then x i c else if i = c then 1 else 0) < 256 := fun i => by
    split; exact h.bx _ _; split <;> omega
  have key : ∀ i, i < n → mv n x (fun i => if i < c then x i c else if i = c then 1 else 0) i = 0 := by
    intro i hi
    -- the sum over the columns below c is x i c, where i is below c, and nought else; column c gives x i c; the others nought
    have split3 : mv n x (fun i => if i < c then x i c else if i = c then 1 else 0) i = xs n (fun t => (if t = i ∧ i < c then x i c else 0) ^^^ (if t = c then x i c else 0)) := by
      refine xs_congr fun t ht => ?_
      dsimp only
      by_cases l : t < c
      · rw [if_pos l, hred i hi t l]
        unfold one
        by_cases e : i = t
        · subst e
          rw [if_pos rfl, M_one_left (h.bx _ _), if_pos ⟨rfl, l⟩, if_neg (by omega), Nat.xor_zero]
        · rw [if_neg e, M_zero_left, if_neg (by omega), if_neg (by omega)]; rfl
      · rw [if_neg l]
        by_cases e : t = c
        · subst e
          rw [if_pos rfl, M_one_right (h.bx _ _), if_neg (by omega), if_pos rfl, Nat.zero_xor]
        · rw [if_neg e, M_zero_right, if_neg (by omega), if_neg e]; rfl
    have e2 : xs n (fun t => if t = c then x i c else 0) = x i c := by rw [xs_single (t := c) hc (fun t _ hne => by rw [if_neg hne]), if_pos rfl]
    rw [split3, xs_xor, e2]
    by_cases l : i < c
    · rw [xs_single (t := i) hi (fun t _ hne => by rw [if_neg (by omega)]), if_pos ⟨rfl, l⟩, Nat.xor_self]
    · rw [xs_zero fun t _ => by rw [if_neg (by omega)], hz i hi (by omega)]; rfl
  have := hinj _ hv (h.sing ha hv key) c hc
  rw [if_neg (by omega), if_pos rfl] at this
  omega

/-- Horner's way: v 0 is the highest. -/
def hn : Nat → (Nat → Nat) → Nat → Nat
  | 0, _, _ => 0
  | k + 1, v, z => M z (hn k v z) ^^^ v k
theorem hn_lt {n : Nat} {v : Nat → Nat} {z : Nat} (hv : ∀ i, v i < 256) (hz : z < 256) : hn n v z < 256 := by
  cases n with
  | zero => show 0 < 256; omega
  | succ n => exact xor_lt (M_lt _ hz) (hv n)
theorem hn_div (n : Nat) {v : Nat → Nat} {z r : Nat} (hv : ∀ i, v i < 256) (hz : z < 256) (hr : r < 256) :
    hn (n + 1) v z = M (z ^^^ r) (hn n (fun k => hn (k + 1) v r) z) ^^^ hn (n + 1) v r := by
  induction n with
  | zero =>
    show M z 0 ^^^ v 0 = M (z ^^^ r) 0 ^^^ (M r 0 ^^^ v 0)
    rw [M_zero_right, M_zero_right, M_zero_right, Nat.zero_xor, Nat.zero_xor]
  | succ n ih =>
    have hw := hn_lt (n := n) (v := fun k => hn (k + 1) v r) (z := z) (fun k => hn_lt hv hr) hz
    have hu := hn_lt (n := n + 1) (v := v) (z := r) hv hr
    have hx := xor_lt hz hr
    show M z (hn (n + 1) v z) ^^^ v (n + 1) = M (z ^^^ r) (M z (hn n (fun k => hn (k + 1) v r) z) ^^^ hn (n + 1) v r) ^^^ (M r (hn (n + 1) v r) ^^^ v (n + 1))
    rw [ih]
    generalize hn n (fun k => hn (k + 1) v r) z = w at *
    generalize hn (n + 1) v r = u at *
    rw [M_xor, M_xor, ← M_assoc hz hx hw, ← M_assoc hx hz hw, M_comm hz hx, M_xor_left hz hr hu]
    rw [Nat.xor_assoc, Nat.xor_assoc, Nat.xor_assoc, ← Nat.xor_assoc (M r u), Nat.xor_self, Nat.zero_xor]
/-- As many roots as there are numbers: all are nought. -/
theorem hn_roots (n : Nat) : ∀ (v r : Nat → Nat), (∀ i, v i < 256) → (∀ i, i < n → r i < 256) → (∀ i, i < n → ∀ j, j < n → r i = r j → i = j) → (∀ i, i < n → hn n v (r i) = 0) → ∀ k, k < n → v k = 0 := by
  induction n with
  | zero => intro v r _ _ _ _ k hk; omega
  | succ n ih =>
    intro v r hv hr hd hz
    have hw := ih (fun k => hn (k + 1) v (r n)) r (fun k => hn_lt hv (hr n (by omega))) (fun i hi => hr i (by omega)) (fun i hi j hj => hd i (by omega) j (by omega)) (fun i hi => by
      have e := hn_div n hv (hr i (by omega)) (hr n (by omega))
      rw [hz i (by omega), hz n (by omega), Nat.xor_zero] at e
      have hne : 0 < r i ^^^ r n := by
        rcases Nat.eq_zero_or_pos (r i ^^^ r n) with q | q
        · have := hd i (by omega) n (by omega) (xor_zero_eq q); omega
        · exact q
      have lx := xor_lt (hr i (by omega)) (hr n (by omega))
      have lw := hn_lt (n := n) (v := fun k => hn (k + 1) v (r n)) (z := r i) (fun k => hn_lt hv (hr n (by omega))) (hr i (by omega))
      rw [M_comm lx lw] at e
      exact M_ne_zero lw lx hne e.symm)
    have part : ∀ k, k ≤ n → hn k v (r n) = 0 := fun k hk => by
      cases k with
      | zero => rfl
      | succ k => exact hw k (by omega)
    intro k hk
    by_cases e : k = n
    · subst e
      have := hz k (by omega)
      have q : M (r k) (hn k v (r k)) ^^^ v k = 0 := this
      rw [part k (by omega), M_zero_right, Nat.zero_xor] at q
      exact q
    · have q : M (r n) (hn k v (r n)) ^^^ v k = 0 := part (k + 1) (by omega)
      rw [part k (by omega), M_zero_right, Nat.zero_xor] at q
      exact q
theorem xs_succ_left (n : Nat) (f : Nat → Nat) : xs (n + 1) f = f 0 ^^^ xs n (fun i => f (i + 1)) := by
  induction n with
  | zero => show 0 ^^^ f 0 = f 0 ^^^ 0; rw [Nat.zero_xor, Nat.xor_zero]
  | succ n ih => show xs (n + 1) f ^^^ f (n + 1) = f 0 ^^^ (xs n (fun i => f (i + 1)) ^^^ f (n + 1)); rw [ih, Nat.xor_assoc]
theorem xs_rev (n : Nat) : ∀ (f : Nat → Nat), xs n (fun k => f (n - 1 - k)) = xs n f := by
  induction n with
  | zero => intro f; rfl
  | succ n ih =>
    intro f
    rw [xs_succ_left]
    show f (n + 1 - 1 - 0) ^^^ xs n (fun i => f (n + 1 - 1 - (i + 1))) = xs n f ^^^ f n
    rw [Nat.xor_comm, show n + 1 - 1 - 0 = n by omega]; congr 1
    rw [← ih f]
    exact xs_congr fun i _ => by congr 1; omega
theorem hn_sum {z : Nat} (hz : z < 256) {v : Nat → Nat} (hv : ∀ i, v i < 256) (n : Nat) : hn n v z = xs n (fun k => M (P z (n - 1 - k)) (v k)) := by
  induction n with
  | zero => rfl
  | succ n ih =>
    show M z (hn n v z) ^^^ v n = xs n (fun k => M (P z (n + 1 - 1 - k)) (v k)) ^^^ M (P z (n + 1 - 1 - n)) (v n)
    rw [show n + 1 - 1 - n = 0 by omega, show P z 0 = 1 from rfl, M_one_left (hv n), ih, xs_mul_left]
    congr 1
    refine xs_congr fun k hk => ?_
    rw [show n + 1 - 1 - k = (n - 1 - k) + 1 by omega]
    show M z (M (P z (n - 1 - k)) (v k)) = M (M (P z (n - 1 - k)) z) (v k)
    rw [M_comm (P_lt _) hz, M_assoc hz (P_lt _) (hv k)]
/-- Vandermonde's rows, of numbers that are all unlike, make no column but nought nought. -/
theorem vander_inj {n : Nat} {r : Nat → Nat} (hr : ∀ i, i < n → r i < 256) (hd : ∀ i, i < n → ∀ j, j < n → r i = r j → i = j) : Inj n (fun i j => P (r i) j) := by
  intro v hv hz i hi
  have := hn_roots n (fun k => v (n - 1 - k)) r (fun _ => hv _) hr hd (fun i hi => by
    rw [hn_sum (hr i hi) (fun _ => hv _), ← hz i hi]
    exact xs_rev n (fun t => M (P (r i) t) (v t))) (n - 1 - i) (by omega)
  rwa [show n - 1 - (n - 1 - i) = i by omega] at this
/-- A product of two that make no column but nought nought makes none so. -/
theorem Inj.mul {n : Nat} {a b : Nat → Nat → Nat} (ha : B a) (hb : B b) (h : Inj n a) (k : Inj n b) : Inj n (mm n a b) := by
  intro v hv hz i hi
  refine k v hv (h _ (fun i => mv_lt hb i) fun t ht => ?_) i hi
  rw [← mv_mm ha hb hv]; exact hz t ht
theorem Inj.congr {n : Nat} {a b : Nat → Nat → Nat} (h : Inj n a) (e : ∀ i, i < n → ∀ j, j < n → a i j = b i j) : Inj n b := by
  intro v hv hz i hi
  refine h v hv (fun t ht => ?_) i hi
  rw [← hz t ht]; exact mv_congr (fun s hs => e t ht s hs) fun _ _ => rfl
theorem vander_B (r : Nat → Nat) : B (fun i j => P (r i) j) := fun _ _ => P_lt _
theorem IsInv.congr {n : Nat} {a b x y : Nat → Nat → Nat} (h : IsInv n a x) (e : ∀ i, i < n → ∀ j, j < n → a i j = b i j) (d : ∀ i, i < n → ∀ j, j < n → x i j = y i j) : IsInv n b y :=
  ⟨fun i hi j hj => by rw [← h.left i hi j hj]; exact mm_congr (fun t ht => (d i hi t ht).symm) fun t ht => (e t ht j hj).symm,
   fun i hi j hj => by rw [← h.right i hi j hj]; exact mm_congr (fun t ht => (e i hi t ht).symm) fun t ht => (d t ht j hj).symm⟩
end Go.Proofs.YtebngmgdciahiaaGreatDoor.Rz.Gf
