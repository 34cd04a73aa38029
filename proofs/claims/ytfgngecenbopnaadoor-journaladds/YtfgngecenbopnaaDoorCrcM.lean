/-
  Plain mathematics of a sum with the polynomial 0x1EDC6F41, bits turned round: it goes the same way as exclusive or, and 32 bits in a row that are not all nought leave no sum of nought.
-/
import Derived.KernelRfl
namespace Go.Proofs.YtfgngecenbopnaaDoor
namespace Crc

/-- One bit on. -/
def st (s : Nat) : Nat := if s % 2 = 1 then s / 2 ^^^ 2197175160 else s / 2
theorem half_xor (a b : Nat) : (a ^^^ b) / 2 = a / 2 ^^^ b / 2 := by
  have := Nat.shiftRight_xor_distrib (a := a) (b := b) (i := 1)
  simpa [Nat.shiftRight_eq_div_pow] using this
theorem odd_xor (a b : Nat) : (a ^^^ b) % 2 = (a % 2 + b % 2) % 2 := by
  have h := Nat.testBit_xor a b 0
  simp only [Nat.testBit_zero] at h
  rcases Nat.mod_two_eq_zero_or_one a with ha | ha <;> rcases Nat.mod_two_eq_zero_or_one b with hb | hb <;> rcases Nat.mod_two_eq_zero_or_one (a ^^^ b) with hc | hc <;> simp [ha, hb, hc] at h ⊢
theorem st_xor (a b : Nat) : st (a ^^^ b) = st a ^^^ st b := by
  unfold st
  have h := odd_xor a b
  have k := half_xor a b
  rcases Nat.mod_two_eq_zero_or_one a with ha | ha <;> rcases Nat.mod_two_eq_zero_or_one b with hb | hb
  · rw [if_neg (by omega), if_neg (by omega), if_neg (by omega), k]
  · rw [if_pos (by omega), if_neg (by omega), if_pos (by omega), k, Nat.xor_assoc]
  · rw [if_pos (by omega), if_pos (by omega), if_neg (by omega), k, Nat.xor_assoc, Nat.xor_assoc, Nat.xor_comm (b / 2)]
  · rw [if_neg (by omega), if_pos (by omega), if_pos (by omega), k]
    have e : (a / 2 ^^^ 2197175160) ^^^ (b / 2 ^^^ 2197175160) = (a / 2 ^^^ b / 2) ^^^ (2197175160 ^^^ 2197175160) := by
      rw [Nat.xor_assoc, Nat.xor_assoc]; congr 1; rw [← Nat.xor_assoc, Nat.xor_comm 2197175160, Nat.xor_assoc]
    rw [e, Nat.xor_self, Nat.xor_zero]
theorem st_zero : st 0 = 0 := rfl
theorem st_even (x : Nat) : st (2 * x) = x := by unfold st; rw [if_neg (by omega)]; omega
theorem st_lt {s : Nat} (h : s < 4294967296) : st s < 4294967296 := by
  unfold st
  split
  · exact Nat.xor_lt_two_pow (n := 32) (by omega) (by omega)
  · omega
theorem st_ne {s : Nat} (h : s < 4294967296) (h0 : st s = 0) : s = 0 := by
  unfold st at h0
  split at h0
  · exfalso
    have hb : (s / 2 ^^^ 2197175160).testBit 31 = false := by rw [h0]; rfl
    rw [Nat.testBit_xor] at hb
    have h1 : (s / 2).testBit 31 = false := Nat.testBit_lt_two_pow (by omega)
    have h2 : (2197175160 : Nat).testBit 31 = true := by decide
    rw [h1, h2] at hb
    cases hb
  · omega

/-- n bits on. -/
def itn : Nat → Nat → Nat | 0, s => s | n + 1, s => itn n (st s)
theorem itn_xor (n : Nat) : ∀ a b, itn n (a ^^^ b) = itn n a ^^^ itn n b := by
  induction n with
  | zero => intro a b; rfl
  | succ n ih => intro a b; show itn n (st (a ^^^ b)) = _; rw [st_xor, ih]; rfl
theorem itn_lt (n : Nat) : ∀ {s}, s < 4294967296 → itn n s < 4294967296 := by
  induction n with
  | zero => intro s h; exact h
  | succ n ih => intro s h; exact ih (st_lt h)
theorem itn_ne (n : Nat) : ∀ {s}, s < 4294967296 → itn n s = 0 → s = 0 := by
  induction n with
  | zero => intro s _ h; exact h
  | succ n ih => intro s h h0; exact st_ne h (ih (st_lt h) h0)
theorem itn_zero (n : Nat) : itn n 0 = 0 := by
  induction n with
  | zero => rfl
  | succ n ih => exact ih

/-- A number out of its n lowest bits. -/
def val : Nat → (Nat → Nat) → Nat | 0, _ => 0 | n + 1, m => m 0 + 2 * val n (fun i => m (i + 1))
/-- n bits, one after the other. -/
def runs : Nat → Nat → (Nat → Nat) → Nat | 0, s, _ => s | n + 1, s, m => runs n (st (s ^^^ m 0)) (fun i => m (i + 1))
theorem val_lt (n : Nat) : ∀ m : Nat → Nat, (∀ i, m i < 2) → val n m < 2 ^ n := by
  induction n with
  | zero => intro m _; show 0 < 1; omega
  | succ n ih =>
    intro m h
    have := ih (fun i => m (i + 1)) (fun i => h (i + 1))
    have h0 := h 0
    unfold val
    rw [Nat.pow_succ]
    omega
theorem low_add (a v : Nat) (h : a < 2) : a + 2 * v = a ^^^ 2 * v := by
  apply Nat.eq_of_testBit_eq
  intro i
  rw [Nat.testBit_xor]
  cases i with
  | zero =>
    simp only [Nat.testBit_zero]
    have e1 : (a + 2 * v) % 2 = a % 2 := by omega
    have e2 : (2 * v) % 2 = 0 := by omega
    rw [e1, e2]; simp
  | succ i =>
    rw [Nat.testBit_succ, Nat.testBit_succ, Nat.testBit_succ]
    have e1 : (a + 2 * v) / 2 = v := by omega
    have e2 : (2 * v) / 2 = v := by omega
    have e3 : a / 2 = 0 := by omega
    rw [e1, e2, e3]; simp
theorem runs_val (n : Nat) : ∀ (s : Nat) (m : Nat → Nat), (∀ i, m i < 2) → runs n s m = itn n (s ^^^ val n m) := by
  induction n with
  | zero => intro s m _; show s = s ^^^ 0; rw [Nat.xor_zero]
  | succ n ih =>
    intro s m h
    show runs n (st (s ^^^ m 0)) (fun i => m (i + 1)) = itn n (st (s ^^^ (m 0 + 2 * val n (fun i => m (i + 1)))))
    rw [ih _ _ (fun i => h (i + 1)), low_add _ _ (h 0), ← Nat.xor_assoc, st_xor (s ^^^ m 0), st_even]
theorem runs_add (a : Nat) : ∀ (b s : Nat) (m : Nat → Nat), runs (a + b) s m = runs b (runs a s m) (fun i => m (a + i)) := by
  induction a with
  | zero => intro b s m; rw [Nat.zero_add]; show runs b s m = runs b s (fun i => m (0 + i)); congr 1; funext i; rw [Nat.zero_add]
  | succ a ih =>
    intro b s m
    rw [show a + 1 + b = (a + b) + 1 by omega]
    show runs (a + b) (st (s ^^^ m 0)) (fun i => m (i + 1)) = runs b (runs a (st (s ^^^ m 0)) (fun i => m (i + 1))) (fun i => m (a + 1 + i))
    rw [ih]
    congr 1
    funext i; congr 1; omega
theorem val_zero (n : Nat) : ∀ m : Nat → Nat, (∀ i, i < n → m i = 0) → val n m = 0 := by
  induction n with
  | zero => intro m _; rfl
  | succ n ih =>
    intro m h
    show m 0 + 2 * val n (fun i => m (i + 1)) = 0
    rw [h 0 (by omega), ih _ (fun i hi => h (i + 1) (by omega))]
theorem val_congr (n : Nat) : ∀ m k : Nat → Nat, (∀ i, i < n → m i = k i) → val n m = val n k := by
  induction n with
  | zero => intro m k _; rfl
  | succ n ih =>
    intro m k h
    show m 0 + 2 * val n (fun i => m (i + 1)) = k 0 + 2 * val n (fun i => k (i + 1))
    rw [h 0 (by omega), ih _ _ (fun i hi => h (i + 1) (by omega))]

/-- Bits that are nought but for 32 in a row, which are not all nought, leave no nought. -/
theorem burst {n fr : Nat} {m : Nat → Nat} (h2 : ∀ i, m i < 2) (hn : fr + 32 ≤ n) (h0 : ∀ i, i < n → i < fr ∨ fr + 32 ≤ i → m i = 0) (hv : val 32 (fun i => m (fr + i)) ≠ 0) : runs n 0 m ≠ 0 := by
  obtain ⟨r, rfl⟩ : ∃ r, n = fr + (32 + r) := ⟨n - fr - 32, by omega⟩
  have hl : val 32 (fun i => m (fr + i)) < 4294967296 := val_lt 32 _ (fun i => h2 _)
  rw [runs_add, runs_val fr 0 m h2, val_zero fr m (fun i hi => h0 i (by omega) (.inl hi)), Nat.xor_zero, itn_zero, runs_add, runs_val 32 0 _ (fun i => h2 _), Nat.zero_xor, runs_val r _ _ (fun i => h2 _),
    val_zero r _ (fun i hi => h0 _ (by omega) (.inr (by omega))), Nat.xor_zero]
  intro e
  exact hv (itn_ne 32 hl (itn_ne r (itn_lt 32 hl) e))

/-- n bytes on. -/
def rb : Nat → Nat → (Nat → Nat) → Nat | 0, s, _ => s | n + 1, s, f => itn 8 (rb n s f ^^^ f n)
theorem rb_lt (n : Nat) {s : Nat} {f : Nat → Nat} (hs : s < 4294967296) (hf : ∀ i, f i < 256) : rb n s f < 4294967296 := by
  induction n with
  | zero => exact hs
  | succ n ih => exact itn_lt 8 (Nat.xor_lt_two_pow (n := 32) ih (by have := hf n; omega))
theorem rb_congr (n : Nat) {s : Nat} {f g : Nat → Nat} (h : ∀ i, i < n → f i = g i) : rb n s f = rb n s g := by
  induction n with
  | zero => rfl
  | succ n ih => show itn 8 (rb n s f ^^^ f n) = itn 8 (rb n s g ^^^ g n); rw [ih (fun i hi => h i (by omega)), h n (by omega)]
theorem rb_add (a b s : Nat) (f : Nat → Nat) : rb (a + b) s f = rb b (rb a s f) (fun i => f (a + i)) := by
  induction b with
  | zero => rfl
  | succ b ih => show itn 8 (rb (a + b) s f ^^^ f (a + b)) = itn 8 (rb b (rb a s f) (fun i => f (a + i)) ^^^ f (a + b)); rw [ih]
theorem rb_xor (n s s' : Nat) (f g : Nat → Nat) : rb n (s ^^^ s') (fun i => f i ^^^ g i) = rb n s f ^^^ rb n s' g := by
  induction n with
  | zero => rfl
  | succ n ih =>
    show itn 8 (rb n (s ^^^ s') (fun i => f i ^^^ g i) ^^^ (f n ^^^ g n)) = itn 8 (rb n s f ^^^ f n) ^^^ itn 8 (rb n s' g ^^^ g n)
    rw [ih, ← itn_xor]
    congr 1
    rw [Nat.xor_assoc, Nat.xor_assoc]; congr 1
    rw [← Nat.xor_assoc, ← Nat.xor_assoc, Nat.xor_comm (rb n s' g)]

/-- The bits of bytes, the lowest of a byte first. -/
def bit (f : Nat → Nat) (i : Nat) : Nat := f (i / 8) / 2 ^ (i % 8) % 2
theorem bit_lt (f : Nat → Nat) (i : Nat) : bit f i < 2 := Nat.mod_lt _ (by omega)
theorem val8_all : ∀ x, x < 256 → val 8 (fun i => x / 2 ^ i % 2) = x := by decide +kernel
theorem val8 (f : Nat → Nat) (j : Nat) (h : f j < 256) : val 8 (fun i => bit f (8 * j + i)) = f j := by
  rw [val_congr 8 _ (fun i => f j / 2 ^ i % 2) (fun i hi => ?_)]
  · exact val8_all (f j) h
  · unfold bit
    rw [show (8 * j + i) / 8 = j by omega, show (8 * j + i) % 8 = i by omega]
theorem rb_runs (n : Nat) {s : Nat} {f : Nat → Nat} (hf : ∀ i, f i < 256) : rb n s f = runs (8 * n) s (bit f) := by
  induction n with
  | zero => rfl
  | succ n ih =>
    rw [show 8 * (n + 1) = 8 * n + 8 by omega, runs_add, ← ih, runs_val 8 _ _ (fun i => bit_lt _ _), val8 f n (hf n)]
    rfl

/-- The sum, begun with all ones, turned over at the end; and how it goes on. -/
def full : Nat := 4294967295
def more (s n : Nat) (f : Nat → Nat) : Nat := rb n (s ^^^ full) f ^^^ full
def sum (n : Nat) (f : Nat → Nat) : Nat := more 0 n f
theorem full_full (x : Nat) : (x ^^^ full) ^^^ full = x := by rw [Nat.xor_assoc, Nat.xor_self, Nat.xor_zero]
theorem more_lt {s n : Nat} {f : Nat → Nat} (hs : s < 4294967296) (hf : ∀ i, f i < 256) : more s n f < 4294967296 :=
  Nat.xor_lt_two_pow (n := 32) (rb_lt n (Nat.xor_lt_two_pow (n := 32) hs (by unfold full; omega)) hf) (by unfold full; omega)
theorem more_none (s : Nat) (f : Nat → Nat) : more s 0 f = s := full_full s
theorem more_more (s a b : Nat) (f : Nat → Nat) : more (more s a f) b (fun i => f (a + i)) = more s (a + b) f := by
  unfold more; rw [full_full, rb_add]
theorem more_congr {s n : Nat} {f g : Nat → Nat} (h : ∀ i, i < n → f i = g i) : more s n f = more s n g := by unfold more; rw [rb_congr n h]
/-- What two sums have not in common hangs on what the rows have not. -/
theorem sum_xor (n : Nat) (f g : Nat → Nat) : sum n f ^^^ sum n g = rb n 0 (fun i => f i ^^^ g i) := by
  unfold sum more
  rw [Nat.zero_xor, ← Nat.xor_self full, rb_xor, Nat.xor_assoc]; congr 1
  rw [Nat.xor_comm (rb n full g), ← Nat.xor_assoc, Nat.xor_self, Nat.zero_xor]

theorem val_testBit (n : Nat) : ∀ (m : Nat → Nat) (i : Nat), (∀ i, m i < 2) → (val n m).testBit i = decide (i < n ∧ m i = 1) := by
  induction n with
  | zero => intro m i _; show Nat.testBit 0 i = _; simp
  | succ n ih =>
    intro m i h
    show (m 0 + 2 * val n (fun i => m (i + 1))).testBit i = _
    have h0 := h 0
    cases i with
    | zero =>
      rw [Nat.testBit_zero]
      rw [show (m 0 + 2 * val n (fun i => m (i + 1))) % 2 = m 0 by omega]
      simp
    | succ i =>
      rw [Nat.testBit_succ, show (m 0 + 2 * val n (fun i => m (i + 1))) / 2 = val n (fun i => m (i + 1)) by omega, ih _ _ (fun i => h (i + 1))]
      simp
theorem val_xor (n : Nat) (a b c : Nat → Nat) (ha : ∀ i, a i < 2) (hb : ∀ i, b i < 2) (hc : ∀ i, c i < 2) (h : ∀ i, i < n → (c i = 1 ↔ (a i = 1 ↔ b i ≠ 1))) : val n c = val n a ^^^ val n b := by
  apply Nat.eq_of_testBit_eq
  intro i
  rw [Nat.testBit_xor, val_testBit n c i hc, val_testBit n a i ha, val_testBit n b i hb]
  by_cases hi : i < n
  · have := h i hi
    by_cases qa : a i = 1 <;> by_cases qb : b i = 1 <;> by_cases qc : c i = 1 <;> simp [hi, qa, qb, qc] at this ⊢
  · simp [hi]
theorem val_one (n k : Nat) (hk : k < n) : val n (fun i => if i = k then 1 else 0) = 2 ^ k := by
  apply Nat.eq_of_testBit_eq
  intro i
  rw [val_testBit n _ i (fun i => by split <;> omega), Nat.testBit_two_pow]
  by_cases e : i = k
  · subst e; simp [hk]
  · rw [if_neg e]; simp [show ¬ k = i from fun z => e z.symm]
theorem val_self (n : Nat) : ∀ x, x < 2 ^ n → val n (fun i => x / 2 ^ i % 2) = x := by
  induction n with
  | zero => intro x h; show 0 = x; omega
  | succ n ih =>
    intro x h
    show x / 2 ^ 0 % 2 + 2 * val n (fun i => x / 2 ^ (i + 1) % 2) = x
    have e : val n (fun i => x / 2 ^ (i + 1) % 2) = val n (fun i => x / 2 / 2 ^ i % 2) := val_congr n _ _ (fun i _ => by rw [Nat.pow_succ, Nat.mul_comm, Nat.div_div_eq_div_mul])
    rw [e, ih (x / 2) (by rw [Nat.pow_succ] at h; omega)]
    simp only [Nat.pow_zero, Nat.div_one]
    omega
theorem bit_val (m : Nat → Nat) (h : ∀ i, m i < 2) (p : Nat) : bit (fun j => val 8 (fun b => m (8 * j + b))) p = m p := by
  unfold bit
  have h1 := val_testBit 8 (fun b => m (8 * (p / 8) + b)) (p % 8) (fun i => h _)
  have hp : 8 * (p / 8) + p % 8 = p := by omega
  rw [Nat.testBit_eq_decide_div_mod_eq] at h1
  simp only [hp] at h1
  have h8 : p % 8 < 8 := by omega
  have hm := h p
  by_cases q : m p = 1
  · rw [q] at h1 ⊢
    simp [h8] at h1
    exact h1
  · have : m p = 0 := by omega
    rw [this] at h1 ⊢
    simp at h1
    omega

/-- The bits of a mask, laid from bit fr on, the first t of them. -/
def bt (fr mask t p : Nat) : Nat := if fr ≤ p ∧ p < fr + t then mask / 2 ^ (p - fr) % 2 else 0
theorem bt_lt (fr mask t p : Nat) : bt fr mask t p < 2 := by unfold bt; split <;> omega
/-- The same as bytes. -/
def bd (fr mask t : Nat) : Nat → Nat := fun j => val 8 (fun b => bt fr mask t (8 * j + b))
theorem bd_lt (fr mask t j : Nat) : bd fr mask t j < 256 := val_lt 8 _ (fun _ => bt_lt _ _ _ _)
theorem bd_zero (fr mask j : Nat) : bd fr mask 0 j = 0 := val_zero 8 _ (fun i _ => by unfold bt; rw [if_neg (by omega)])
theorem bd_no {fr mask t : Nat} (h : mask / 2 ^ t % 2 = 0) (j : Nat) : bd fr mask (t + 1) j = bd fr mask t j := by
  refine val_congr 8 _ _ (fun i _ => ?_)
  unfold bt
  by_cases q : fr ≤ 8 * j + i ∧ 8 * j + i < fr + t
  · rw [if_pos q, if_pos (by omega)]
  · rw [if_neg q]
    by_cases z : 8 * j + i = fr + t
    · rw [if_pos (by omega), show 8 * j + i - fr = t by omega, h]
    · rw [if_neg (by omega)]
theorem bd_yes {fr mask t : Nat} (h : mask / 2 ^ t % 2 = 1) (j : Nat) : bd fr mask (t + 1) j = if j = (fr + t) / 8 then bd fr mask t j ^^^ 2 ^ ((fr + t) % 8) else bd fr mask t j := by
  by_cases e : j = (fr + t) / 8
  · rw [if_pos e]
    have hk : (fr + t) % 8 < 8 := by omega
    rw [← val_one 8 ((fr + t) % 8) hk]
    refine val_xor 8 _ _ _ (fun _ => bt_lt _ _ _ _) (fun i => by split <;> omega) (fun _ => bt_lt _ _ _ _) (fun i hi => ?_)
    by_cases z : i = (fr + t) % 8
    · have e1 : 8 * j + i = fr + t := by omega
      have a0 : bt fr mask t (8 * j + i) = 0 := by unfold bt; rw [if_neg (by omega)]
      have a1 : bt fr mask (t + 1) (8 * j + i) = 1 := by unfold bt; rw [if_pos (by omega), show 8 * j + i - fr = t by omega, h]
      rw [a0, a1, if_pos z]; simp
    · have e1 : 8 * j + i ≠ fr + t := by omega
      have a1 : bt fr mask (t + 1) (8 * j + i) = bt fr mask t (8 * j + i) := by
        unfold bt
        by_cases q : fr ≤ 8 * j + i ∧ 8 * j + i < fr + t
        · rw [if_pos q, if_pos (by omega)]
        · rw [if_neg q, if_neg (by omega)]
      rw [a1, if_neg z]; simp
  · rw [if_neg e]
    refine val_congr 8 _ _ (fun i hi => ?_)
    unfold bt
    by_cases q : fr ≤ 8 * j + i ∧ 8 * j + i < fr + t
    · rw [if_pos q, if_pos (by omega)]
    · rw [if_neg q, if_neg (by omega)]

/-- 32 bits in a row that are not all nought leave no nought. -/
theorem bd_told {n fr mask : Nat} (hn : fr + 32 ≤ 8 * n) (hm : mask < 4294967296) (h0 : mask ≠ 0) : rb n 0 (bd fr mask 32) ≠ 0 := by
  rw [rb_runs n (bd_lt fr mask 32)]
  have e : bit (bd fr mask 32) = bt fr mask 32 := by funext p; exact bit_val (bt fr mask 32) (bt_lt fr mask 32) p
  rw [e]
  refine burst (bt_lt fr mask 32) hn (fun i _ h => by unfold bt; rw [if_neg (by omega)]) ?_
  rw [val_congr 32 _ (fun i => mask / 2 ^ i % 2) (fun i hi => by unfold bt; rw [if_pos (by omega), show fr + i - fr = i by omega]), val_self 32 mask hm]
  exact h0
/-- Two rows that are unlike only there have unlike sums. -/
theorem sum_told {n fr mask : Nat} (f : Nat → Nat) (hn : fr + 32 ≤ 8 * n) (hm : mask < 4294967296) (h0 : mask ≠ 0) : sum n f ≠ sum n (fun j => f j ^^^ bd fr mask 32 j) := fun e => by
  have h := sum_xor n f (fun j => f j ^^^ bd fr mask 32 j)
  rw [e, Nat.xor_self, rb_congr n (g := bd fr mask 32) (fun i _ => by rw [← Nat.xor_assoc, Nat.xor_self, Nat.zero_xor])] at h
  exact bd_told hn hm h0 h.symm

/-- Four bytes as a number, the lowest first; a number's bytes. -/
def le4 (g : Nat → Nat) : Nat := g 0 + 256 * g 1 + 65536 * g 2 + 16777216 * g 3
def by4 (s : Nat) : Nat → Nat := fun i => s / 256 ^ i % 256
theorem by4_lt (s i : Nat) : by4 s i < 256 := Nat.mod_lt _ (by omega)
theorem le4_by4 {s : Nat} (h : s < 4294967296) : le4 (by4 s) = s := by
  unfold le4 by4
  simp only [Nat.pow_zero, Nat.div_one, Nat.pow_one, show (256 : Nat) ^ 2 = 65536 from rfl, show (256 : Nat) ^ 3 = 16777216 from rfl]
  omega
theorem le4_lt {g : Nat → Nat} (h : ∀ i, g i < 256) : le4 g < 4294967296 := by
  have h0 := h 0; have h1 := h 1; have h2 := h 2; have h3 := h 3
  unfold le4; omega
theorem val_add (a : Nat) : ∀ (b : Nat) (m : Nat → Nat), val (a + b) m = val a m + 2 ^ a * val b (fun i => m (a + i)) := by
  induction a with
  | zero => intro b m; rw [Nat.zero_add]; show val b m = 0 + 1 * val b (fun i => m (0 + i)); rw [Nat.one_mul, Nat.zero_add]; exact val_congr b _ _ (fun i _ => by rw [Nat.zero_add])
  | succ a ih =>
    intro b m
    rw [show a + 1 + b = (a + b) + 1 by omega]
    show m 0 + 2 * val (a + b) (fun i => m (i + 1)) = m 0 + 2 * val a (fun i => m (i + 1)) + 2 ^ (a + 1) * val b (fun i => m (a + 1 + i))
    rw [ih, val_congr b (fun i => m (a + i + 1)) (fun i => m (a + 1 + i)) (fun i _ => by rw [show a + i + 1 = a + 1 + i by omega]), Nat.pow_succ, Nat.mul_add, Nat.add_assoc, Nat.mul_comm (2 ^ a) 2, Nat.mul_assoc]
theorem le4_val {g : Nat → Nat} (h : ∀ i, g i < 256) : val 32 (bit g) = le4 g := by
  have e : val (8 + (8 + (8 + 8))) (bit g) = le4 g := by
    rw [val_add, val_add, val_add]
    have q0 := val8 g 0 (h 0)
    have q1 := val8 g 1 (h 1)
    have q2 := val8 g 2 (h 2)
    have q3 := val8 g 3 (h 3)
    have p0 : val 8 (bit g) = val 8 (fun i => bit g (8 * 0 + i)) := val_congr 8 _ _ (fun i _ => by rw [show 8 * 0 + i = i by omega])
    have p1 : val 8 (fun i => bit g (8 + i)) = val 8 (fun i => bit g (8 * 1 + i)) := val_congr 8 _ _ (fun i _ => by rw [show 8 * 1 + i = 8 + i by omega])
    have p2 : val 8 (fun i => bit g (8 + (8 + i))) = val 8 (fun i => bit g (8 * 2 + i)) := val_congr 8 _ _ (fun i _ => by rw [show 8 * 2 + i = 8 + (8 + i) by omega])
    have p3 : val 8 (fun i => bit g (8 + (8 + (8 + i)))) = val 8 (fun i => bit g (8 * 3 + i)) := val_congr 8 _ _ (fun i _ => by rw [show 8 * 3 + i = 8 + (8 + (8 + i)) by omega])
    rw [p0, p1, p2, p3, q0, q1, q2, q3]
    unfold le4
    omega
  exact e
theorem le4_xor {g h : Nat → Nat} (hg : ∀ i, g i < 256) (hh : ∀ i, h i < 256) : le4 (fun i => g i ^^^ h i) = le4 g ^^^ le4 h := by
  have hx : ∀ i, g i ^^^ h i < 256 := fun i => Nat.xor_lt_two_pow (n := 8) (hg i) (hh i)
  rw [← le4_val hx, ← le4_val hg, ← le4_val hh]
  refine val_xor 32 _ _ _ (bit_lt g) (bit_lt h) (bit_lt _) (fun i _ => ?_)
  have t := Nat.testBit_xor (g (i / 8)) (h (i / 8)) (i % 8)
  rw [Nat.testBit_eq_decide_div_mod_eq, Nat.testBit_eq_decide_div_mod_eq, Nat.testBit_eq_decide_div_mod_eq] at t
  unfold bit
  by_cases qa : g (i / 8) / 2 ^ (i % 8) % 2 = 1 <;> by_cases qb : h (i / 8) / 2 ^ (i % 8) % 2 = 1 <;> by_cases qc : (g (i / 8) ^^^ h (i / 8)) / 2 ^ (i % 8) % 2 = 1 <;> simp [qa, qb, qc] at t ⊢
/-- Rows with their sum behind them: what is turned within 32 bits is told. -/
theorem tail_told {n fr mask : Nat} (f : Nat → Nat) (hf : ∀ i, f i < 256) (hn : fr + 32 ≤ 8 * (n + 4)) (hm : mask < 4294967296) (h0 : mask ≠ 0) :
    le4 (fun i => by4 (sum n f) i ^^^ bd fr mask 32 (n + i)) ≠ sum n (fun j => f j ^^^ bd fr mask 32 j) := fun e => by
  have hs : sum n f < 4294967296 := more_lt (by omega) hf
  rw [le4_xor (by4_lt _) (fun i => bd_lt _ _ _ _), le4_by4 hs] at e
  have h := sum_xor n f (fun j => f j ^^^ bd fr mask 32 j)
  rw [rb_congr n (g := bd fr mask 32) (fun i _ => by rw [← Nat.xor_assoc, Nat.xor_self, Nat.zero_xor]), ← e, ← Nat.xor_assoc, Nat.xor_self, Nat.zero_xor] at h
  refine bd_told hn hm h0 ?_
  rw [rb_add, rb_runs 4 (f := fun i => bd fr mask 32 (n + i)) (fun i => bd_lt _ _ _ _), runs_val 32 _ _ (fun i => bit_lt _ _), le4_val (fun i => bd_lt _ _ _ _), ← h, Nat.xor_self, itn_zero]
end Crc
end Go.Proofs.YtfgngecenbopnaaDoor
