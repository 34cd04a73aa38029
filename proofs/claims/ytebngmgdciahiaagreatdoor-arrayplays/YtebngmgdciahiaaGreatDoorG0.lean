/-
  Texts of earlier stages, one behind the other: CrcM, Crc, CrcRef, Laid4.
-/
import Derived.KernelRfl
import Derived.Test.YtebngmgdciahiaaGreatDoorByt
import Derived.LaidMore
import Derived.Lib.SlBytesConst
import Derived.MakeChecks
import Derived.Lib.LaidTab
import Derived.Stop.Joined
set_option maxRecDepth 100000
namespace Go.Proofs.YtebngmgdciahiaaGreatDoor
namespace Crc

/-- One bit on. -/
def st (s : Nat) : Nat := if s % 2 = 1 then s / 2 ^^^ 2197175160 else s / 2
theorem half_xor (a b : Nat) : (a ^^^ b) / 2 = a / 2 ^^^ b / 2 := by
  have := Nat.shiftRight_xor_distrib (a := a) (b := b) (i := 1)
  simpa [Nat.shiftRight_eq_div_pow] using this
theorem odd_xor (a b : Nat) : (a ^^^ b) % 2 = (a % 2 + b % 2) % 2 := by
  have h := Nat.testBit_xor a b 0
  simp only [Nat.testBit_zero] at h
  rcases Nat.mod_two_eq_zero_or_one a with ha | ha <;> rcases Nat.mod_two_eq_zero_or_one b with hb | hb <;> rcases Nat.mod_two_eq_zero_or_one (a ^^^ b) with hc | hc <;> simp [ha, hb, hc] at h ⊢
theorem st_xor (a b : Nat) : st (a ^^^ b) = st a ^^^ st b := by
  unfold st
  have h := odd_xor a b
  have k := half_xor a b
  rcases Nat.mod_two_eq_zero_or_one a with ha | ha <;> rcases Nat.mod_two_eq_zero_or_one b with hb | hb
  · rw [if_neg (by omega), if_neg (by omega), if_neg (by omega), k]
  · rw [if_pos (by omega), if_neg (by omega), if_pos (by omega), k, Nat.xor_assoc]
  · rw [if_pos (by omega), if_pos (by omega), if_neg (by omega), k, Nat.xor_assoc, Nat.xor_assoc, Nat.xor_comm (b / 2)]
  · rw [if_neg (by omega), if_pos (by omega), if_pos (by omega), k]
    have e : (a / 2 ^^^ 2197175160) ^^^ (b / 2 ^^^ 2197175160) = (a / 2 ^^^ b / 2) ^^^ (2197175160 ^^^ 2197175160) := by
      rw [Nat.xor_assoc, Nat.xor_assoc]; congr 1; rw [← Nat.xor_assoc, Nat.xor_comm 2197175160, Nat.xor_assoc]
    rw [e, Nat.xor_self, Nat.xor_zero]
theorem st_zero : st 0 = 0 := rfl
theorem st_even (x : Nat) : st (2 * x) = x := by unfold st; rw [if_neg (by omega)]; omega
theorem st_lt {s : Nat} (h : s < 4294967296) : st s < 4294967296 := by
  unfold st
  split
  · exact Nat.xor_lt_two_pow (n := 32) (by omega) (by omega)
  · omega
theorem st_ne {s : Nat} (h : s < 4294967296) (h0 : st s = 0) : s = 0 := by
  unfold st at h0
  split at h0
  · exfalso
    have hb : (s / 2 ^^^ 2197175160).testBit 31 = false := by rw [h0]; rfl
    rw [Nat.testBit_xor] at hb
    have h1 : (s / 2).testBit 31 = false := Nat.testBit_lt_two_pow (by omega)
    have h2 : (2197175160 : Nat).testBit 31 = true := by decide
    rw [h1, h2] at hb
    cases hb
  · omega

/-- n bits on. -/
def itn : Nat → Nat → Nat | 0, s => s | n + 1, s => itn n (st s)
theorem itn_xor (n : Nat) : ∀ a b, itn n (a ^^^ b) = itn n a ^^^ itn n b := by
  induction n with
  | zero => intro a b; rfl
  | succ n ih => intro a b; show itn n (st (a ^^^ b)) = _; rw [st_xor, ih]; rfl
theorem itn_lt (n : Nat) : ∀ {s}, s < 4294967296 → itn n s < 4294967296 := by
  induction n with
  | zero => intro s h; exact h
  | succ n ih => intro s h; exact ih (st_lt h)
theorem itn_ne (n : Nat) : ∀ {s}, s < 4294967296 → itn n s = 0 → s = 0 := by
  induction n with
  | zero => intro s _ h; exact h
  | succ n ih => intro s h h0; exact st_ne h (ih (st_lt h) h0)
theorem itn_zero (n : Nat) : itn n 0 = 0 := by
  induction n with
  | zero => rfl
  | succ n ih => exact ih

/-- A number out of its n lowest bits. -/
def val : Nat → (Nat → Nat) → Nat | 0, _ => 0 | n + 1, m => m 0 + 2 * val n (fun i => m (i + 1))
/-- n bits, one after the other. -/
def runs : Nat → Nat → (Nat → Nat) → Nat | 0, s, _ => s | n + 1, s, m => runs n (st (s ^^^ m 0)) (fun i => m (i + 1))
theorem val_lt (n : Nat) : ∀ m : Nat → Nat, (∀ i, m i < 2) → val n m < 2 ^ n := by
  induction n with
  | zero => intro m _; show 0 < 1; omega
  | succ n ih =>
    intro m h
    have := ih (fun i => m (i + 1)) (fun i => h (i + 1))
    have h0 := h 0
    unfold val
    rw [Nat.pow_succ]
    omega
theorem low_add (a v : Nat) (h : a < 2) : a + 2 * v = a ^^^ 2 * v := by
  apply Nat.eq_of_testBit_eq
  intro i
  rw [Nat.testBit_xor]
  cases i with
  | zero =>
    simp only [Nat.testBit_zero]
    have e1 : (a + 2 * v) % 2 = a % 2 := by omega
    have e2 : (2 * v) % 2 = 0 := by omega
    rw [e1, e2]; simp
  | succ i =>
    rw [Nat.testBit_succ, Nat.testBit_succ, Nat.testBit_succ]
    have e1 : (a + 2 * v) / 2 = v := by omega
    have e2 : (2 * v) / 2 = v := by omega
    have e3 : a / 2 = 0 := by omega
    rw [e1, e2, e3]; simp
theorem runs_val (n : Nat) : ∀ (s : Nat) (m : Nat → Nat), (∀ i, m i < 2) → runs n s m = itn n (s ^^^ val n m) := by
  induction n with
  | zero => intro s m _; show s = s ^^^ 0; rw [Nat.xor_zero]
  | succ n ih =>
    intro s m h
    show runs n (st (s ^^^ m 0)) (fun i => m (i + 1)) = itn n (st (s ^^^ (m 0 + 2 * val n (fun i => m (i + 1)))))
    rw [ih _ _ (fun i => h (i + 1)), low_add _ _ (h 0), ← Nat.xor_assoc, st_xor (s ^^^ m 0), st_even]
theorem runs_add (a : Nat) : ∀ (b s : Nat) (m : Nat → Nat), runs (a + b) s m = runs b (runs a s m) (fun i => m (a + i)) := by
  induction a with
  | zero => intro b s m; rw [Nat.zero_add]; show runs b s m = runs b s (fun i => m (0 + i)); congr 1; funext i; rw [Nat.zero_add]
  | succ a ih =>
    intro b s m
    rw [show a + 1 + b = (a + b) + 1 by omega]
    show runs (a + b) (st (s ^^^ m 0)) (fun i => m (i + 1)) = runs b (runs a (st (s ^^^ m 0)) (fun i => m (i + 1))) (fun i => m (a + 1 + i))
    rw [ih]
    congr 1
    funext i; congr 1; omega
theorem val_zero (n : Nat) : ∀ m : Nat → Nat, (∀ i, i < n → m i = 0) → val n m = 0 := by
  induction n with
  | zero => intro m _; rfl
  | succ n ih =>
    intro m h
    show m 0 + 2 * val n (fun i => m (i + 1)) = 0
    rw [h 0 (by omega), ih _ (fun i hi => h (i + 1) (by omega))]
theorem val_congr (n : Nat) : ∀ m k : Nat → Nat, (∀ i, i < n → m i = k i) → val n m = val n k := by
  induction n with
  | zero => intro m k _; rfl
  | succ n ih =>
    intro m k h
    show m 0 + 2 * val n (fun i => m (i + 1)) = k 0 + 2 * val n (fun i => k (i + 1))
    rw [h 0 (by omega), ih _ _ (fun i hi => h (i + 1) (by omega))]

/-- Bits that are nought but for 32 in a row, which are not all nought, leave no nought. -/
theorem burst {n fr : Nat} {m : Nat → Nat} (h2 : ∀ i, m i < 2) (hn : fr + 32 ≤ n) (h0 : ∀ i, i < n → i < fr ∨ fr + 32 ≤ i → m i = 0) (hv : val 32 (fun i => m (fr + i)) ≠ 0) : runs n 0 m ≠ 0 := by
  obtain ⟨r, rfl⟩ : ∃ r, n = fr + (32 + r) := ⟨n - fr - 32, by omega⟩
  have hl : val 32 (fun i => m (fr + i)) < 4294967296 := val_lt 32 _ (fun i => h2 _)
  rw [runs_add, runs_val fr 0 m h2, val_zero fr m (fun i hi => h0 i (by omega) (.inl hi)), Nat.xor_zero, itn_zero, runs_add, runs_val 32 0 _ (fun i => h2 _), Nat.zero_xor, runs_val r _ _ (fun i => h2 _),
    val_zero r _ (fun i hi => h0 _ (by omega) (.inr (by omega))), Nat.xor_zero]
  intro e
  exact hv (itn_ne 32 hl (itn_ne r (itn_lt 32 hl) e))

/-- n bytes on. -/
def rb : Nat → Nat → (Nat → Nat) → Nat | 0, s, _ => s | n + 1, s, f => itn 8 (rb n s f ^^^ f n)
theorem rb_lt (n : Nat) {s : Nat} {f : Nat → Nat} (hs : s < 4294967296) (hf : ∀ i, f i < 256) : rb n s f < 4294967296 := by
  induction n with
  | zero => exact hs
  | succ n ih => exact itn_lt 8 (Nat.xor_lt_two_pow (n := 32) ih (by have := hf n; omega))
theorem rb_congr (n : Nat) {s : Nat} {f g : Nat → Nat} (h : ∀ i, i < n → f i = g i) : rb n s f = rb n s g := by
  induction n with
  | zero => rfl
  | succ n ih => show itn 8 (rb n s f ^^^ f n) = itn 8 (rb n s g ^^^ g n); rw [ih (fun i hi => h i (by omega)), h n (by omega)]
theorem rb_add (a b s : Nat) (f : Nat → Nat) : rb (a + b) s f = rb b (rb a s f) (fun i => f (a + i)) := by
  induction b with
  | zero => rfl
  | succ b ih => show itn 8 (rb (a + b) s f ^^^ f (a + b)) = itn 8 (rb b (rb a s f) (fun i => f (a + i)) ^^^ f (a + b)); rw [ih]
theorem rb_xor (n s s' : Nat) (f g : Nat → Nat) : rb n (s ^^^ s') (fun i => f i ^^^ g i) = rb n s f ^^^ rb n s' g := by
  induction n with
  | zero => rfl
  | succ n ih =>
    show itn 8 (rb n (s ^^^ s') (fun i => f i ^^^ g i) ^^^ (f n ^^^ g n)) = itn 8 (rb n s f ^^^ f n) ^^^ itn 8 (rb n s' g ^^^ g n)
    rw [ih, ← itn_xor]
    congr 1
    rw [Nat.xor_assoc, Nat.xor_assoc]; congr 1
    rw [← Nat.xor_assoc, ← Nat.xor_assoc, Nat.xor_comm (rb n s' g)]

/-- The bits of bytes, the lowest of a byte first. -/
def bit (f : Nat → Nat) (i : Nat) : Nat := f (i / 8) / 2 ^ (i % 8) % 2
theorem bit_lt (f : Nat → Nat) (i : Nat) : bit f i < 2 := Nat.mod_lt _ (by omega)
theorem val8_all : ∀ x, x < 256 → val 8 (fun i => x / 2 ^ i % 2) = x := by decide +kernel
theorem val8 (f : Nat → Nat) (j : Nat) (h : f j < 256) : val 8 (fun i => bit f (8 * j + i)) = f j := by
  rw [val_congr 8 _ (fun i => f j / 2 ^ i % 2) (fun i hi => ?_)]
  · exact val8_all (f j) h
  · unfold bit
    rw [show (8 * j + i) / 8 = j by omega, show (8 * j + i) % 8 = i by omega]
theorem rb_runs (n : Nat) {s : Nat} {f : Nat → Nat} (hf : ∀ i, f i < 256) : rb n s f = runs (8 * n) s (bit f) := by
  induction n with
  | zero => rfl
  | succ n ih =>
    rw [show 8 * (n + 1) = 8 * n + 8 by omega, runs_add, ← ih, runs_val 8 _ _ (fun i => bit_lt _ _), val8 f n (hf n)]
    rfl

/-- The sum, begun with all ones, turned over at the end; and how it goes on. -/
def full : Nat := 4294967295
def more (s n : Nat) (f : Nat → Nat) : Nat := rb n (s ^^^ full) f ^^^ full
def sum (n : Nat) (f : Nat → Nat) : Nat := more 0 n f
theorem full_full (x : Nat) : (x ^^^ full) ^^^ full = x := by rw [Nat.xor_assoc, Nat.xor_self, Nat.xor_zero]
theorem more_lt {s n : Nat} {f : Nat → Nat} (hs : s < 4294967296) (hf : ∀ i, f i < 256) : more s n f < 4294967296 :=
  Nat.xor_lt_two_pow (n := 32) (rb_lt n (Nat.xor_lt_two_pow (n := 32) hs (by unfold full; omega)) hf) (by unfold full; omega)
theorem more_none (s : Nat) (f : Nat → Nat) : more s 0 f = s := full_full s
theorem more_more (s a b : Nat) (f : Nat → Nat) : more (more s a f) b (fun i => f (a + i)) = more s (a + b) f := by
  unfold more; rw [full_full, rb_add]
theorem more_congr {s n : Nat} {f g : Nat → Nat} (h : ∀ i, i < n → f i = g i) : more s n f = more s n g := by unfold more; rw [rb_congr n h]
/-- What two sums have not in common hangs on what the rows have not. -/
theorem sum_xor (n : Nat) (f g : Nat → Nat) : sum n f ^^^ sum n g = rb n 0 (fun i => f i ^^^ g i) := by
  unfold sum more
  rw [Nat.zero_xor, ← Nat.xor_self full, rb_xor, Nat.xor_assoc]; congr 1
  rw [Nat.xor_comm (rb n full g), ← Nat.xor_assoc, Nat.xor_self, Nat.zero_xor]

theorem val_testBit (n : Nat) : ∀ (m : Nat → Nat) (i : Nat), (∀ i, m i < 2) → (val n m).testBit i = decide (i < n ∧ m i = 1) := by
  induction n with
  | zero => intro m i _; show Nat.testBit 0 i = _; simp
  | succ n ih =>
    intro m i h
    show (m 0 + 2 * val n (fun i => m (i + 1))).testBit i = _
    have h0 := h 0
    cases i with
    | zero =>
      rw [Nat.testBit_zero]
      rw [show (m 0 + 2 * val n (fun i => m (i + 1))) % 2 = m 0 by omega]
      simp
    | succ i =>
      rw [Nat.testBit_succ, show (m 0 + 2 * val n (fun i => m (i + 1))) / 2 = val n (fun i => m (i + 1)) by omega, ih _ _ (fun i => h (i + 1))]
      simp
theorem val_xor (n : Nat) (a b c : Nat → Nat) (ha : ∀ i, a i < 2) (hb : ∀ i, b i < 2) (hc : ∀ i, c i < 2) (h : ∀ i, i < n → (c i = 1 ↔ (a i = 1 ↔ b i ≠ 1))) : val n c = val n a ^^^ val n b := by
  apply Nat.eq_of_testBit_eq
  intro i
  rw [Nat.testBit_xor, val_testBit n c i hc, val_testBit n a i ha, val_testBit n b i hb]
  by_cases hi : i < n
  · have := h i hi
    by_cases qa : a i = 1 <;> by_cases qb : b i = 1 <;> by_cases qc : c i = 1 <;> simp [hi, qa, qb, qc] at this ⊢
  · simp [hi]
theorem val_one (n k : Nat) (hk : k < n) : val n (fun i => if i = k then 1 else 0) = 2 ^ k := by
  apply Nat.eq_of_testBit_eq
  intro i
  rw [val_testBit n _ i (fun i => by split <;> omega), Nat.testBit_two_pow]
  by_cases e : i = k
  · subst e; simp [hk]
  · rw [if_neg e]; simp [show ¬ k = i from fun z => e z.symm]
theorem val_self (n : Nat) : ∀ x, x < 2 ^ n → val n (fun i => x / 2 ^ i % 2) = x := by
  induction n with
  | zero => intro x h; show 0 = x; omega
  | succ n ih =>
    intro x h
    show x / 2 ^ 0 % 2 + 2 * val n (fun i => x / 2 ^ (i + 1) % 2) = x
    have e : val n (fun i => x / 2 ^ (i + 1) % 2) = val n (fun i => x / 2 / 2 ^ i % 2) := val_congr n _ _ (fun i _ => by rw [Nat.pow_succ, Nat.mul_comm, Nat.div_div_eq_div_mul])
    rw [e, ih (x / 2) (by rw [Nat.pow_succ] at h; omega)]
    simp only [Nat.pow_zero, Nat.div_one]
    omega
theorem bit_val (m : Nat → Nat) (h : ∀ i, m i < 2) (p : Nat) : bit (fun j => val 8 (fun b => m (8 * j + b))) p = m p := by
  unfold bit
  have h1 := val_testBit 8 (fun b => m (8 * (p / 8) + b)) (p % 8) (fun i => h _)
  have hp : 8 * (p / 8) + p % 8 = p := by omega
  rw [Nat.testBit_eq_decide_div_mod_eq] at h1
  simp only [hp] at h1
  have h8 : p % 8 < 8 := by omega
  have hm := h p
  by_cases q : m p = 1
  · rw [q] at h1 ⊢
    simp [h8] at h1
    exact h1
  · have : m p = 0 := by omega
    rw [this] at h1 ⊢
    simp at h1
    omega

/-- The bits of a mask, laid from bit fr on, the first t of them. -/
def bt (fr mask t p : Nat) : Nat := if fr ≤ p ∧ p < fr + t then mask / 2 ^ (p - fr) % 2 else 0
theorem bt_lt (fr mask t p : Nat) : bt fr mask t p < 2 := by unfold bt; split <;> omega
/-- The same as bytes. -/
def bd (fr mask t : Nat) : Nat → Nat := fun j => val 8 (fun b => bt fr mask t (8 * j + b))
theorem bd_lt (fr mask t j : Nat) : bd fr mask t j < 256 := val_lt 8 _ (fun _ => bt_lt _ _ _ _)
theorem bd_zero (fr mask j : Nat) : bd fr mask 0 j = 0 := val_zero 8 _ (fun i _ => by unfold bt; rw [if_neg (by omega)])
theorem bd_no {fr mask t : Nat} (h : mask / 2 ^ t % 2 = 0) (j : Nat) : bd fr mask (t + 1) j = bd fr mask t j := by
  refine val_congr 8 _ _ (fun i _ => ?_)
  unfold bt
  by_cases q : fr ≤ 8 * j + i ∧ 8 * j + i < fr + t
  · rw [if_pos q, if_pos (by omega)]
  · rw [if_neg q]
    by_cases z : 8 * j + i = fr + t
    · rw [if_pos (by omega), show 8 * j + i - fr = t by omega, h]
    · rw [if_neg (by omega)]
theorem bd_yes {fr mask t : Nat} (h : mask / 2 ^ t % 2 = 1) (j : Nat) : bd fr mask (t + 1) j = if j = (fr + t) / 8 then bd fr mask t j ^^^ 2 ^ ((fr + t) % 8) else bd fr mask t j := by
  by_cases e : j = (fr + t) / 8
  · rw [if_pos e]
    have hk : (fr + t) % 8 < 8 := by omega
    rw [← val_one 8 ((fr + t) % 8) hk]
    refine val_xor 8 _ _ _ (fun _ => bt_lt _ _ _ _) (fun i => by split <;> omega) (fun _ => bt_lt _ _ _ _) (fun i hi => ?_)
    by_cases z : i = (fr + t) % 8
    · have e1 : 8 * j + i = fr + t := by omega
      have a0 : bt fr mask t (8 * j + i) = 0 := by unfold bt; rw [if_neg (by omega)]
      have a1 : bt fr mask (t + 1) (8 * j + i) = 1 := by unfold bt; rw [if_pos (by omega), show 8 * j + i - fr = t by omega, h]
      rw [a0, a1, if_pos z]; simp
    · have e1 : 8 * j + i ≠ fr + t := by omega
      have a1 : bt fr mask (t + 1) (8 * j + i) = bt fr mask t (8 * j + i) := by
        unfold bt
        by_cases q : fr ≤ 8 * j + i ∧ 8 * j + i < fr + t
        · rw [if_pos q, if_pos (by omega)]
        · rw [if_neg q, if_neg (by omega)]
      rw [a1, if_neg z]; simp
  · rw [if_neg e]
    refine val_congr 8 _ _ (fun i hi => ?_)
    unfold bt
    by_cases q : fr ≤ 8 * j + i ∧ 8 * j + i < fr + t
    · rw [if_pos q, if_pos (by omega)]
    · rw [if_neg q, if_neg (by omega)]

/-- 32 bits in a row that are not all nought leave no nought. -/
theorem bd_told {n fr mask : Nat} (hn : fr + 32 ≤ 8 * n) (hm : mask < 4294967296) (h0 : mask ≠ 0) : rb n 0 (bd fr mask 32) ≠ 0 := by
  rw [rb_runs n (bd_lt fr mask 32)]
  have e : bit (bd fr mask 32) = bt fr mask 32 := by funext p; exact bit_val (bt fr mask 32) (bt_lt fr mask 32) p
  rw [e]
  refine burst (bt_lt fr mask 32) hn (fun i _ h => by unfold bt; rw [if_neg (by omega)]) ?_
  rw [val_congr 32 _ (fun i => mask / 2 ^ i % 2) (fun i hi => by unfold bt; rw [if_pos (by omega), show fr + i - fr = i by omega]), val_self 32 mask hm]
  exact h0
/-- Two rows that are unlike only there have unlike sums. -/
theorem sum_told {n fr mask : Nat} (f : Nat → Nat) (hn : fr + 32 ≤ 8 * n) (hm : mask < 4294967296) (h0 : mask ≠ 0) : sum n f ≠ sum n (fun j => f j ^^^ bd fr mask 32 j) := fun e => by
  have h := sum_xor n f (fun j => f j ^^^ bd fr mask 32 j)
  rw [e, Nat.xor_self, rb_congr n (g := bd fr mask 32) (fun i _ => by rw [← Nat.xor_assoc, Nat.xor_self, Nat.zero_xor])] at h
  exact bd_told hn hm h0 h.symm

/-- Four bytes as a number, the lowest first; a number's bytes. -/
def le4 (g : Nat → Nat) : Nat := g 0 + 256 * g 1 + 65536 * g 2 + 16777216 * g 3
def by4 (s : Nat) : Nat → Nat := fun i => s / 256 ^ i % 256
theorem by4_lt (s i : Nat) : by4 s i < 256 := Nat.mod_lt _ (by omega)
theorem le4_by4 {s : Nat} (h : s < 4294967296) : le4 (by4 s) = s := by
  unfold le4 by4
  simp only [Nat.pow_zero, Nat.div_one, Nat.pow_one, show (256 : Nat) ^ 2 = 65536 from rfl, show (256 : Nat) ^ 3 = 16777216 from rfl]
  omega
theorem le4_lt {g : Nat → Nat} (h : ∀ i, g i < 256) : le4 g < 4294967296 := by
  have h0 := h 0; have h1 := h 1; have h2 := h 2; have h3 := h 3
  unfold le4; omega
theorem val_add (a : Nat) : ∀ (b : Nat) (m : Nat → Nat), val (a + b) m = val a m + 2 ^ a * val b (fun i => m (a + i)) := by
  induction a with
  | zero => intro b m; rw [Nat.zero_add]; show val b m = 0 + 1 * val b (fun i => m (0 + i)); rw [Nat.one_mul, Nat.zero_add]; exact val_congr b _ _ (fun i _ => by rw [Nat.zero_add])
  | succ a ih =>
    intro b m
    rw [show a + 1 + b = (a + b) + 1 by omega]
    show m 0 + 2 * val (a + b) (fun i => m (i + 1)) = m 0 + 2 * val a (fun i => m (i + 1)) + 2 ^ (a + 1) * val b (fun i => m (a + 1 + i))
    rw [ih, val_congr b (fun i => m (a + i + 1)) (fun i => m (a + 1 + i)) (fun i _ => by rw [show a + i + 1 = a + 1 + i by omega]), Nat.pow_succ, Nat.mul_add, Nat.add_assoc, Nat.mul_comm (2 ^ a) 2, Nat.mul_assoc]
theorem le4_val {g : Nat → Nat} (h : ∀ i, g i < 256) : val 32 (bit g) = le4 g := by
  have e : val (8 + (8 + (8 + 8))) (bit g) = le4 g := by
    rw [val_add, val_add, val_add]
    have q0 := val8 g 0 (h 0)
    have q1 := val8 g 1 (h 1)
    have q2 := val8 g 2 (h 2)
    have q3 := val8 g 3 (h 3)
    have p0 : val 8 (bit g) = val 8 (fun i => bit g (8 * 0 + i)) := val_congr 8 _ _ (fun i _ => by rw [show 8 * 0 + i = i by omega])
    have p1 : val 8 (fun i => bit g (8 + i)) = val 8 (fun i => bit g (8 * 1 + i)) := val_congr 8 _ _ (fun i _ => by rw [show 8 * 1 + i = 8 + i by omega])
    have p2 : val 8 (fun i => bit g (8 + (8 + i))) = val 8 (fun i => bit g (8 * 2 + i)) := val_congr 8 _ _ (fun i _ => by rw [show 8 * 2 + i = 8 + (8 + i) by omega])
    have p3 : val 8 (fun i => bit g (8 + (8 + (8 + i)))) = val 8 (fun i => bit g (8 * 3 + i)) := val_congr 8 _ _ (fun i _ => by rw [show 8 * 3 + i = 8 + (8 + (8 + i)) by omega])
    rw [p0, p1, p2, p3, q0, q1, q2, q3]
    unfold le4
    omega
  exact e
theorem le4_xor {g h : Nat → Nat} (hg : ∀ i, g i < 256) (hh : ∀ i, h i < 256) : le4 (fun i => g i ^^^ h i) = le4 g ^^^ le4 h := by
  have hx : ∀ i, g i ^^^ h i < 256 := fun i => Nat.xor_lt_two_pow (n := 8) (hg i) (hh i)
  rw [← le4_val hx, ← le4_val hg, ← le4_val hh]
  refine val_xor 32 _ _ _ (bit_lt g) (bit_lt h) (bit_lt _) (fun i _ => ?_)
  have t := Nat.testBit_xor (g (i / 8)) (h (i / 8)) (i % 8)
  rw [Nat.testBit_eq_decide_div_mod_eq, Nat.testBit_eq_decide_div_mod_eq, Nat.testBit_eq_decide_div_mod_eq] at t
  unfold bit
  by_cases qa : g (i / 8) / 2 ^ (i % 8) % 2 = 1 <;> by_cases qb : h (i / 8) / 2 ^ (i % 8) % 2 = 1 <;> by_cases qc : (g (i / 8) ^^^ h (i / 8)) / 2 ^ (i % 8) % 2 = 1 <;> simp [qa, qb, qc] at t ⊢
/-- Rows with their sum behind them: what is turned within 32 bits is told. -/
theorem tail_told {n fr mask : Nat} (f : Nat → Nat) (hf : ∀ i, f i < 256) (hn : fr + 32 ≤ 8 * (n + 4)) (hm : mask < 4294967296) (h0 : mask ≠ 0) :
    le4 (fun i => by4 (sum n f) i ^^^ bd fr mask 32 (n + i)) ≠ sum n (fun j => f j ^^^ bd fr mask 32 j) := fun e => by
  have hs : sum n f < 4294967296 := more_lt (by omega) hf
  rw [le4_xor (by4_lt _) (fun i => bd_lt _ _ _ _), le4_by4 hs] at e
  have h := sum_xor n f (fun j => f j ^^^ bd fr mask 32 j)
  rw [rb_congr n (g := bd fr mask 32) (fun i _ => by rw [← Nat.xor_assoc, Nat.xor_self, Nat.zero_xor]), ← e, ← Nat.xor_assoc, Nat.xor_self, Nat.zero_xor] at h
  refine bd_told hn hm h0 ?_
  rw [rb_add, rb_runs 4 (f := fun i => bd fr mask 32 (n + i)) (fun i => bd_lt _ _ _ _), runs_val 32 _ _ (fun i => bit_lt _ _), le4_val (fun i => bd_lt _ _ _ _), ← h, Nat.xor_self, itn_zero]
end Crc
end Go.Proofs.YtebngmgdciahiaaGreatDoor

namespace Go.Proofs.YtebngmgdciahiaaGreatDoor
open Go.RowKit Crc
attribute [local go_sem ↓] Go.wp_at_zero Go.wp_at_succ

theorem st_form (s : Nat) : st s = s / 2 ^^^ (if s % 2 = 1 then 2197175160 else 0) := by
  unfold st; split
  · rfl
  · rw [Nat.xor_zero]
theorem itn_low (n : Nat) : ∀ L, L / 2 ^ n ^^^ itn n (L % 2 ^ n) = itn n L := by
  induction n with
  | zero => intro L; show L / 1 ^^^ L % 1 = L; rw [Nat.div_one, Nat.mod_one, Nat.xor_zero]
  | succ n ih =>
    intro L
    show L / 2 ^ (n + 1) ^^^ itn n (st (L % 2 ^ (n + 1))) = itn n (st L)
    have hp : 0 < 2 ^ n := Nat.two_pow_pos n
    have e1 : L % 2 ^ (n + 1) % 2 = L % 2 := by rw [Nat.pow_succ]; exact Nat.mod_mul_left_mod _ _ _
    have e2 : L % 2 ^ (n + 1) / 2 = L / 2 % 2 ^ n := by rw [Nat.pow_succ, Nat.mul_comm, Nat.mod_mul_right_div_self]
    have e3 : L / 2 ^ (n + 1) = L / 2 / 2 ^ n := by rw [Nat.pow_succ, Nat.mul_comm, Nat.div_div_eq_div_mul]
    rw [st_form, st_form L, e1, e2, e3, itn_xor, itn_xor, ← ih (L / 2), Nat.xor_assoc]
theorem itn_add (a b : Nat) : ∀ s, itn (a + b) s = itn b (itn a s) := by
  induction a with
  | zero => intro s; rw [Nat.zero_add]; rfl
  | succ a ih => intro s; rw [show a + 1 + b = (a + b) + 1 by omega]; exact ih (st s)

/-- The table of four steps, where the program keeps it. -/
def HalfT (w : World) : Prop := ∀ i, i < 16 → w.cell? ⟨0, i, none⟩ = some (.int .u32 ((itn 4 i : Nat) : Int))
theorem HalfT.keep {w w' : World} (h : HalfT w) (hb : Below w.heap.size w w') : HalfT w' := fun i hi =>
  (hb.cell (p := ⟨0, i, none⟩) (block_lt_of_cell (h i hi))).trans (h i hi)

theorem ret_u32 {a b : Nat} (h : a = b) : Ending.returned (.int .u32 (a : Int)) = .returned (.int .u32 (b : Int)) := by rw [h]
theorem u32_eq {a b : Nat} (h : a = b) : Value.int .u32 (a : Int) = .int .u32 (b : Int) := by rw [h]
theorem full_sub {s : Nat} (h : s < 4294967296) : s ^^^ full = 4294967295 - s := by
  have := BitVec.toNat_not (x := BitVec.ofNat 32 s)
  rw [← BitVec.xor_allOnes, BitVec.toNat_xor, BitVec.toNat_allOnes, BitVec.toNat_ofNat, Nat.mod_eq_of_lt h] at this
  exact this

set_option maxRecDepth 100000 in
set_option maxHeartbeats 1000000 in
theorem more_any (s : Nat) (a : Option Addr) (n c : Nat) (f : Nat → Nat) (w : World) (T : HalfT w) (h : Row w a n f) (hs : s < 4294967296) (hn : n ≤ maxLen) :
    Calls Tryz.prog 88 #[.int .u32 s, .slice a n c] w fun e w' => e = .returned (.int .u32 (more s n f : Nat)) ∧ w = w' := by
  unfold maxLen at hn
  have sg : IntKind.u32.signed = false := rfl
  have l0 : s ^^^ full < 4294967296 := Nat.xor_lt_two_pow (n := 32) hs (by unfold full; omega)
  have x0 : bits .xor .u32 IntKind.u32.max (s : Int) = ((s ^^^ full : Nat) : Int) := by
    rw [Nat.xor_comm]; exact u32_xor full s (by unfold full; omega) hs
  have lr := fun k => rb_lt k (f := f) l0 h.lt
  have HM : Hid (more s n f = rb n (s ^^^ full) f ^^^ full) := rfl
  generalize more s n f = z at *
  generalize s ^^^ full = s1 at *
  go_enter Tryz.func88, Tryz.ntmps88
  go_wp2
  clear x0
  go_loop [5, 12] (fun p i => ∃ k : Nat, k ≤ n ∧ p = .int .u32 (rb k s1 f : Nat) ∧ i = .int .i64 k) (fun _ i => n - (intOf i).toNat)
  case atStart => exact ⟨0, by omega, rfl, rfl⟩
  case round =>
    obtain ⟨k, hk, rfl, rfl⟩ := hrel
    have lp := lr k
    by_cases hlt : k < n
    · obtain ⟨b, o, rfl, hc⟩ := h.lies (by omega)
      have c0 := hc k hlt
      have lx := h.lt k
      have HR : Hid (rb (k + 1) s1 f = itn 4 (itn 4 (rb k s1 f ^^^ f k))) := itn_add 4 4 _
      generalize rb k s1 f = p at *
      generalize f k = x at *
      have lq : p ^^^ x < 4294967296 := Nat.xor_lt_two_pow (n := 32) lp (by omega)
      have e1 : bits .xor .u32 (p : Int) (x : Int) = ((p ^^^ x : Nat) : Int) := u32_xor p x lp (by omega)
      generalize p ^^^ x = q at *
      have ik : (k : Int) < (n : Int) := by omega
      have m1 : bits .and .u32 (q : Int) 15 = ((q % 16 : Nat) : Int) := u32_mask q 4 lq (by omega)
      have t1 := T (q % 16) (by omega)
      have lt1 : itn 4 (q % 16) < 4294967296 := itn_lt 4 (by omega)
      have x1 : bits .xor .u32 ((q : Int) / 16) ((itn 4 (q % 16) : Nat) : Int) = ((itn 4 q : Nat) : Int) := by
        rw [show (q : Int) / 16 = ((q / 16 : Nat) : Int) by omega, u32_xor _ _ (by omega) lt1]
        exact congrArg _ (itn_low 4 q)
      have lq2 : itn 4 q < 4294967296 := itn_lt 4 lq
      have r1 : q % 16 < 16 := by omega
      generalize itn 4 (q % 16) = t at *
      generalize q % 16 = r at *
      generalize itn 4 q = q2 at *
      have m2 : bits .and .u32 (q2 : Int) 15 = ((q2 % 16 : Nat) : Int) := u32_mask q2 4 lq2 (by omega)
      have t2 := T (q2 % 16) (by omega)
      have lt2 : itn 4 (q2 % 16) < 4294967296 := itn_lt 4 (by omega)
      have x2 : bits .xor .u32 ((q2 : Int) / 16) ((itn 4 (q2 % 16) : Nat) : Int) = ((itn 4 q2 : Nat) : Int) := by
        rw [show (q2 : Int) / 16 = ((q2 / 16 : Nat) : Int) by omega, u32_xor _ _ (by omega) lt2]
        exact congrArg _ (itn_low 4 q2)
      have lq3 : itn 4 q2 < 4294967296 := itn_lt 4 lq2
      have r2 : q2 % 16 < 16 := by omega
      generalize itn 4 (q2 % 16) = u at *
      generalize q2 % 16 = r' at *
      generalize itn 4 q2 = q3 at *
      clear hc h lr T
      go_wp2
      go_round
      case rel => exact ⟨k + 1, by omega, u32_eq HR.out.symm, by go_num⟩
      case measure => simp [intOf]; omega
    · have : k = n := by omega
      subst this
      have x3 : bits .xor .u32 IntKind.u32.max ((rb k s1 f : Nat) : Int) = ((rb k s1 f ^^^ full : Nat) : Int) := by
        rw [Nat.xor_comm]; exact u32_xor full _ (by unfold full; omega) lp
      generalize rb k s1 f ^^^ full = z' at *
      generalize rb k s1 f = p at *
      clear h lr T
      go_wp2
      go_ret
      exact ⟨ret_u32 HM.out.symm, rfl⟩
set_option maxRecDepth 100000 in
theorem sum_any (a : Option Addr) (n c : Nat) (f : Nat → Nat) (w : World) (T : HalfT w) (h : Row w a n f) (hn : n ≤ maxLen) :
    Calls Tryz.prog 53 #[.slice a n c] w fun e w' => e = .returned (.int .u32 (sum n f : Nat)) ∧ w = w' := by
  have cM := more_any 0 a n c f w T h (by omega) hn
  have HS : Hid (more 0 n f = sum n f) := rfl
  generalize more 0 n f = z at *
  go_enter Tryz.func53, Tryz.ntmps53
  go_wp2_with fail
  go_at_call 88
  refine cM.mono ?_
  rintro e w' ⟨rfl, rfl⟩
  go_wp2
  go_ret
  exact ⟨ret_u32 HS.out, rfl⟩

/-- Four bytes that were just written out. -/
theorem lit4 (w : World) (x y z u : Nat) (f : Nat → Nat) (h0 : f 0 = x) (h1 : f 1 = y) (h2 : f 2 = z) (h3 : f 3 = u) :
    Made (w.alloc (.cells #[.int .u8 ((x : Nat) : Int), .int .u8 ((y : Nat) : Int), .int .u8 ((z : Nat) : Int), .int .u8 ((u : Nat) : Int)] 5)) w.heap.size 4 f :=
  ⟨fun i hi => by
    rw [World.cell?_alloc_new]
    match i, hi with
    | 0, _ => rw [h0]; rfl
    | 1, _ => rw [h1]; rfl
    | 2, _ => rw [h2]; rfl
    | 3, _ => rw [h3]; rfl, fun _ _ => World.frozen?_alloc_new _ _ _ _⟩

set_option maxRecDepth 100000 in
theorem bytes_any (s : Nat) (w : World) (hs : s < 4294967296) :
    Calls Tryz.prog 52 #[.int .u32 s] w fun e w' => e = .returned (.slice (some ⟨w.heap.size, 0, none⟩) 4 4) ∧ Made w' w.heap.size 4 (by4 s) ∧ Below w.heap.size w w' := by
  go_enter Tryz.func52, Tryz.ntmps52
  go_wp2
  go_ret
  have e0 : (s : Int) % 256 = ((by4 s 0 : Nat) : Int) := by unfold by4; simp
  have e1 : (s : Int) / 256 % 256 = ((by4 s 1 : Nat) : Int) := by unfold by4; simp
  have e2 : (s : Int) / 65536 % 256 = ((by4 s 2 : Nat) : Int) := by unfold by4; simp
  have e3 : (s : Int) / 16777216 = ((by4 s 3 : Nat) : Int) := by
    unfold by4
    rw [Nat.mod_eq_of_lt (by simp; omega)]
    simp
  rw [e0, e1, e2, e3]
  exact ⟨rfl, lit4 w _ _ _ _ (by4 s) rfl rfl rfl rfl, bal _ _⟩

theorem or_hi (a b i : Nat) (ha : a < 2 ^ i) (hb : b * 2 ^ i < 4294967296) (hi : a < 4294967296) : bits .or .u32 (a : Int) ((b : Int) * ((2 ^ i : Nat) : Int)) = ((a + b * 2 ^ i : Nat) : Int) := by
  rw [show (b : Int) * ((2 ^ i : Nat) : Int) = ((b * 2 ^ i : Nat) : Int) by simp, u32_or a _ hi hb, Nat.or_comm, Nat.mul_comm b, ← Nat.two_pow_add_eq_or_of_lt ha, Nat.add_comm]
theorem below_drewN {B : Nat} {w w' : World} (h : Below B w w') (n : Nat) : Below B w (w'.drewN n) := by
  induction n with
  | zero => exact h
  | succ n ih => exact ih.drew
theorem ret_t2 {a b : Nat} {p q : Bool} (h : a = b) (k : p = q) : Ending.returned (.tuple #[.int .u32 (a : Int), .bool p]) = .returned (.tuple #[.int .u32 (b : Int), .bool q]) := by rw [h, k]

end Go.Proofs.YtebngmgdciahiaaGreatDoor

namespace Go.Proofs.YtebngmgdciahiaaGreatDoor
open Go.RowKit Crc
attribute [local go_sem ↓] Go.wp_at_zero Go.wp_at_succ

theorem itn_succ (n s : Nat) : itn (n + 1) s = st (itn n s) := itn_add n 1 s

set_option maxRecDepth 100000 in
set_option maxHeartbeats 1000000 in
theorem rmore_any (s : Nat) (a : Option Addr) (n c : Nat) (f : Nat → Nat) (w : World) (h : Row w a n f) (hs : s < 4294967296) (hn : n ≤ maxLen) :
    Calls Tryz.prog 90 #[.int .u32 s, .slice a n c] w fun e w' => e = .returned (.int .u32 (more s n f : Nat)) ∧ w = w' := by
  unfold maxLen at hn
  have sg : IntKind.u32.signed = false := rfl
  have l0 : s ^^^ full < 4294967296 := Nat.xor_lt_two_pow (n := 32) hs (by unfold full; omega)
  have x0 : bits .xor .u32 IntKind.u32.max (s : Int) = ((s ^^^ full : Nat) : Int) := by
    rw [Nat.xor_comm]; exact u32_xor full s (by unfold full; omega) hs
  have lr := fun k => rb_lt k (f := f) l0 h.lt
  have HM : Hid (more s n f = rb n (s ^^^ full) f ^^^ full) := rfl
  generalize more s n f = z at *
  generalize s ^^^ full = s1 at *
  go_enter Tryz.func90, Tryz.ntmps90
  go_wp2
  clear x0
  go_loop [0, 5] (fun p i => ∃ k : Nat, k ≤ n ∧ p = .int .u32 (rb k s1 f : Nat) ∧ i = .int .i64 k) (fun _ i => n - (intOf i).toNat)
  case atStart => exact ⟨0, by omega, rfl, rfl⟩
  case round =>
    obtain ⟨k, hk, rfl, rfl⟩ := hrel
    have lp := lr k
    by_cases hlt : k < n
    · obtain ⟨b, o, rfl, hc⟩ := h.lies (by omega)
      have c0 := hc k hlt
      have lx := h.lt k
      have HR : Hid (rb (k + 1) s1 f = itn 8 (rb k s1 f ^^^ f k)) := rfl
      generalize rb k s1 f = p at *
      generalize f k = x at *
      have lq : p ^^^ x < 4294967296 := Nat.xor_lt_two_pow (n := 32) lp (by omega)
      have e1 : bits .xor .u32 (p : Int) (x : Int) = ((p ^^^ x : Nat) : Int) := u32_xor p x lp (by omega)
      generalize p ^^^ x = q at *
      have ik : (k : Int) < (n : Int) := by omega
      clear hc h lr
      go_wp2
      go_loop [0, 6] (fun p i => ∃ j : Nat, j ≤ 8 ∧ p = .int .u32 (itn j q : Nat) ∧ i = .int .i64 j) (fun _ i => 8 - (intOf i).toNat)
      case atStart => exact ⟨0, by omega, rfl, rfl⟩
      case round =>
        obtain ⟨j, hj, rfl, rfl⟩ := hrel
        by_cases hlt2 : j < 8
        · have ij : (j : Int) < 8 := by omega
          have HN : Hid (itn (j + 1) q = st (itn j q)) := itn_succ j q
          have lt := itn_lt j lq
          generalize itn j q = t at *
          have hb : bits .and .u32 (t : Int) 1 = ((t % 2 : Nat) : Int) := u32_mask t 1 lt (by omega)
          by_cases od : t % 2 = 1
          · have HS : Hid (st t = t / 2 ^^^ 2197175160) := if_pos od
            have x1 : bits .xor .u32 ((t : Int) / 2) 2197175160 = ((t / 2 ^^^ 2197175160 : Nat) : Int) := by
              rw [show (t : Int) / 2 = ((t / 2 : Nat) : Int) by omega]; exact u32_xor (t / 2) 2197175160 (by omega) (by omega)
            rw [od] at hb
            generalize t / 2 ^^^ 2197175160 = u at *
            clear od
            go_wp2
            go_round
            case rel => exact ⟨j + 1, by omega, u32_eq (HN.out.trans HS.out).symm, by go_num⟩
            case measure => simp [intOf]; omega
          · have HS : Hid (st t = t / 2) := if_neg od
            rw [show t % 2 = 0 by omega] at hb
            have x1 : (t : Int) / 2 = ((t / 2 : Nat) : Int) := by omega
            generalize t / 2 = u at *
            clear od
            go_wp2
            go_round
            case rel => exact ⟨j + 1, by omega, u32_eq (HN.out.trans HS.out).symm, by go_num⟩
            case measure => simp [intOf]; omega
        · have : j = 8 := by omega
          subst this
          generalize itn 8 q = t at *
          go_wp2
          go_round
          case rel => exact ⟨k + 1, by omega, u32_eq HR.out.symm, by go_num⟩
          case measure => simp [intOf]; omega
    · have : k = n := by omega
      subst this
      have x3 : bits .xor .u32 IntKind.u32.max ((rb k s1 f : Nat) : Int) = ((rb k s1 f ^^^ full : Nat) : Int) := by
        rw [Nat.xor_comm]; exact u32_xor full _ (by unfold full; omega) lp
      generalize rb k s1 f ^^^ full = z' at *
      generalize rb k s1 f = p at *
      clear h lr
      go_wp2
      go_ret
      exact ⟨ret_u32 HM.out.symm, rfl⟩

set_option maxRecDepth 100000 in
theorem rsum_any (a : Option Addr) (n c : Nat) (f : Nat → Nat) (w : World) (h : Row w a n f) (hn : n ≤ maxLen) :
    Calls Tryz.prog 55 #[.slice a n c] w fun e w' => e = .returned (.int .u32 (sum n f : Nat)) ∧ w = w' := by
  have cM := rmore_any 0 a n c f w h (by omega) hn
  have HS : Hid (more 0 n f = sum n f) := rfl
  generalize more 0 n f = z at *
  go_enter Tryz.func55, Tryz.ntmps55
  go_wp2_with fail
  go_at_call 90
  refine cM.mono ?_
  rintro e w' ⟨rfl, rfl⟩
  go_wp2
  go_ret
  exact ⟨ret_u32 HS.out, rfl⟩

set_option maxRecDepth 100000 in
set_option maxHeartbeats 1000000 in
theorem little_any (s m : Nat) (w : World) (_ : s < 9223372036854775808) (hm : m ≤ 8) :
    Calls Tryz.prog 89 #[.int .i64 s, .int .i64 m] w fun e w' => ∃ v, e = .returned v ∧ Own w' w.heap.size v m (by4 s) ∧ Below w.heap.size w w' := by
  go_enter Tryz.func89, Tryz.ntmps89
  go_wp2
  go_loopw [5, 6] (fun v i wr => ∃ k : Nat, k ≤ m ∧ i = .int .i64 k ∧ Own wr w.heap.size v k (by4 s) ∧ Below w.heap.size w wr) (fun _ i _ => m - (intOf i).toNat)
  case atStart => exact ⟨0, by omega, rfl, Own.start _ _ _, Below.refl _ _⟩
  case round =>
    obtain ⟨k, hk, rfl, ho, hb⟩ := hrel
    by_cases hlt : k < m
    · have ik : (k : Int) < (m : Int) := by omega
      obtain ⟨v', W, hr, ho2, hb2⟩ := push1 ho (by4_lt s k) (by omega) hb.size rfl
      have HA : Hid _ := hr
      have HO : Hid _ := ho2
      have HB : Hid (Below w.heap.size w W) := hb.trans hb2
      have ex : (s : Int) / 2 ^ (8 * k) % 256 = ((by4 s k : Nat) : Int) := by
        unfold by4
        rw [show (256 : Nat) ^ k = 2 ^ (8 * k) by rw [Nat.pow_mul]]
        simp
      generalize by4 s k = x at *
      clear hr ho ho2 hb hb2
      go_wp2_with (at_builtin; refine wpList_append_ran (by rfl) _ _ 27 (by rfl) _ _ _ _ (by rfl) (by rfl) HA.out ?_)
      go_wp2
      go_round
      case rel => exact ⟨k + 1, by omega, by go_num, HO.out, HB.out⟩
      case measure => simp [intOf]; omega
    · have : k = m := by omega
      subst this
      have HO : Hid _ := ho
      clear ho
      go_wp2
      go_ret
      exact ⟨_, rfl, HO.out, hb⟩

set_option maxRecDepth 100000 in
theorem rbytes_any (s : Nat) (w : World) (hs : s < 4294967296) :
    Calls Tryz.prog 54 #[.int .u32 s] w fun e w' => ∃ v, e = .returned v ∧ Own w' w.heap.size v 4 (by4 s) ∧ Below w.heap.size w w' := by
  have cL := little_any s 4 w (by omega) (by omega)
  go_enter Tryz.func54, Tryz.ntmps54
  go_wp2_with fail
  go_at_call 89
  refine cL.mono ?_
  rintro e w' ⟨v, rfl, ho, hb⟩
  have HO : Hid _ := ho
  clear ho
  go_wp2
  go_ret
  exact ⟨_, rfl, HO.out, hb⟩
end Go.Proofs.YtebngmgdciahiaaGreatDoor

namespace Go.Proofs.YtebngmgdciahiaaGreatDoor
open Go.RowKit Crc
attribute [local go_sem ↓] Go.wp_at_zero Go.wp_at_succ

def laidAll : List (String × DataW Unit) := [("strongbox/crc.halfSteps", Rows.laid_strongbox_crc_halfSteps)]
def zs : List Int := (List.range 16).map fun i => ((itn 4 i : Nat) : Int)
theorem laid_zs : (Rows.laid_strongbox_crc_halfSteps : DataW Unit) = Lib.tabData .u32 zs := by
  have e : zs = [0, 274646895, 549293790, 820201905, 1098587580, 1361435347, 1640403810, 1905808397, 2197175160, 2460548119, 2722870694, 2987750089, 3280807620, 3553878443, 3811616794, 4084100981] := by decide +kernel
  rw [e]; rfl
theorem gHalf : Tryz.prog.globalNamed "strongbox/crc.halfSteps" = some 0 := by kernel_rfl
theorem tHalf : (Tryz.prog.globals[0]?).map (·.type) = some 184 := by kernel_rfl
theorem halfT_of {W : World} (h : laidMetH Tryz.prog laidAll W) : HalfT W := by
  rw [MakeChecks.laidMetH_plain _ _ _ (by kernel_rfl)] at h
  unfold laidAll at h
  rw [laid_zs] at h
  have hT := Lib.tabIs_of_head gHalf tHalf Tryz.underlying184 Tryz.underlying124 (by kernel_rfl) (by kernel_rfl) h
  intro i hi
  have := hT.cell gHalf i (by simpa [zs] using hi)
  rw [this]
  congr 2
  unfold zs
  simp [hi]
theorem door_met (os : Os) (args : Array Value) : laidMetH Tryz.prog laidAll ((World.doorLaid Tryz.prog 400 os).forCall (fun _ _ => 0) ⟨#[], args, []⟩).memory :=
  laidMetH_of_parts3 (fuel := 8) (laidMet_of_run' 8 (by kernel_rfl) (by kernel_rfl)) (by kernel_rfl) (by kernel_rfl)

theorem sum_known : sum 9 (fun i => if i < 9 then 49 + i else 0) = 3808858755 := by decide +kernel
theorem sum_none (f : Nat → Nat) : sum 0 f = 0 := more_none 0 f

theorem cell_new_any (w : World) (c : Array Value) (t : TypeId) (z : Nat × Nat) (i : Nat) : (w.alloc (.cells c t z)).cell? ⟨w.heap.size, i, none⟩ = c[i]? := by
  have : (w.alloc (.cells c t z)).heap[w.heap.size]? = some (.cells c t z) := by
    show (w.heap.push (.cells c t z))[w.heap.size]? = _
    simp
  unfold World.cell?
  dsimp only
  rw [this]
  rfl
/-- Nine bytes that were just written out. -/
theorem lit9 (w : World) : Row (w.alloc (.cells #[.int .u8 49, .int .u8 50, .int .u8 51, .int .u8 52, .int .u8 53, .int .u8 54, .int .u8 55, .int .u8 56, .int .u8 57] 5 (9, 10))) (some ⟨w.heap.size, 0, none⟩) 9 (fun i => if i < 9 then 49 + i else 0) :=
  ⟨fun i => by split <;> omega, fun _ => ⟨w.heap.size, 0, rfl, fun i hi => by
    rw [Nat.zero_add, cell_new_any]
    match i, hi with
    | 0, _ => rfl
    | 1, _ => rfl
    | 2, _ => rfl
    | 3, _ => rfl
    | 4, _ => rfl
    | 5, _ => rfl
    | 6, _ => rfl
    | 7, _ => rfl
    | 8, _ => rfl⟩⟩

end Go.Proofs.YtebngmgdciahiaaGreatDoor
