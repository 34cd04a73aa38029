/-
  Plain mathematics of rows that data is cut to: how wide a stripe is, how long a row, where a byte of a row lies in the data, and back.
-/
import Derived.ProofKit
set_option maxRecDepth 100000
set_option linter.unusedVariables false
namespace Go.Proofs.Ytfifcghjbdooeaa

/-- r parted by k, upwards. -/
def cdiv (r k : Nat) : Nat := (r + k - 1) / k
/-- How many bytes each row has of the stripe of which r bytes are left. -/
def wd (r k B : Nat) : Nat := min B (cdiv r k)
/-- How long each row is. -/
def ln (n k B : Nat) : Nat := n / (k * B) * B + wd (n % (k * B)) k B
/-- Where byte j of row r lies in the data. -/
def pos (n k B r j : Nat) : Nat := j / B * (k * B) + r * wd (n - j / B * (k * B)) k B + j % B
/-- The rows, as far as the first q bytes of the data stand in them. -/
def spq (f : Nat → Nat) (n k B q : Nat) : Nat → Nat → Nat := fun r j => if pos n k B r j < q then f (pos n k B r j) else 0
/-- Which byte of which row is byte p of the data. -/
def jrow (n k B p : Nat) : Nat := p % (k * B) / wd (n - p / (k * B) * (k * B)) k B
def jat (n k B p : Nat) : Nat := p / (k * B) * B + p % (k * B) % wd (n - p / (k * B) * (k * B)) k B
/-- What is joined of rows F. -/
def jn (F : Nat → Nat → Nat) (n k B : Nat) : Nat → Nat := fun p => F (jrow n k B p) (jat n k B p)

theorem spq_lt {f : Nat → Nat} (hf : ∀ i, f i < 256) (n k B q r j : Nat) : spq f n k B q r j < 256 := by unfold spq; split; exact hf _; omega

theorem cdiv_bounds (r : Nat) {k : Nat} (hk : 1 ≤ k) : r ≤ k * cdiv r k ∧ k * cdiv r k < r + k := by
  unfold cdiv
  have h1 := Nat.div_add_mod (r + k - 1) k
  have h2 := Nat.mod_lt (r + k - 1) (show k > 0 by omega)
  omega
theorem cdiv_le {r k B : Nat} (hk : 1 ≤ k) (h : r ≤ k * B) : cdiv r k ≤ B := by
  have h1 := (cdiv_bounds r hk).2
  have h2 : k * cdiv r k < k * (B + 1) := by rw [Nat.mul_add, Nat.mul_one]; omega
  have := Nat.lt_of_mul_lt_mul_left h2
  omega
theorem le_cdiv {r k B : Nat} (hk : 1 ≤ k) (h : k * B ≤ r) : B ≤ cdiv r k := by
  have h1 := (cdiv_bounds r hk).1
  exact Nat.le_of_mul_le_mul_left (Nat.le_trans h h1) (by omega)
theorem wd_le (r k B : Nat) : wd r k B ≤ B := Nat.min_le_left _ _
theorem wd_part {r k B : Nat} (hk : 1 ≤ k) (h : r ≤ k * B) : wd r k B = cdiv r k := Nat.min_eq_right (cdiv_le hk h)
theorem wd_full {r k B : Nat} (hk : 1 ≤ k) (h : k * B ≤ r) : wd r k B = B := Nat.min_eq_left (le_cdiv hk h)
theorem wd_pos {r k B : Nat} (hk : 1 ≤ k) (hB : 1 ≤ B) (h : 1 ≤ r) : 1 ≤ wd r k B := by
  unfold wd
  have h1 := (cdiv_bounds r hk).1
  have h2 : 1 ≤ cdiv r k := by
    rcases Nat.eq_zero_or_pos (cdiv r k) with e | e
    · rw [e, Nat.mul_zero] at h1; omega
    · exact e
  omega
theorem wd_zero {k : Nat} (B : Nat) (hk : 1 ≤ k) : wd 0 k B = 0 := by
  rw [wd_part hk (Nat.zero_le _)]
  have := (cdiv_bounds 0 hk).2
  rcases Nat.eq_zero_or_pos (cdiv 0 k) with e | e
  · exact e
  · have := Nat.mul_le_mul_left k e; omega
theorem wd_mul {r k B : Nat} (hk : 1 ≤ k) (h : r ≤ k * B) : r ≤ k * wd r k B ∧ k * wd r k B < r + k := by
  rw [wd_part hk h]; exact cdiv_bounds r hk
theorem wd_mul_le (r k B : Nat) : k * wd r k B ≤ k * B := Nat.mul_le_mul_left k (wd_le r k B)
theorem wd_mono {r r' k B : Nat} (h : r ≤ r') : wd r k B ≤ wd r' k B := by
  have : cdiv r k ≤ cdiv r' k := Nat.div_le_div_right (by omega)
  unfold wd; omega
theorem KB {k B : Nat} (hk : 1 ≤ k) (hB : 1 ≤ B) : 1 ≤ k * B := Nat.mul_pos hk hB

/-- The row's length, with the stripe s in which the data ends (or at whose end). -/
theorem ln_at {n k B s : Nat} (hk : 1 ≤ k) (hB : 1 ≤ B) (h1 : s * (k * B) ≤ n) (h2 : n ≤ (s + 1) * (k * B)) : ln n k B = s * B + wd (n - s * (k * B)) k B := by
  unfold ln
  have hK := KB hk hB
  generalize hKe : k * B = K at *
  rw [Nat.add_mul, Nat.one_mul] at h2
  by_cases e : n = s * K + K
  · have e' : n = (s + 1) * K := by rw [Nat.add_mul, Nat.one_mul]; exact e
    rw [e', Nat.mul_div_cancel _ (by omega), Nat.mul_mod_left, wd_zero B hk, ← e', e, Nat.add_sub_cancel_left, wd_full hk (by omega), Nat.add_mul, Nat.one_mul]
    omega
  · have d : n / K = s := by
      apply Nat.div_eq_of_lt_le
      · rw [Nat.mul_comm]; rw [Nat.mul_comm]; exact h1
      · rw [Nat.add_mul, Nat.one_mul]; omega
    have m : n % K = n - s * K := by
      have := Nat.div_add_mod n K
      rw [d, Nat.mul_comm] at this; omega
    rw [d, m]
/-- A stripe that is whole. -/
theorem ln_whole {n k B s : Nat} (hk : 1 ≤ k) (hB : 1 ≤ B) (h : s * (k * B) ≤ n) : s * B ≤ ln n k B := by
  unfold ln
  have hK := KB hk hB
  have : s ≤ n / (k * B) := (Nat.le_div_iff_mul_le (by omega)).2 h
  exact Nat.le_trans (Nat.mul_le_mul_right B this) (Nat.le_add_right _ _)
/-- The width of each stripe, by the row's length. -/
theorem wd_ln {n k B s : Nat} (hk : 1 ≤ k) (hB : 1 ≤ B) (h : s * (k * B) ≤ n) : wd (n - s * (k * B)) k B = min B (ln n k B - s * B) := by
  by_cases e : n ≤ (s + 1) * (k * B)
  · rw [ln_at hk hB h e]
    have := wd_le (n - s * (k * B)) k B
    omega
  · have h1 : (s + 1) * (k * B) ≤ n := by omega
    have h2 := ln_whole hk hB h1
    rw [Nat.add_mul, Nat.one_mul] at h1 h2
    rw [wd_full hk (by omega)]
    omega
theorem stripe_fits {n k B s : Nat} (hk : 1 ≤ k) (hB : 1 ≤ B) (h : s * (k * B) ≤ n) : s * B + wd (n - s * (k * B)) k B ≤ ln n k B := by
  have h1 := wd_ln hk hB h
  have h2 := ln_whole hk hB h
  omega
theorem ln_done {n k B s : Nat} (hk : 1 ≤ k) (hB : 1 ≤ B) (h : n ≤ s * (k * B)) : ln n k B ≤ s * B := by
  unfold ln
  have hK := KB hk hB
  have hd := Nat.div_add_mod n (k * B)
  by_cases e : n / (k * B) < s
  · have h1 : (n / (k * B) + 1) * B ≤ s * B := Nat.mul_le_mul_right B e
    have h2 := wd_le (n % (k * B)) k B
    rw [Nat.add_mul, Nat.one_mul] at h1
    omega
  · have h1 : s * (k * B) ≤ n / (k * B) * (k * B) := Nat.mul_le_mul_right _ (by omega)
    rw [Nat.mul_comm (k * B)] at hd
    have h3 : n % (k * B) = 0 := by omega
    have h4 : n / (k * B) = s := by
      have : n / (k * B) * (k * B) = s * (k * B) := by omega
      exact Nat.eq_of_mul_eq_mul_right hK this
    rw [h3, h4, wd_zero B hk]; omega
theorem ln_zero {k B : Nat} (hk : 1 ≤ k) (hB : 1 ≤ B) : ln 0 k B = 0 := by
  have := ln_done (n := 0) (s := 0) hk hB (by omega)
  omega
theorem ln_lt {n k B s : Nat} (hk : 1 ≤ k) (hB : 1 ≤ B) (h : s * (k * B) < n) : s * B < ln n k B := by
  have h1 := stripe_fits hk hB (Nat.le_of_lt h)
  have h2 := wd_pos (r := n - s * (k * B)) hk hB (by omega)
  omega
/-- Rows hold all the data, and less than one byte each besides. -/
theorem ln_mul (n : Nat) {k B : Nat} (hk : 1 ≤ k) (hB : 1 ≤ B) : n ≤ k * ln n k B ∧ k * ln n k B < n + k := by
  have hK := KB hk hB
  have hd := Nat.div_add_mod n (k * B)
  have hm := Nat.mod_lt n (show k * B > 0 by omega)
  have h1 := wd_mul (r := n % (k * B)) (B := B) hk (by omega)
  have e : k * ln n k B = k * B * (n / (k * B)) + k * wd (n % (k * B)) k B := by
    unfold ln
    rw [Nat.mul_add, Nat.mul_comm (n / (k * B)) B, ← Nat.mul_assoc]
  omega
theorem ln_le (n : Nat) {k B : Nat} (hk : 1 ≤ k) (hB : 1 ≤ B) : ln n k B ≤ n := by
  have h := (ln_mul n hk hB).2
  rcases Nat.lt_or_ge n (ln n k B) with e | e
  · have h1 : k * (n + 1) ≤ k * ln n k B := Nat.mul_le_mul_left k e
    have h2 : 1 * n ≤ k * n := Nat.mul_le_mul_right n hk
    rw [Nat.mul_add, Nat.mul_one] at h1
    omega
  · exact e
theorem ln_more (n : Nat) {k B : Nat} (hk : 1 ≤ k) (hB : 1 ≤ B) : ln (n + k * B) k B = ln n k B + B := by
  have hK := KB hk hB
  unfold ln
  rw [Nat.add_mod_right, Nat.add_div_right _ (by omega), Nat.succ_mul]
  omega
theorem ln_mono {n n' k B : Nat} (hk : 1 ≤ k) (hB : 1 ≤ B) (h : n ≤ n') : ln n k B ≤ ln n' k B := by
  have hK := KB hk hB
  have hd := Nat.div_add_mod n (k * B)
  have hm := Nat.mod_lt n (show k * B > 0 by omega)
  rw [Nat.mul_comm] at hd
  have h1 : n / (k * B) * (k * B) ≤ n' := by omega
  have h2 := stripe_fits hk hB h1
  have h3 : wd (n % (k * B)) k B ≤ wd (n' - n / (k * B) * (k * B)) k B := wd_mono (by omega)
  have e : ln n k B = n / (k * B) * B + wd (n % (k * B)) k B := rfl
  omega
theorem ln_same (n : Nat) {k B : Nat} (hk : 1 ≤ k) (hB : 1 ≤ B) : ln n k B = n / (k * B) * B + (n % (k * B) + k - 1) / k := by
  have hK := KB hk hB
  have hm := Nat.mod_lt n (show k * B > 0 by omega)
  unfold ln
  rw [wd_part hk (by omega)]; rfl

/-- Two numbers by quotient and rest. -/
theorem parts_eq {a b w x y : Nat} (hx : x < w) (hy : y < w) (h : a * w + x = b * w + y) : a = b ∧ x = y := by
  have h1 : (a * w + x) / w = a := by
    rw [Nat.add_comm, Nat.add_mul_div_right _ _ (by omega), Nat.div_eq_of_lt hx]; omega
  have h2 : (b * w + y) / w = b := by
    rw [Nat.add_comm, Nat.add_mul_div_right _ _ (by omega), Nat.div_eq_of_lt hy]; omega
  have e : a = b := by rw [← h1, ← h2, h]
  subst e
  exact ⟨rfl, by omega⟩
theorem div_part {s B o : Nat} (h : o < B) : (s * B + o) / B = s ∧ (s * B + o) % B = o := by
  refine ⟨?_, ?_⟩
  · rw [Nat.add_comm, Nat.add_mul_div_right _ _ (by omega), Nat.div_eq_of_lt h]; omega
  · rw [Nat.add_comm, Nat.add_mul_mod_self_right, Nat.mod_eq_of_lt h]
theorem mul_lt_part {i k w x : Nat} (hi : i < k) (hx : x < w) : i * w + x < k * w := by
  have : (i + 1) * w ≤ k * w := Nat.mul_le_mul_right w hi
  rw [Nat.add_mul, Nat.one_mul] at this
  omega

theorem pos_at {n k B s i o : Nat} (h : o < B) : pos n k B i (s * B + o) = s * (k * B) + i * wd (n - s * (k * B)) k B + o := by
  unfold pos
  rw [(div_part h).1, (div_part h).2]

/-- Every byte of a row lies in a stripe that begins within the data. -/
theorem row_stripe {n k B j : Nat} (hk : 1 ≤ k) (hB : 1 ≤ B) (hj : j < ln n k B) : j / B * (k * B) < n ∧ j % B < wd (n - j / B * (k * B)) k B := by
  have hd := Nat.div_add_mod j B
  rw [Nat.mul_comm] at hd
  have h1 : j / B * (k * B) < n := by
    rcases Nat.lt_or_ge (j / B * (k * B)) n with e | e
    · exact e
    · have := ln_done hk hB e; omega
  refine ⟨h1, ?_⟩
  have h2 := wd_ln hk hB (Nat.le_of_lt h1)
  have h3 := Nat.mod_lt j (show B > 0 by omega)
  omega

/-- What is copied of stripe s to row i stands where it should; all else is as it was. -/
theorem spq_step {f : Nat → Nat} {n k B s i r j : Nat} (hk : 1 ≤ k) (hB : 1 ≤ B) (hi : i < k) (hr : r < k) (hj : j < ln n k B) {w q m : Nat} (hw : w = wd (n - s * (k * B)) k B) (hq : q = min n (s * (k * B) + i * w)) (hm : m = min w (n - q)) :
    spq f n k B (q + m) r j = if r = i ∧ s * B ≤ j ∧ j < s * B + m then f (q + (j - s * B)) else spq f n k B q r j := by
  have hwB : w ≤ B := by rw [hw]; exact wd_le _ _ _
  by_cases c : r = i ∧ s * B ≤ j ∧ j < s * B + m
  · rw [if_pos c]
    obtain ⟨rfl, c1, c2⟩ := c
    obtain ⟨o, rfl⟩ : ∃ o, j = s * B + o := ⟨j - s * B, by omega⟩
    have hp := pos_at (n := n) (k := k) (B := B) (s := s) (i := r) (o := o) (by omega)
    rw [← hw] at hp
    unfold spq
    rw [hp, if_pos (by omega)]
    congr 1
    omega
  · rw [if_neg c]
    have hne : ¬ (q ≤ pos n k B r j ∧ pos n k B r j < q + m) := by
      rintro ⟨p1, p2⟩
      apply c
      have hqe : q = s * (k * B) + i * w := by omega
      obtain ⟨g1, g2⟩ := row_stripe hk hB hj
      have hd := Nat.div_add_mod j B
      rw [Nat.mul_comm] at hd
      have hpe : pos n k B r j = j / B * (k * B) + (r * wd (n - j / B * (k * B)) k B + j % B) := by unfold pos; omega
      have b1 := mul_lt_part hr g2
      have b2 := wd_mul_le (n - j / B * (k * B)) k B
      obtain ⟨o, ho⟩ : ∃ o, pos n k B r j = q + o := ⟨pos n k B r j - q, by omega⟩
      have how : o < w := by omega
      have b3 := mul_lt_part hi how
      have b4 := wd_mul_le (n - s * (k * B)) k B
      rw [← hw] at b4
      obtain ⟨e0, e1⟩ := parts_eq (w := k * B) (a := j / B) (b := s) (x := r * wd (n - j / B * (k * B)) k B + j % B) (y := i * w + o) (by omega) (by omega) (by omega)
      rw [e0, ← hw] at g2 e1
      have e2 := parts_eq (w := w) (a := r) (b := i) (x := j % B) (y := o) g2 how e1
      rw [e0] at hd
      exact ⟨e2.1, by omega, by omega⟩
    unfold spq
    by_cases c1 : pos n k B r j < q
    · rw [if_pos c1, if_pos (by omega)]
    · rw [if_neg c1, if_neg (by omega)]

/-- How far the data is behind a stripe. -/
theorem stripe_end {n k B s : Nat} (hk : 1 ≤ k) : min n (s * (k * B) + k * wd (n - s * (k * B)) k B) = min n ((s + 1) * (k * B)) := by
  rw [Nat.add_mul, Nat.one_mul]
  by_cases h : n - s * (k * B) ≤ k * B
  · have := wd_mul (r := n - s * (k * B)) hk h
    omega
  · rw [wd_full hk (by omega)]
theorem step_next {n s K i w : Nat} : min n (s * K + i * w) + min w (n - min n (s * K + i * w)) = min n (s * K + (i + 1) * w) := by
  rw [Nat.add_mul, Nat.one_mul]; omega

/-- Byte p of the data, as what is joined has it. -/
theorem jn_at {F : Nat → Nat → Nat} {n k B s i o : Nat} (hi : i < k) (ho : o < wd (n - s * (k * B)) k B) : jn F n k B (s * (k * B) + i * wd (n - s * (k * B)) k B + o) = F i (s * B + o) := by
  have b1 := mul_lt_part hi ho
  have b2 := wd_mul_le (n - s * (k * B)) k B
  have e : s * (k * B) + i * wd (n - s * (k * B)) k B + o = s * (k * B) + (i * wd (n - s * (k * B)) k B + o) := by omega
  have d := div_part (s := s) (B := k * B) (o := i * wd (n - s * (k * B)) k B + o) (by omega)
  unfold jn jrow jat
  rw [e, d.1, d.2, (div_part ho).1, (div_part ho).2]
/-- Where it lies: a stripe, a row, a place. -/
theorem jn_parts {n k B p : Nat} (hk : 1 ≤ k) (hB : 1 ≤ B) (hp : p < n) : ∃ s i o, s * (k * B) < n ∧ i < k ∧ o < wd (n - s * (k * B)) k B ∧ p = s * (k * B) + i * wd (n - s * (k * B)) k B + o := by
  have hK := KB hk hB
  have hd := Nat.div_add_mod p (k * B)
  have hm := Nat.mod_lt p (show k * B > 0 by omega)
  rw [Nat.mul_comm] at hd
  have hs : p / (k * B) * (k * B) < n := by omega
  have hw := wd_pos (r := n - p / (k * B) * (k * B)) hk hB (by omega)
  have hd2 := Nat.div_add_mod (p % (k * B)) (wd (n - p / (k * B) * (k * B)) k B)
  have hm2 := Nat.mod_lt (p % (k * B)) (show wd (n - p / (k * B) * (k * B)) k B > 0 by omega)
  rw [Nat.mul_comm] at hd2
  refine ⟨p / (k * B), p % (k * B) / wd (n - p / (k * B) * (k * B)) k B, p % (k * B) % wd (n - p / (k * B) * (k * B)) k B, hs, ?_, hm2, by omega⟩
  have hle : p % (k * B) < k * wd (n - p / (k * B) * (k * B)) k B := by
    by_cases h : n - p / (k * B) * (k * B) ≤ k * B
    · have := wd_mul (r := n - p / (k * B) * (k * B)) hk h
      omega
    · rw [wd_full hk (by omega)]; exact hm
  exact (Nat.div_lt_iff_lt_mul (by omega)).2 hle
theorem jn_lt {F : Nat → Nat → Nat} (hF : ∀ i j, F i j < 256) (n k B p : Nat) : jn F n k B p < 256 := hF _ _
/-- What was cut is joined again. -/
theorem jn_spq {f : Nat → Nat} {n k B p : Nat} (hk : 1 ≤ k) (hB : 1 ≤ B) (hp : p < n) : jn (spq f n k B n) n k B p = f p := by
  obtain ⟨s, i, o, hs, hi, ho, rfl⟩ := jn_parts hk hB hp
  rw [jn_at hi ho]
  have hb : o < B := Nat.lt_of_lt_of_le ho (wd_le _ _ _)
  unfold spq
  rw [pos_at hb, if_pos hp]
theorem jn_congr {F G : Nat → Nat → Nat} {n k B p : Nat} (hk : 1 ≤ k) (hB : 1 ≤ B) (hp : p < n) (h : ∀ i j, i < k → j < ln n k B → F i j = G i j) : jn F n k B p = jn G n k B p := by
  obtain ⟨s, i, o, hs, hi, ho, rfl⟩ := jn_parts hk hB hp
  rw [jn_at hi ho, jn_at hi ho]
  have := stripe_fits hk hB (Nat.le_of_lt hs)
  exact h i _ hi (by omega)
/-- One byte more, and rows as long: the same data is joined. -/
theorem jn_more {f : Nat → Nat} {n k B p : Nat} (hk : 1 ≤ k) (hB : 1 ≤ B) (hp : p < n) (hl : ln (n + 1) k B = ln n k B) : jn (spq f (n + 1) k B (n + 1)) n k B p = f p := by
  obtain ⟨s, i, o, hs, hi, ho, rfl⟩ := jn_parts hk hB hp
  rw [jn_at hi ho]
  have hb : o < B := Nat.lt_of_lt_of_le ho (wd_le _ _ _)
  have e : wd (n + 1 - s * (k * B)) k B = wd (n - s * (k * B)) k B := by
    rw [wd_ln hk hB (Nat.le_of_lt hs), wd_ln hk hB (show s * (k * B) ≤ n + 1 by omega), hl]
  unfold spq
  rw [pos_at hb, e, if_pos (by omega)]
end Go.Proofs.Ytfifcghjbdooeaa
