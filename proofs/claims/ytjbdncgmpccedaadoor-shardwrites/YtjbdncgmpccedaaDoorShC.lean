/-
  Plain mathematics of a Writer: how long its file is behind t bytes of data, what its block under way has room for, its sum; the next piece.
-/
import Derived.Test.YtjbdncgmpccedaaDoorShM
import Derived.Test.YtjbdncgmpccedaaDoorByt
namespace Go.Proofs.YtjbdncgmpccedaaDoor
namespace Crc

def nb (S B : Nat) : Nat := (S + B - 1) / B
def cb (S B t : Nat) : Nat := if t = S then nb S B else t / B
def wl (S B t : Nat) : Nat := 24 + t + 4 * cb S B t
def rm (S B t : Nat) : Nat := if t = S then B else B - t % B
def sm (S B t : Nat) (f : Nat → Nat) : Nat := if t = S then 0 else sum (t % B) (fun j => f (t / B * B + j))

theorem nb_last {S B q : Nat} (h1 : q * B < S) (h2 : S ≤ q * B + B) : nb S B = q + 1 := by
  unfold nb
  have hB : 0 < B := by omega
  have e : S + B - 1 = (S - 1 - q * B) + (q + 1) * B := by rw [Nat.add_mul, Nat.one_mul]; omega
  rw [e, Nat.add_mul_div_right _ _ hB, Nat.div_eq_of_lt (by omega), Nat.zero_add]
theorem sm_lt {S B t : Nat} {f : Nat → Nat} (hf : ∀ i, f i < 256) : sm S B t f < 4294967296 := by
  unfold sm; split
  · omega
  · exact more_lt (by omega) (fun i => hf _)
theorem sum0 (f : Nat → Nat) : sum 0 f = 0 := more_none 0 f
theorem wl_at {S B t : Nat} (h : t < S) : wl S B t = 24 + t / B * (B + 4) + t % B := by
  unfold wl cb
  rw [if_neg (by omega), Nat.mul_add]
  have := Nat.div_add_mod t B
  rw [Nat.mul_comm] at this
  omega
theorem blen_ge {S B t m : Nat} (hB : 0 < B) (h : t < S) (h1 : m ≤ B - t % B) (h2 : t + m ≤ S) : t % B + m ≤ blen S B (t / B) := by
  have := Nat.div_add_mod t B
  rw [Nat.mul_comm] at this
  have hr := Nat.mod_lt t hB
  unfold blen
  omega
theorem step_piece {K M I B S D t m : Nat} {f : Nat → Nat} (hB : 0 < B) (ht : t < S) (h1 : m ≤ B - t % B) (h2 : t + m ≤ S) (i : Nat) (hi : i < m) : file K M I B S D f (wl S B t + i) = f (t + i) := by
  have hb := blen_ge hB ht h1 h2
  have hbB : blen S B (t / B) ≤ B := Nat.min_le_left _ _
  have e := Nat.div_add_mod t B
  rw [Nat.mul_comm] at e
  rw [wl_at ht, Nat.add_assoc, file_at _ _ (by omega), if_pos (by omega), ← Nat.add_assoc, e]
theorem step_sum {K M I B S D t m : Nat} {f : Nat → Nat} (hB : 0 < B) (ht : t < S) (h1 : m ≤ B - t % B) (h2 : t + m ≤ S) (hz : m = B - t % B ∨ t + m = S) (i : Nat) (hi : i < 4) :
    file K M I B S D f (wl S B t + m + i) = by4 (more (sm S B t f) m (fun j => f (t + j))) i := by
  have hb := blen_ge hB ht h1 h2
  have e := Nat.div_add_mod t B
  rw [Nat.mul_comm] at e
  have hr := Nat.mod_lt t hB
  have hbe : blen S B (t / B) = t % B + m := by
    unfold blen at *
    omega
  rw [wl_at ht, Nat.add_assoc, Nat.add_assoc, file_at _ _ (by unfold blen at *; omega), if_neg (by omega), hbe]
  have hs : sm S B t f = sum (t % B) (fun j => f (t / B * B + j)) := by unfold sm; rw [if_neg (by omega)]
  have hm := more_more 0 (t % B) m (fun j => f (t / B * B + j))
  rw [hs]
  unfold sum
  rw [show t % B + (m + i) - (t % B + m) = i by omega, ← hm]
  congr 2
  funext j
  rw [← Nat.add_assoc, e]
theorem div_open {B t m : Nat} (hB : 0 < B) (h1 : m < B - t % B) : (t + m) / B = t / B ∧ (t + m) % B = t % B + m := by
  have e := Nat.div_add_mod t B
  have hr := Nat.mod_lt t hB
  have e2 : t + m = (t % B + m) + t / B * B := by rw [Nat.mul_comm]; omega
  constructor
  · rw [e2, Nat.add_mul_div_right _ _ hB, Nat.div_eq_of_lt (by omega), Nat.zero_add]
  · rw [e2, Nat.add_mul_mod_self_right, Nat.mod_eq_of_lt (by omega)]
theorem div_close {B t m : Nat} (hB : 0 < B) (h1 : m = B - t % B) : (t + m) / B = t / B + 1 ∧ (t + m) % B = 0 := by
  have e := Nat.div_add_mod t B
  have hr := Nat.mod_lt t hB
  have e2 : t + m = (t / B + 1) * B := by rw [Nat.add_mul, Nat.one_mul, Nat.mul_comm (t / B)]; omega
  constructor
  · rw [e2, Nat.mul_div_cancel _ hB]
  · rw [e2, Nat.mul_mod_left]
theorem open_wl {B S t m : Nat} {f : Nat → Nat} (hB : 0 < B) (h1 : m < B - t % B) (h2 : t + m < S) : wl S B (t + m) = wl S B t + m ∧ rm S B (t + m) = rm S B t - m ∧ sm S B (t + m) f = more (sm S B t f) m (fun j => f (t + j)) := by
  obtain ⟨e1, e2⟩ := div_open hB h1
  refine ⟨?_, ?_, ?_⟩
  · unfold wl cb; rw [if_neg (by omega), if_neg (by omega), e1]; omega
  · unfold rm; rw [if_neg (by omega), if_neg (by omega), e2]; omega
  · unfold sm
    rw [if_neg (by omega), if_neg (by omega), e1, e2]
    have hm := more_more 0 (t % B) m (fun j => f (t / B * B + j))
    have e := Nat.div_add_mod t B
    rw [Nat.mul_comm] at e
    unfold sum
    rw [← hm]
    congr 1
    funext j
    rw [← Nat.add_assoc, e]
theorem close_wl {B S t m : Nat} {f : Nat → Nat} (hB : 0 < B) (ht : t < S) (h1 : m ≤ B - t % B) (h2 : t + m ≤ S) (hz : m = B - t % B ∨ t + m = S) : wl S B (t + m) = wl S B t + m + 4 ∧ rm S B (t + m) = B ∧ sm S B (t + m) f = 0 := by
  have e := Nat.div_add_mod t B
  rw [Nat.mul_comm] at e
  have hr := Nat.mod_lt t hB
  by_cases hS : t + m = S
  · have hn := nb_last (S := S) (B := B) (q := t / B) (by omega) (by omega)
    refine ⟨?_, ?_, ?_⟩
    · unfold wl cb; rw [if_pos hS, if_neg (by omega), hn]; omega
    · unfold rm; rw [if_pos hS]
    · unfold sm; rw [if_pos hS]
  · have hz' : m = B - t % B := by omega
    obtain ⟨e1, e2⟩ := div_close hB hz'
    refine ⟨?_, ?_, ?_⟩
    · unfold wl cb; rw [if_neg hS, if_neg (by omega), e1]; omega
    · unfold rm; rw [if_neg hS, e2]; omega
    · unfold sm; rw [if_neg hS, e2]; exact sum0 _
theorem open_cat {K M I B S D t m : Nat} {f : Nat → Nat} (hB : 0 < B) (ht : t < S) (h1 : m ≤ B - t % B) (h2 : t + m ≤ S) (i : Nat) (hi : i < wl S B t + m) : cat (wl S B t) (file K M I B S D f) (fun j => f (t + j)) i = file K M I B S D f i := by
  unfold cat
  split
  · rfl
  · have := step_piece (K := K) (M := M) (I := I) (D := D) (f := f) hB ht h1 h2 (i - wl S B t) (by omega)
    show f (t + (i - wl S B t)) = _
    rw [← this]; congr 1; omega
theorem close_cat {K M I B S D t m : Nat} {f : Nat → Nat} (hB : 0 < B) (ht : t < S) (h1 : m ≤ B - t % B) (h2 : t + m ≤ S) (hz : m = B - t % B ∨ t + m = S) (i : Nat) (hi : i < wl S B t + m + 4) :
    cat (wl S B t + m) (cat (wl S B t) (file K M I B S D f) (fun j => f (t + j))) (by4 (more (sm S B t f) m (fun j => f (t + j)))) i = file K M I B S D f i := by
  by_cases h : i < wl S B t + m
  · unfold cat; rw [if_pos h]; exact open_cat hB ht h1 h2 i h
  · unfold cat; rw [if_neg h, ← step_sum (K := K) (M := M) (I := I) (D := D) hB ht h1 h2 hz (i - (wl S B t + m)) (by omega)]
    congr 1; omega
theorem wl_le {B S t : Nat} (hB : 16 ≤ B) (hS : t ≤ S) : wl S B t ≤ 40 + 2 * S := by
  have h1 : nb S B ≤ S / 16 + 1 := by
    unfold nb
    calc (S + B - 1) / B ≤ (S + (B - 1)) / B := Nat.div_le_div_right (by omega)
      _ ≤ S / B + 1 := by
        have := Nat.div_add_mod S B
        have hr := Nat.mod_lt S (show 0 < B by omega)
        rw [Nat.div_le_iff_le_mul_add_pred (by omega), Nat.mul_add]
        omega
      _ ≤ S / 16 + 1 := by have := Nat.div_le_div_left (a := S) hB (show 0 < 16 by omega); omega
  have h2 : t / B ≤ S / 16 + 1 := by
    have a := Nat.div_le_div_left (a := t) hB (show 0 < 16 by omega)
    have b : t / 16 ≤ S / 16 := Nat.div_le_div_right hS
    omega
  unfold wl cb
  split <;> omega
end Crc
end Go.Proofs.YtjbdncgmpccedaaDoor
