/-
  Plain mathematics of reading a shard file: which blocks fit, where they end, the data.
-/
import Derived.Test.YtjbdncgmpccedaaDoorShC
namespace Go.Proofs.YtjbdncgmpccedaaDoor
namespace Crc

/-- Block k and the sum behind it fit. -/
def Fit (G : Nat → Nat) (B S k : Nat) : Prop := le4 (fun i => G (plen S B k + blen S B k + i)) = sum (blen S B k) (fun i => G (plen S B k + i))
/-- The data of a file. -/
def dat (G : Nat → Nat) (B : Nat) : Nat → Nat := fun j => G (24 + j / B * (B + 4) + j % B)

theorem le4_cong {g h : Nat → Nat} (e : ∀ i, i < 4 → g i = h i) : le4 g = le4 h := by
  unfold le4; rw [e 0 (by omega), e 1 (by omega), e 2 (by omega), e 3 (by omega)]
theorem lt_nb {S B k : Nat} (hB : 0 < B) (h : k * B < S) : k < nb S B := by
  unfold nb
  rw [Nat.lt_iff_add_one_le, Nat.le_div_iff_mul_le hB, Nat.add_mul, Nat.one_mul]
  omega
theorem nb_le {S B k : Nat} (hB : 0 < B) (h : S ≤ k * B) : nb S B ≤ k := by
  unfold nb
  rw [Nat.div_le_iff_le_mul_add_pred hB, Nat.mul_comm]
  omega
theorem nb_up {S B k : Nat} (hB : 0 < B) (h : k < nb S B) : k * B < S := Classical.byContradiction fun q => by
  have := nb_le (S := S) (k := k) hB (by omega)
  omega
theorem wl_end {S B : Nat} : wl S B S = plen S B (nb S B) ∨ B = 0 := by
  by_cases hB : B = 0
  · exact .inr hB
  · left
    have h : S ≤ nb S B * B := Nat.le_of_not_lt fun q => by
      have := lt_nb (S := S) (B := B) (k := nb S B) (by omega) q
      omega
    unfold wl cb plen
    rw [if_pos rfl, Nat.min_eq_right h]
theorem plen_mono {S B i j : Nat} (h : i ≤ j) : plen S B i ≤ plen S B j := by
  have := Nat.mul_le_mul_right B h
  unfold plen
  omega
theorem dat_block {G : Nat → Nat} {B S k : Nat} (hB : 0 < B) (h : k * B < S) (F : Nat → Nat) (hF : ∀ j, j < k * B → F j = dat G B j) (j : Nat) (hj : j < k * B + blen S B k) :
    cat (k * B) F (fun i => G (plen S B k + i)) j = dat G B j := by
  unfold cat
  split
  · next hl => exact hF j hl
  · next hl =>
    have hb : blen S B k ≤ B := Nat.min_le_left _ _
    obtain ⟨r, rfl⟩ : ∃ r, j = r + k * B := ⟨j - k * B, by omega⟩
    have hr : r < B := by omega
    unfold dat
    rw [Nat.add_mul_div_right _ _ hB, Nat.div_eq_of_lt hr, Nat.zero_add, Nat.add_mul_mod_self_right, Nat.mod_eq_of_lt hr, plen_full (by omega), Nat.add_sub_cancel]
theorem blen_pos {B S k : Nat} (hB : 0 < B) (h : k * B < S) : 0 < blen S B k := by unfold blen; omega
theorem next_done {B S k : Nat} (h : k * B < S) : min ((k + 1) * B) S = k * B + blen S B k := by unfold blen; rw [Nat.add_mul, Nat.one_mul]; omega
theorem next_left {B S k : Nat} (h : k * B < S) : S - (k + 1) * B = S - k * B - blen S B k := by unfold blen; rw [Nat.add_mul, Nat.one_mul]; omega
/-- The file that was written fits. -/
theorem file_fit {K M I B S D : Nat} {f : Nat → Nat} (hB : 0 < B) (hf : ∀ i, f i < 256) {k : Nat} (h : k < nb S B) : Fit (file K M I B S D f) B S k := by
  have hk := nb_up hB h
  unfold Fit
  have e1 : le4 (fun i => file K M I B S D f (plen S B k + blen S B k + i)) = sum (blen S B k) (fun i => f (k * B + i)) := by
    have : le4 (fun i => file K M I B S D f (plen S B k + blen S B k + i)) = le4 (by4 (sum (blen S B k) (fun i => f (k * B + i)))) := by
      exact le4_cong fun i hi => file_sum (by omega) hi
    rw [this, le4_by4 (s := sum (blen S B k) (fun i => f (k * B + i))) (more_lt (by omega) (fun i => hf _))]
  rw [e1]
  exact more_congr fun i hi => (file_data (by omega) hi).symm
/-- Reading ends badly: ahead of a block's end, at a sum, behind all. -/
def Bad (n : Nat) (G : Nat → Nat) (B S : Nat) (code : Int) : Prop :=
  (code = 2 ∧ ∃ k, k < nb S B ∧ n < plen S B (k + 1)) ∨ (code = 5 ∧ ∃ k, k < nb S B ∧ plen S B (k + 1) ≤ n ∧ ¬ Fit G B S k) ∨ (code = 4 ∧ plen S B (nb S B) < n)
end Crc
end Go.Proofs.YtjbdncgmpccedaaDoor
