/-
  What slices.EqualFunc with bytes.Equal, and rs.Code.Verify do.
-/
import Derived.Test.YtbfhmdphhhjlnabEnc
namespace Go.Proofs.Ytbfhmdphhhjlnab
open Go.RowKit Gf
attribute [local go_sem ↓] Go.wp_at_zero Go.wp_at_succ

theorem str_ne {f g : Nat → Nat} {n j : Nat} (hj : j < n) (hf : f j < 256) (hg : g j < 256) (h : f j ≠ g j) : ((str f n).toList == (str g n).toList) = false := by
  rw [ByteArray.toList_eq, ByteArray.toList_eq, beq_eq_false_iff_ne]
  intro e
  have e1 : (str f n).data.toList[j]? = (str g n).data.toList[j]? := by rw [e]
  unfold str at e1
  rw [strOfNums_data, strOfNums_data] at e1
  simp [hj] at e1
  have e2 := congrArg UInt8.toNat e1
  simp only [UInt8.toNat_ofNat'] at e2
  omega
theorem str_len {f g : Nat → Nat} {n m : Nat} (h : n ≠ m) : ((str f n).toList == (str g m).toList) = false := by
  rw [ByteArray.toList_eq, ByteArray.toList_eq, beq_eq_false_iff_ne]
  intro e
  have e1 : (str f n).data.toList.length = (str g m).data.toList.length := by rw [e]
  simp [str, strOfNums] at e1
  exact h e1

end Go.Proofs.Ytbfhmdphhhjlnab
