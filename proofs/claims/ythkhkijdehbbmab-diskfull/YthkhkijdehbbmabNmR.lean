/-
  What the document's Less, digit, Prefix of layer 6 answer.
-/
import Derived.Test.YthkhkijdehbbmabNmK
import Derived.Test.YthkhkijdehbbmabRows
import Derived.WalkKit
import Derived.WalkSpells
import Derived.WalkLawsBesides
import Derived.ProofKit
import Derived.Below
import Derived.Deep.QuietTactic
import Derived.BigQuiet
import Derived.Deep.DrawnRows
namespace Go.Proofs.Ythkhkijdehbbmab
open Go.RowKit Nm
attribute [local go_sem ↓] Go.wp_at_zero Go.wp_at_succ
set_option linter.unusedVariables false

/-- A text's bytes. -/
def tx (s : ByteArray) : List UInt8 := s.data.toList
theorem tx_length (s : ByteArray) : (tx s).length = s.size := Array.length_toList
theorem tx_drop (s : ByteArray) (k : Nat) (h : k < s.size) : (tx s).drop k = s[k] :: (tx s).drop (k + 1) := by
  unfold tx
  rw [List.drop_eq_getElem_cons (by simpa using h)]
  rfl
theorem ret_b {a b : Bool} (h : a = b) : Ending.returned (.bool a) = .returned (.bool b) := by rw [h]

theorem tx_inj {a b : ByteArray} (h : tx a = tx b) : a = b := ByteArray.ext (Array.toList_inj.1 h)
theorem tx_beq (a b : ByteArray) : (a.toList == b.toList) = decide (tx a = tx b) := by
  rw [ByteArray.toList_eq, ByteArray.toList_eq]
  by_cases h : tx a = tx b
  · rw [decide_eq_true h]; unfold tx at h; rw [h]; simp
  · rw [decide_eq_false h]; unfold tx at h; simpa using h
theorem tx_extract (s : ByteArray) (k : Nat) (h : k ≤ s.size) : tx (s.extract 0 k) = (tx s).take k := by
  unfold tx
  simp [ByteArray.data_extract]

end Go.Proofs.Ythkhkijdehbbmab
