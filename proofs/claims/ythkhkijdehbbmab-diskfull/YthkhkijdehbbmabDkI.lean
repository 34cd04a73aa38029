/-
  A new disk of the document; its fuse is set.
-/
import Derived.Test.YthkhkijdehbbmabDkE
set_option maxRecDepth 100000
namespace Go.Proofs.Ythkhkijdehbbmab
open Go.RowKit Dk Nm
attribute [local go_sem ↓] Go.wp_at_zero Go.wp_at_succ
set_option linter.unusedVariables false

def newSt (m : Int) : St := ⟨[], if m < 0 ∨ 4194304 < m then 0 else m, false, 0⟩
end Go.Proofs.Ythkhkijdehbbmab
