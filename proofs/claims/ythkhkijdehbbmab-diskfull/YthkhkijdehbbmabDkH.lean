/-
  Sync of a disk of the document.
-/
import Derived.Test.YthkhkijdehbbmabDkG
set_option maxRecDepth 100000
namespace Go.Proofs.Ythkhkijdehbbmab
open Go.RowKit Dk Nm
attribute [local go_sem ↓] Go.wp_at_zero Go.wp_at_succ
set_option linter.unusedVariables false

/-- What Sync answers, and leaves. -/
def synZ (z : Option Fz) (s : St) (x : ByteArray) : Int × St := if (askZ z s [x]).1 ≠ 0 then ((askZ z s [x]).1, (askZ z s [x]).2.2) else if there x s.fs = true then (0, { (askZ z s [x]).2.2 with fs := setSure s.fs (place x s.fs) }) else (6, (askZ z s [x]).2.2)

end Go.Proofs.Ythkhkijdehbbmab
