/-
  A file of a disk of the document is marked as synced.
-/
import Derived.Test.YthkhkijdehbbmabDkE
set_option maxRecDepth 100000
namespace Go.Proofs.Ythkhkijdehbbmab
open Go.RowKit Dk Nm
attribute [local go_sem ↓] Go.wp_at_zero Go.wp_at_succ
set_option linter.unusedVariables false

def setSure (l : List Fl) (j : Nat) : List Fl := l.modify j fun f => { f with sure := true }
theorem sure_map {L : List Fv} {j : Nat} (hj : j < L.length) : (L.set j { L[j]! with sure := true }).map fl = setSure (L.map fl) j := by
  unfold setSure
  apply List.ext_getElem?
  intro i
  rw [List.getElem?_map, List.getElem?_set, List.getElem?_modify, List.getElem?_map]
  by_cases e : j = i
  · subst e
    rw [if_pos rfl, if_pos hj, List.getElem?_eq_getElem hj, getElem!_pos L j hj]
    simp [fl]
  · rw [if_neg e]
    cases L[i]? <;> simp [e]
end Go.Proofs.Ythkhkijdehbbmab
