/-
  List of a disk of the document.
-/
import Derived.Test.YthkhkijdehbbmabDkE
import Derived.Test.YthkhkijdehbbmabDkS
set_option maxRecDepth 100000
namespace Go.Proofs.Ythkhkijdehbbmab
open Go.RowKit Dk Nm
attribute [local go_sem ↓] Go.wp_at_zero Go.wp_at_succ
set_option linter.unusedVariables false

/-- The paths that begin with x. -/
def lst (x : ByteArray) (l : List Fl) : List ByteArray := (l.filter fun f => pre (tx f.path) (tx x)).map fun f => f.path
theorem lst_take {x : ByteArray} {L : List Fv} {j : Nat} (hj : j < L.length) : lst x ((L.take (j + 1)).map fl) = lst x ((L.take j).map fl) ++ (if pre (tx L[j]!.path) (tx x) = true then [L[j]!.path] else []) := by
  unfold lst
  rw [← List.take_append_getElem hj, List.map_append, List.filter_append, List.map_append, getElem!_pos L j hj]
  congr 1
  show List.map _ (List.filter _ [fl L[j]]) = _
  rw [List.filter_cons]
  show List.map _ (if pre (tx L[j].path) (tx x) = true then _ else _) = _
  split <;> rfl
theorem sown_grown {w W : World} {base p : Nat} {v : Value} {M : List Sv} {cs : Array Value} {ty : TypeId} (o : SOwn w base v M) (g : w.grownBy W v.ownBlock) (ht : ty ≠ 9) (h : w.heap[p]? = some (.cells cs ty (0, 0))) : W.heap[p]? = some (.cells cs ty (0, 0)) :=
  (g.block p (Array.getElem?_eq_some_iff.1 h).1 (fun e => by
    rcases o.2 with ⟨rfl, _⟩ | ⟨q, cap, cur, rfl, _, hg, _⟩
    · simp [Value.ownBlock] at e
    · simp [Value.ownBlock] at e
      subst e
      rw [h] at hg
      injection hg with hg
      injection hg with _ hg _
      exact ht hg)).trans h
/-- What List answers. -/
def lisZ (z : Option Fz) (s : St) (x : ByteArray) : List ByteArray × Int := if (askZ z s []).1 ≠ 0 then ([], (askZ z s []).1) else (lst x s.fs, 0)
end Go.Proofs.Ythkhkijdehbbmab
