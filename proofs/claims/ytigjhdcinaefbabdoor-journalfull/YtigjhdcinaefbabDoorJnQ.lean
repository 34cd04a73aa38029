/-
  What journal.Find, Latest and the document's answer.
-/
import Derived.Test.YtigjhdcinaefbabDoorJnP
namespace Go.Proofs.YtigjhdcinaefbabDoor
open Go.RowKit Crc
attribute [local go_sem ↓] Go.wp_at_zero Go.wp_at_succ
set_option linter.unusedVariables false

/-- What Find answers. -/
def FindEnd (F : Nat → Ver) (id : Int) (n : Nat) (w : World) (e : Ending) (w' : World) : Prop :=
  ((∃ k, Pl F id n k ∧ e = .returned (.tuple #[vv (F k), .bool true])) ∨ (No F id n ∧ e = .returned (.tuple #[vv zeroV, .bool false]))) ∧ Below w.heap.size w w'
/-- What Latest answers. -/
def LateEnd (F : Nat → Ver) (n : Nat) (w : World) (e : Ending) (w' : World) : Prop :=
  ((n ≠ 0 ∧ e = .returned (.tuple #[vv (F (n - 1)), .bool true])) ∨ (n = 0 ∧ e = .returned (.tuple #[vv zeroV, .bool false]))) ∧ Below w.heap.size w w'
theorem VerB.keep {w w' : World} {p : Nat} {v : Ver} (h : VerB w p v) (hb : Below w.heap.size w w') : VerB w' p v := (hb.block p (Array.getElem?_eq_some_iff.1 h).1).trans h
theorem VerB.soft {w : World} {p : Nat} {v : Ver} (h : VerB w p v) (j : Nat) : w.frozen? ⟨p, j, none⟩ = false := frozen_of_row w p j _ _ h
theorem below4 {w W : World} {p : Nat} (h : Below w.heap.size w W) (hp : w.heap.size ≤ p) (v0 v1 v2 v3 : Value) : Below w.heap.size w ((((W.setCell ⟨p, 0, none⟩ v0).setCell ⟨p, 1, none⟩ v1).setCell ⟨p, 2, none⟩ v2).setCell ⟨p, 3, none⟩ v3) :=
  (((h.setCell (p := ⟨_, 0, none⟩) hp _).setCell (p := ⟨_, 1, none⟩) hp _).setCell (p := ⟨_, 2, none⟩) hp _).setCell (p := ⟨_, 3, none⟩) hp _

end Go.Proofs.YtigjhdcinaefbabDoor
