/-
  What journal.place, Find, Latest answer.
-/
import Derived.Test.YtigjhdcinaefbabDoorJnS
namespace Go.Proofs.YtigjhdcinaefbabDoor
open Go.RowKit Crc
attribute [local go_sem ↓] Go.wp_at_zero Go.wp_at_succ
set_option linter.unusedVariables false

/-- The version of an id stands at k, the first of that id. -/
structure Pl (F : Nat → Ver) (id : Int) (n k : Nat) : Prop where
  lt : k < n
  eq : (F k).id = id
  ne : ∀ j, j < k → (F j).id ≠ id
/-- There is none. -/
def No (F : Nat → Ver) (id : Int) (n : Nat) : Prop := ∀ j, j < n → (F j).id ≠ id
theorem pl_or (F : Nat → Ver) (id : Int) (n : Nat) : (∃ k, Pl F id n k) ∨ No F id n := by
  induction n with
  | zero => exact .inr fun j hj => absurd hj (by omega)
  | succ n ih =>
    rcases ih with ⟨k, hk⟩ | h
    · exact .inl ⟨k, by have := hk.lt; omega, hk.eq, hk.ne⟩
    · by_cases e : (F n).id = id
      · exact .inl ⟨n, by omega, e, h⟩
      · refine .inr fun j hj => ?_
        by_cases q : j = n
        · subst q; exact e
        · exact h j (by omega)
theorem Pl.one {F : Nat → Ver} {id : Int} {n j k : Nat} (h : Pl F id n j) (h' : Pl F id n k) : j = k := by
  rcases Nat.lt_trichotomy j k with q | q | q
  · exact absurd h.eq (h'.ne j q)
  · exact q
  · exact absurd h'.eq (h.ne k q)
theorem Pl.not {F : Nat → Ver} {id : Int} {n k : Nat} (h : Pl F id n k) (h' : No F id n) : False := h' k h.lt h.eq
/-- What place answers. -/
def PlX (F : Nat → Ver) (id : Int) (n : Nat) (x : Int) : Prop := (∃ k : Nat, x = (k : Int) ∧ Pl F id n k) ∨ (x = -1 ∧ No F id n)

end Go.Proofs.YtigjhdcinaefbabDoor
