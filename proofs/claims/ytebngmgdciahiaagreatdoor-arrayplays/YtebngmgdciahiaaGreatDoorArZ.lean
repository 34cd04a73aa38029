/-
  A fuse that has counted at most j operations.
-/
import Derived.Test.YtebngmgdciahiaaGreatDoorArK
set_option maxRecDepth 100000
namespace Go.Proofs.YtebngmgdciahiaaGreatDoor
open Go.RowKit
open _root_.Go.Proofs.YtebngmgdciahiaaGreatDoor.Nm _root_.Go.Proofs.YtebngmgdciahiaaGreatDoor.Dk
set_option linter.unusedVariables false

/-- A fuse that has counted at most j. -/
def ZN (j : Nat) (z : Option Fz) : Prop := ∃ y, z = some y ∧ 0 ≤ y.done ∧ y.done ≤ (j : Int)
theorem ZN.tick {j : Nat} {z : Option Fz} (h : ZN j z) : ZN (j + 1) (tickO z) := by
  obtain ⟨y, rfl, h0, h1⟩ := h
  unfold tickO
  dsimp only
  split
  · exact ⟨y, rfl, h0, by omega⟩
  · refine ⟨Dk.tick y, rfl, ?_, ?_⟩
    · show 0 ≤ y.done + 1
      omega
    · show y.done + 1 ≤ _
      omega
theorem ZN.same {j : Nat} {z : Option Fz} (h : ZN j z) : ZN (j + 1) z := by
  obtain ⟨y, rfl, h0, h1⟩ := h
  exact ⟨y, rfl, h0, by omega⟩
end Go.Proofs.YtebngmgdciahiaaGreatDoor
