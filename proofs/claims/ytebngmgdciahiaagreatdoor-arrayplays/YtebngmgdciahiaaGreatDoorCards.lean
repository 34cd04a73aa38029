/-
  DERIVED. GIVEN WITH THE SEED: THE CARDS: each row of YtebngmgdciahiaaGreatDoorRows.lean that lists a variable, with what it lists TIED to the program's text (the seventh form; the later family's looks); each row that meets fmt, with fmt's text TOLD by the authors' own Lean function (tested against real Go, not proved from fmt's source: count such statements apart). THE CARD IS WHAT COUNTS. Prove the row's statement (the work); the ties are given (YtebngmgdciahiaaGreatDoorTie.lean); close each card by the builder's one call (the guide's Derived/Test/ToyasCard.lean, 'card_holds'). Laid BY PROGRAM, IN A SANDBOX (cutbox-door.mjs). By AI agents, Wed Nov 11 2026. No macro, syntax, notation, axiom, sorry.
-/
import Derived.Test.YtebngmgdciahiaaGreatDoorRows
import GoSem.ClaimSeven
namespace Go.Proofs.YtebngmgdciahiaaGreatDoor
namespace Rows

/-- THE TIED CARD OF 'strongboxlaw12.ArrayPlays'. -/
def arrayPlaysCard : Claim7 := { stood := { row := arrayPlaysRow, standIns := [], harness := (true, "068aef5827ed462c86abaa8d604d6062cbf9f85ef455549f908696079f450565"), looks := false }, kinds := [], alts := [], laidByText := true, laidKinds := [.data], laidTests := true, laidLooks := .later }
def ArrayPlaysCardSaid : Prop := Claim7.holds Tryz.pinned (.plain (OpenSpec.ofChange arrayPlaysSpec)) arrayPlaysCard

/-- THE TIED CARD OF 'strongboxlaw12.ArraySaves'. -/
def arraySavesCard : Claim7 := { stood := { row := arraySavesRow, standIns := [], harness := (true, "068aef5827ed462c86abaa8d604d6062cbf9f85ef455549f908696079f450565"), looks := false }, kinds := [], alts := [], laidByText := true, laidKinds := [.data], laidTests := true, laidLooks := .later }
def ArraySavesCardSaid : Prop := Claim7.holds Tryz.pinned (.plain (OpenSpec.ofChange arraySavesSpec)) arraySavesCard

/-- THE SECOND FORM's CARD OF 'strongboxlaw12.ArrayPlays'. -/
def arrayPlaysUptoCard : Claim7 := { stood := { row := arrayPlaysUptoRow, standIns := [], harness := (true, "068aef5827ed462c86abaa8d604d6062cbf9f85ef455549f908696079f450565"), looks := false }, kinds := [], alts := [], laidByText := true, laidKinds := [.data], laidTests := true, laidLooks := .later }
def ArrayPlaysUptoCardSaid : Prop := Claim7.holds Tryz.pinned (.plain (OpenSpec.upto arrayPlaysSpec)) arrayPlaysUptoCard

/-- THE SECOND FORM's CARD OF 'strongboxlaw12.ArraySaves'. -/
def arraySavesUptoCard : Claim7 := { stood := { row := arraySavesUptoRow, standIns := [], harness := (true, "068aef5827ed462c86abaa8d604d6062cbf9f85ef455549f908696079f450565"), looks := false }, kinds := [], alts := [], laidByText := true, laidKinds := [.data], laidTests := true, laidLooks := .later }
def ArraySavesUptoCardSaid : Prop := Claim7.holds Tryz.pinned (.plain (OpenSpec.upto arraySavesSpec)) arraySavesUptoCard
end Rows
end Go.Proofs.YtebngmgdciahiaaGreatDoor
