/-
  DERIVED. GIVEN WITH THE SEED: THE CARDS: each row of YtigjhdcinaefbaaDoorRows.lean that lists a variable, with what it lists TIED to the program's text (the seventh form; the later family's looks); each row that meets fmt, with fmt's text TOLD by the authors' own Lean function (tested against real Go, not proved from fmt's source: count such statements apart). THE CARD IS WHAT COUNTS. Prove the row's statement (the work); the ties are given (YtigjhdcinaefbaaDoorTie.lean); close each card by the builder's one call (the guide's Derived/Test/ToyasCard.lean, 'card_holds'). Laid BY PROGRAM, IN A SANDBOX (cutbox-door.mjs). By AI agents, Wed Nov 11 2026. No macro, syntax, notation, axiom, sorry.
-/
import Derived.Test.YtigjhdcinaefbaaDoorRows
import GoSem.ClaimSeven
namespace Go.Proofs.YtigjhdcinaefbaaDoor
namespace Rows

/-- THE TIED CARD OF 'strongboxlaw7.JournalWrites'. -/
def journalWritesCard : Claim7 := { stood := { row := journalWritesRow, standIns := [], harness := (true, "b01ff8a6c8b92320785ce916cd8b28e8ad0e0f9566158e0aa5de0e22eeab96d7"), looks := false }, kinds := [], alts := [], laidByText := true, laidKinds := [.data], laidTests := true, laidLooks := .later }
def JournalWritesCardSaid : Prop := Claim7.holds Tryd.pinned (.plain (OpenSpec.ofChange journalWritesSpec)) journalWritesCard

/-- THE TIED CARD OF 'strongboxlaw7.JournalReads'. -/
def journalReadsCard : Claim7 := { stood := { row := journalReadsRow, standIns := [], harness := (true, "b01ff8a6c8b92320785ce916cd8b28e8ad0e0f9566158e0aa5de0e22eeab96d7"), looks := false }, kinds := [], alts := [], laidByText := true, laidKinds := [.data], laidTests := true, laidLooks := .later }
def JournalReadsCardSaid : Prop := Claim7.holds Tryd.pinned (.plain (OpenSpec.ofChange journalReadsSpec)) journalReadsCard

/-- THE TIED CARD OF 'strongboxlaw7.JournalBack'. -/
def journalBackCard : Claim7 := { stood := { row := journalBackRow, standIns := [], harness := (true, "b01ff8a6c8b92320785ce916cd8b28e8ad0e0f9566158e0aa5de0e22eeab96d7"), looks := false }, kinds := [], alts := [], laidByText := true, laidKinds := [.data], laidTests := true, laidLooks := .later }
def JournalBackCardSaid : Prop := Claim7.holds Tryd.pinned (.plain (OpenSpec.ofChange journalBackSpec)) journalBackCard

/-- THE TIED CARD OF 'strongboxlaw7.JournalChanges'. -/
def journalChangesCard : Claim7 := { stood := { row := journalChangesRow, standIns := [], harness := (true, "b01ff8a6c8b92320785ce916cd8b28e8ad0e0f9566158e0aa5de0e22eeab96d7"), looks := false }, kinds := [], alts := [], laidByText := true, laidKinds := [.data], laidTests := true, laidLooks := .later }
def JournalChangesCardSaid : Prop := Claim7.holds Tryd.pinned (.plain (OpenSpec.ofChange journalChangesSpec)) journalChangesCard

/-- THE TIED CARD OF 'strongboxlaw7.JournalBursts'. -/
def journalBurstsCard : Claim7 := { stood := { row := journalBurstsRow, standIns := [], harness := (true, "b01ff8a6c8b92320785ce916cd8b28e8ad0e0f9566158e0aa5de0e22eeab96d7"), looks := false }, kinds := [], alts := [], laidByText := true, laidKinds := [.data], laidTests := true, laidLooks := .later }
def JournalBurstsCardSaid : Prop := Claim7.holds Tryd.pinned (.plain (OpenSpec.ofChange journalBurstsSpec)) journalBurstsCard

/-- THE TIED CARD OF 'strongboxlaw7.JournalAdds'. -/
def journalAddsCard : Claim7 := { stood := { row := journalAddsRow, standIns := [], harness := (true, "b01ff8a6c8b92320785ce916cd8b28e8ad0e0f9566158e0aa5de0e22eeab96d7"), looks := false }, kinds := [], alts := [], laidByText := true, laidKinds := [.data], laidTests := true, laidLooks := .later }
def JournalAddsCardSaid : Prop := Claim7.holds Tryd.pinned (.plain (OpenSpec.ofChange journalAddsSpec)) journalAddsCard

/-- THE SECOND FORM's CARD OF 'strongboxlaw7.JournalWrites'. -/
def journalWritesUptoCard : Claim7 := { stood := { row := journalWritesUptoRow, standIns := [], harness := (true, "b01ff8a6c8b92320785ce916cd8b28e8ad0e0f9566158e0aa5de0e22eeab96d7"), looks := false }, kinds := [], alts := [], laidByText := true, laidKinds := [.data], laidTests := true, laidLooks := .later }
def JournalWritesUptoCardSaid : Prop := Claim7.holds Tryd.pinned (.plain (OpenSpec.upto journalWritesSpec)) journalWritesUptoCard

/-- THE SECOND FORM's CARD OF 'strongboxlaw7.JournalReads'. -/
def journalReadsUptoCard : Claim7 := { stood := { row := journalReadsUptoRow, standIns := [], harness := (true, "b01ff8a6c8b92320785ce916cd8b28e8ad0e0f9566158e0aa5de0e22eeab96d7"), looks := false }, kinds := [], alts := [], laidByText := true, laidKinds := [.data], laidTests := true, laidLooks := .later }
def JournalReadsUptoCardSaid : Prop := Claim7.holds Tryd.pinned (.plain (OpenSpec.upto journalReadsSpec)) journalReadsUptoCard

/-- THE SECOND FORM's CARD OF 'strongboxlaw7.JournalBack'. -/
def journalBackUptoCard : Claim7 := { stood := { row := journalBackUptoRow, standIns := [], harness := (true, "b01ff8a6c8b92320785ce916cd8b28e8ad0e0f9566158e0aa5de0e22eeab96d7"), looks := false }, kinds := [], alts := [], laidByText := true, laidKinds := [.data], laidTests := true, laidLooks := .later }
def JournalBackUptoCardSaid : Prop := Claim7.holds Tryd.pinned (.plain (OpenSpec.upto journalBackSpec)) journalBackUptoCard

/-- THE SECOND FORM's CARD OF 'strongboxlaw7.JournalChanges'. -/
def journalChangesUptoCard : Claim7 := { stood := { row := journalChangesUptoRow, standIns := [], harness := (true, "b01ff8a6c8b92320785ce916cd8b28e8ad0e0f9566158e0aa5de0e22eeab96d7"), looks := false }, kinds := [], alts := [], laidByText := true, laidKinds := [.data], laidTests := true, laidLooks := .later }
def JournalChangesUptoCardSaid : Prop := Claim7.holds Tryd.pinned (.plain (OpenSpec.upto journalChangesSpec)) journalChangesUptoCard

/-- THE SECOND FORM's CARD OF 'strongboxlaw7.JournalBursts'. -/
def journalBurstsUptoCard : Claim7 := { stood := { row := journalBurstsUptoRow, standIns := [], harness := (true, "b01ff8a6c8b92320785ce916cd8b28e8ad0e0f9566158e0aa5de0e22eeab96d7"), looks := false }, kinds := [], alts := [], laidByText := true, laidKinds := [.data], laidTests := true, laidLooks := .later }
def JournalBurstsUptoCardSaid : Prop := Claim7.holds Tryd.pinned (.plain (OpenSpec.upto journalBurstsSpec)) journalBurstsUptoCard

/-- THE SECOND FORM's CARD OF 'strongboxlaw7.JournalAdds'. -/
def journalAddsUptoCard : Claim7 := { stood := { row := journalAddsUptoRow, standIns := [], harness := (true, "b01ff8a6c8b92320785ce916cd8b28e8ad0e0f9566158e0aa5de0e22eeab96d7"), looks := false }, kinds := [], alts := [], laidByText := true, laidKinds := [.data], laidTests := true, laidLooks := .later }
def JournalAddsUptoCardSaid : Prop := Claim7.holds Tryd.pinned (.plain (OpenSpec.upto journalAddsSpec)) journalAddsUptoCard
end Rows
end Go.Proofs.YtigjhdcinaefbaaDoor
