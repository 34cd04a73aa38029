/-
  DERIVED. GIVEN WITH THE SEED: THE CARDS: each row of YtkpnhaaniljbgaaDoorRows.lean that lists a variable, with what it lists TIED to the program's text (the seventh form; the later family's looks); each row that meets fmt, with fmt's text TOLD by the authors' own Lean function (tested against real Go, not proved from fmt's source: count such statements apart). THE CARD IS WHAT COUNTS. Prove the row's statement (the work); the ties are given (YtkpnhaaniljbgaaDoorTie.lean); close each card by the builder's one call (the guide's Derived/Test/ToyasCard.lean, 'card_holds'). Laid BY PROGRAM, IN A SANDBOX (cutbox-door.mjs). By AI agents, Wed Nov 11 2026. No macro, syntax, notation, axiom, sorry.
-/
import Derived.Test.YtkpnhaaniljbgaaDoorRows
import GoSem.ClaimSeven
namespace Go.Proofs.YtkpnhaaniljbgaaDoor
namespace Rows

/-- THE TIED CARD OF 'strongboxlaw4.CrcSums'. -/
def crcSumsCard : Claim7 := { stood := { row := crcSumsRow, standIns := [], harness := (true, "9c843f5f4e7d5bb38c85aad9415cfc489720df02b75967ebda8fa3c2b69d4663"), looks := false }, kinds := [], alts := [], laidByText := true, laidKinds := [.data], laidTests := true, laidLooks := .later }
def CrcSumsCardSaid : Prop := Claim7.holds Tryd.pinned (.plain (OpenSpec.ofChange crcSumsSpec)) crcSumsCard

/-- THE TIED CARD OF 'strongboxlaw4.CrcBursts'. -/
def crcBurstsCard : Claim7 := { stood := { row := crcBurstsRow, standIns := [], harness := (true, "9c843f5f4e7d5bb38c85aad9415cfc489720df02b75967ebda8fa3c2b69d4663"), looks := false }, kinds := [], alts := [], laidByText := true, laidKinds := [.data], laidTests := true, laidLooks := .later }
def CrcBurstsCardSaid : Prop := Claim7.holds Tryd.pinned (.plain (OpenSpec.ofChange crcBurstsSpec)) crcBurstsCard

/-- THE TIED CARD OF 'strongboxlaw4.CrcUnlike'. -/
def crcUnlikeCard : Claim7 := { stood := { row := crcUnlikeRow, standIns := [], harness := (true, "9c843f5f4e7d5bb38c85aad9415cfc489720df02b75967ebda8fa3c2b69d4663"), looks := false }, kinds := [], alts := [], laidByText := true, laidKinds := [.data], laidTests := true, laidLooks := .later }
def CrcUnlikeCardSaid : Prop := Claim7.holds Tryd.pinned (.plain (OpenSpec.ofChange crcUnlikeSpec)) crcUnlikeCard

/-- THE TIED CARD OF 'strongboxlaw4.CrcParts'. -/
def crcPartsCard : Claim7 := { stood := { row := crcPartsRow, standIns := [], harness := (true, "9c843f5f4e7d5bb38c85aad9415cfc489720df02b75967ebda8fa3c2b69d4663"), looks := false }, kinds := [], alts := [], laidByText := true, laidKinds := [.data], laidTests := true, laidLooks := .later }
def CrcPartsCardSaid : Prop := Claim7.holds Tryd.pinned (.plain (OpenSpec.ofChange crcPartsSpec)) crcPartsCard

/-- THE SECOND FORM's CARD OF 'strongboxlaw4.CrcSums'. -/
def crcSumsUptoCard : Claim7 := { stood := { row := crcSumsUptoRow, standIns := [], harness := (true, "9c843f5f4e7d5bb38c85aad9415cfc489720df02b75967ebda8fa3c2b69d4663"), looks := false }, kinds := [], alts := [], laidByText := true, laidKinds := [.data], laidTests := true, laidLooks := .later }
def CrcSumsUptoCardSaid : Prop := Claim7.holds Tryd.pinned (.plain (OpenSpec.upto crcSumsSpec)) crcSumsUptoCard

/-- THE SECOND FORM's CARD OF 'strongboxlaw4.CrcBursts'. -/
def crcBurstsUptoCard : Claim7 := { stood := { row := crcBurstsUptoRow, standIns := [], harness := (true, "9c843f5f4e7d5bb38c85aad9415cfc489720df02b75967ebda8fa3c2b69d4663"), looks := false }, kinds := [], alts := [], laidByText := true, laidKinds := [.data], laidTests := true, laidLooks := .later }
def CrcBurstsUptoCardSaid : Prop := Claim7.holds Tryd.pinned (.plain (OpenSpec.upto crcBurstsSpec)) crcBurstsUptoCard

/-- THE SECOND FORM's CARD OF 'strongboxlaw4.CrcUnlike'. -/
def crcUnlikeUptoCard : Claim7 := { stood := { row := crcUnlikeUptoRow, standIns := [], harness := (true, "9c843f5f4e7d5bb38c85aad9415cfc489720df02b75967ebda8fa3c2b69d4663"), looks := false }, kinds := [], alts := [], laidByText := true, laidKinds := [.data], laidTests := true, laidLooks := .later }
def CrcUnlikeUptoCardSaid : Prop := Claim7.holds Tryd.pinned (.plain (OpenSpec.upto crcUnlikeSpec)) crcUnlikeUptoCard

/-- THE SECOND FORM's CARD OF 'strongboxlaw4.CrcParts'. -/
def crcPartsUptoCard : Claim7 := { stood := { row := crcPartsUptoRow, standIns := [], harness := (true, "9c843f5f4e7d5bb38c85aad9415cfc489720df02b75967ebda8fa3c2b69d4663"), looks := false }, kinds := [], alts := [], laidByText := true, laidKinds := [.data], laidTests := true, laidLooks := .later }
def CrcPartsUptoCardSaid : Prop := Claim7.holds Tryd.pinned (.plain (OpenSpec.upto crcPartsSpec)) crcPartsUptoCard
end Rows
end Go.Proofs.YtkpnhaaniljbgaaDoor
