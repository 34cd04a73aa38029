/-
  DERIVED. GIVEN WITH THE SEED: THE CARDS: each row of YtebngmgdciahiaaDoorRows.lean that lists a variable, with what it lists TIED to the program's text (the seventh form; the later family's looks); each row that meets fmt, with fmt's text TOLD by the authors' own Lean function (tested against real Go, not proved from fmt's source: count such statements apart). THE CARD IS WHAT COUNTS. Prove the row's statement (the work); the ties are given (YtebngmgdciahiaaDoorTie.lean); close each card by the builder's one call (the guide's Derived/Test/ToyasCard.lean, 'card_holds'). Laid BY PROGRAM, IN A SANDBOX (cutbox-door.mjs). By AI agents, Wed Nov 11 2026. No macro, syntax, notation, axiom, sorry.
-/
import Derived.Test.YtebngmgdciahiaaDoorRows
import GoSem.ClaimSeven
namespace Go.Proofs.YtebngmgdciahiaaDoor
namespace Rows

/-- THE TIED CARD OF 'strongboxlaw12.ArrayKnown'. -/
def arrayKnownCard : Claim7 := { stood := { row := arrayKnownRow, standIns := [], harness := (true, "1030a19dec020d70f9d3e07f477f037649f156ed148aaf108150bb6ba0b72429"), looks := true }, kinds := [], alts := [], laidByText := true, laidKinds := [.data], laidTests := true, laidLooks := .later }
def ArrayKnownCardSaid : Prop := Claim7.holds Tryd.pinned (.plain (OpenSpec.ofChange arrayKnownSpec)) arrayKnownCard

/-- THE TIED CARD OF 'strongboxlaw12.ArrayMeets'. -/
def arrayMeetsCard : Claim7 := { stood := { row := arrayMeetsRow, standIns := [], harness := (true, "1030a19dec020d70f9d3e07f477f037649f156ed148aaf108150bb6ba0b72429"), looks := true }, kinds := [], alts := [], laidByText := true, laidKinds := [.data], laidTests := true, laidLooks := .later }
def ArrayMeetsCardSaid : Prop := Claim7.holds Tryd.pinned (.plain (OpenSpec.ofChange arrayMeetsSpec)) arrayMeetsCard

/-- THE TIED CARD OF 'strongboxlaw12.ArrayFormats'. -/
def arrayFormatsCard : Claim7 := { stood := { row := arrayFormatsRow, standIns := [], harness := (true, "1030a19dec020d70f9d3e07f477f037649f156ed148aaf108150bb6ba0b72429"), looks := true }, kinds := [], alts := [], laidByText := true, laidKinds := [.data], laidTests := true, laidLooks := .later }
def ArrayFormatsCardSaid : Prop := Claim7.holds Tryd.pinned (.plain (OpenSpec.ofChange arrayFormatsSpec)) arrayFormatsCard

/-- THE TIED CARD OF 'strongboxlaw12.ArrayVoices'. -/
def arrayVoicesCard : Claim7 := { stood := { row := arrayVoicesRow, standIns := [], harness := (true, "1030a19dec020d70f9d3e07f477f037649f156ed148aaf108150bb6ba0b72429"), looks := true }, kinds := [], alts := [], laidByText := true, laidKinds := [.data], laidTests := true, laidLooks := .later }
def ArrayVoicesCardSaid : Prop := Claim7.holds Tryd.pinned (.plain (OpenSpec.ofChange arrayVoicesSpec)) arrayVoicesCard

/-- THE SECOND FORM's CARD OF 'strongboxlaw12.ArrayKnown'. -/
def arrayKnownUptoCard : Claim7 := { stood := { row := arrayKnownUptoRow, standIns := [], harness := (true, "1030a19dec020d70f9d3e07f477f037649f156ed148aaf108150bb6ba0b72429"), looks := true }, kinds := [], alts := [], laidByText := true, laidKinds := [.data], laidTests := true, laidLooks := .later }
def ArrayKnownUptoCardSaid : Prop := Claim7.holds Tryd.pinned (.plain (OpenSpec.upto arrayKnownSpec)) arrayKnownUptoCard

/-- THE SECOND FORM's CARD OF 'strongboxlaw12.ArrayMeets'. -/
def arrayMeetsUptoCard : Claim7 := { stood := { row := arrayMeetsUptoRow, standIns := [], harness := (true, "1030a19dec020d70f9d3e07f477f037649f156ed148aaf108150bb6ba0b72429"), looks := true }, kinds := [], alts := [], laidByText := true, laidKinds := [.data], laidTests := true, laidLooks := .later }
def ArrayMeetsUptoCardSaid : Prop := Claim7.holds Tryd.pinned (.plain (OpenSpec.upto arrayMeetsSpec)) arrayMeetsUptoCard

/-- THE SECOND FORM's CARD OF 'strongboxlaw12.ArrayFormats'. -/
def arrayFormatsUptoCard : Claim7 := { stood := { row := arrayFormatsUptoRow, standIns := [], harness := (true, "1030a19dec020d70f9d3e07f477f037649f156ed148aaf108150bb6ba0b72429"), looks := true }, kinds := [], alts := [], laidByText := true, laidKinds := [.data], laidTests := true, laidLooks := .later }
def ArrayFormatsUptoCardSaid : Prop := Claim7.holds Tryd.pinned (.plain (OpenSpec.upto arrayFormatsSpec)) arrayFormatsUptoCard

/-- THE SECOND FORM's CARD OF 'strongboxlaw12.ArrayVoices'. -/
def arrayVoicesUptoCard : Claim7 := { stood := { row := arrayVoicesUptoRow, standIns := [], harness := (true, "1030a19dec020d70f9d3e07f477f037649f156ed148aaf108150bb6ba0b72429"), looks := true }, kinds := [], alts := [], laidByText := true, laidKinds := [.data], laidTests := true, laidLooks := .later }
def ArrayVoicesUptoCardSaid : Prop := Claim7.holds Tryd.pinned (.plain (OpenSpec.upto arrayVoicesSpec)) arrayVoicesUptoCard
end Rows
end Go.Proofs.YtebngmgdciahiaaDoor
