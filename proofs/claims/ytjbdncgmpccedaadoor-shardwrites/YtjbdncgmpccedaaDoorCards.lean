/-
  DERIVED. GIVEN WITH THE SEED: THE CARDS: each row of YtjbdncgmpccedaaDoorRows.lean that lists a variable, with what it lists TIED to the program's text (the seventh form; the later family's looks); each row that meets fmt, with fmt's text TOLD by the authors' own Lean function (tested against real Go, not proved from fmt's source: count such statements apart). THE CARD IS WHAT COUNTS. Prove the row's statement (the work); the ties are given (YtjbdncgmpccedaaDoorTie.lean); close each card by the builder's one call (the guide's Derived/Test/ToyasCard.lean, 'card_holds'). Laid BY PROGRAM, IN A SANDBOX (cutbox-door.mjs). By AI agents, Wed Nov 11 2026. No macro, syntax, notation, axiom, sorry.
-/
import Derived.Test.YtjbdncgmpccedaaDoorRows
import GoSem.ClaimSeven
namespace Go.Proofs.YtjbdncgmpccedaaDoor
namespace Rows

/-- THE TIED CARD OF 'strongboxlaw5.ShardWrites'. -/
def shardWritesCard : Claim7 := { stood := { row := shardWritesRow, standIns := [], harness := (true, "9b2e8d71bbdfd75aae88c0846095cf4bcf21937ec3a365648ee7d2fc33c80607"), looks := false }, kinds := [], alts := [], laidByText := true, laidKinds := [.data], laidTests := true, laidLooks := .later }
def ShardWritesCardSaid : Prop := Claim7.holds Tryd.pinned (.plain (OpenSpec.ofChange shardWritesSpec)) shardWritesCard

/-- THE TIED CARD OF 'strongboxlaw5.ShardBursts'. -/
def shardBurstsCard : Claim7 := { stood := { row := shardBurstsRow, standIns := [], harness := (true, "9b2e8d71bbdfd75aae88c0846095cf4bcf21937ec3a365648ee7d2fc33c80607"), looks := false }, kinds := [], alts := [], laidByText := true, laidKinds := [.data], laidTests := true, laidLooks := .later }
def ShardBurstsCardSaid : Prop := Claim7.holds Tryd.pinned (.plain (OpenSpec.ofChange shardBurstsSpec)) shardBurstsCard

/-- THE TIED CARD OF 'strongboxlaw5.ShardCuts'. -/
def shardCutsCard : Claim7 := { stood := { row := shardCutsRow, standIns := [], harness := (true, "9b2e8d71bbdfd75aae88c0846095cf4bcf21937ec3a365648ee7d2fc33c80607"), looks := false }, kinds := [], alts := [], laidByText := true, laidKinds := [.data], laidTests := true, laidLooks := .later }
def ShardCutsCardSaid : Prop := Claim7.holds Tryd.pinned (.plain (OpenSpec.ofChange shardCutsSpec)) shardCutsCard

/-- THE TIED CARD OF 'strongboxlaw5.ShardBlocks'. -/
def shardBlocksCard : Claim7 := { stood := { row := shardBlocksRow, standIns := [], harness := (true, "9b2e8d71bbdfd75aae88c0846095cf4bcf21937ec3a365648ee7d2fc33c80607"), looks := false }, kinds := [], alts := [], laidByText := true, laidKinds := [.data], laidTests := true, laidLooks := .later }
def ShardBlocksCardSaid : Prop := Claim7.holds Tryd.pinned (.plain (OpenSpec.ofChange shardBlocksSpec)) shardBlocksCard

/-- THE SECOND FORM's CARD OF 'strongboxlaw5.ShardWrites'. -/
def shardWritesUptoCard : Claim7 := { stood := { row := shardWritesUptoRow, standIns := [], harness := (true, "9b2e8d71bbdfd75aae88c0846095cf4bcf21937ec3a365648ee7d2fc33c80607"), looks := false }, kinds := [], alts := [], laidByText := true, laidKinds := [.data], laidTests := true, laidLooks := .later }
def ShardWritesUptoCardSaid : Prop := Claim7.holds Tryd.pinned (.plain (OpenSpec.upto shardWritesSpec)) shardWritesUptoCard

/-- THE SECOND FORM's CARD OF 'strongboxlaw5.ShardBursts'. -/
def shardBurstsUptoCard : Claim7 := { stood := { row := shardBurstsUptoRow, standIns := [], harness := (true, "9b2e8d71bbdfd75aae88c0846095cf4bcf21937ec3a365648ee7d2fc33c80607"), looks := false }, kinds := [], alts := [], laidByText := true, laidKinds := [.data], laidTests := true, laidLooks := .later }
def ShardBurstsUptoCardSaid : Prop := Claim7.holds Tryd.pinned (.plain (OpenSpec.upto shardBurstsSpec)) shardBurstsUptoCard

/-- THE SECOND FORM's CARD OF 'strongboxlaw5.ShardCuts'. -/
def shardCutsUptoCard : Claim7 := { stood := { row := shardCutsUptoRow, standIns := [], harness := (true, "9b2e8d71bbdfd75aae88c0846095cf4bcf21937ec3a365648ee7d2fc33c80607"), looks := false }, kinds := [], alts := [], laidByText := true, laidKinds := [.data], laidTests := true, laidLooks := .later }
def ShardCutsUptoCardSaid : Prop := Claim7.holds Tryd.pinned (.plain (OpenSpec.upto shardCutsSpec)) shardCutsUptoCard

/-- THE SECOND FORM's CARD OF 'strongboxlaw5.ShardBlocks'. -/
def shardBlocksUptoCard : Claim7 := { stood := { row := shardBlocksUptoRow, standIns := [], harness := (true, "9b2e8d71bbdfd75aae88c0846095cf4bcf21937ec3a365648ee7d2fc33c80607"), looks := false }, kinds := [], alts := [], laidByText := true, laidKinds := [.data], laidTests := true, laidLooks := .later }
def ShardBlocksUptoCardSaid : Prop := Claim7.holds Tryd.pinned (.plain (OpenSpec.upto shardBlocksSpec)) shardBlocksUptoCard
end Rows
end Go.Proofs.YtjbdncgmpccedaaDoor
