/-
  No cell of these rows narrows 'for every input' (looked for: loops, veiled, ifaces, maps, wideKeys, modest, calm, conditions, laid).
  DERIVED. THE GIVEN ROWS OF THIS SEAT. 6 by the template 'for every input the law returns true; each argument reads behind the call as it read before'; 0 by the template 'total and deterministic' (their statements: YtfhneibncjoolaaTotals.lean).
  GIVEN WITH THE SEED: the statements are not yours to turn. If you find one false, say at which input.
  Laid BY PROGRAM, IN A SANDBOX (cutbox-rows.mjs): the forced cells as the released guide's own fill.sh prints them over the translation 8e956617f92eb23c… (all of the seat's roots in one cut). By AI agents, Wed Nov 11 2026. No macro, syntax, notation, axiom, sorry.
-/
import Derived.Test.YtfhneibncjoolaaChecked
import GoSem.Claim
import GoSem.ClaimJoined
import GoSem.ClaimMapViews
import Derived.JoinedTies
import Derived.KernelRfl
namespace Go.Proofs.Ytfhneibncjoolaa
/- THE CELL 'sum', in the pinned program and in every row, IS THE sha256 OF THE DUMP (.gsa) THAT YtfhneibncjoolaaProg.lean LOADS. Nothing in Lean hashes anything: it is a label: what it is worth is what the hold of that sum in a sandbox is worth. -/
noncomputable def Try.pinned : Pinned := { name := "ytfhneibncjoolaa", sum := "8e956617f92eb23cfbd0c3d687a29d1f6277622c8a369265a6360cde912b6c2c", checked := Try.checked }
namespace Rows
def none {H : Type} : Left H := { results := [], args := [] }

/-- 'strongboxlaw1.GfKnown': WHATEVER THE INPUT: true; the input reads as it did. -/
def gfKnownSpec : ChangeSpec := { name := "gfKnown", fn := fun _ => fun
  | [] => { results := [.lit (.bool true)], args := [] }
  | _ => none }
def gfKnownRow : OpenClaim := { program := "ytfhneibncjoolaa", sum := "8e956617f92eb23cfbd0c3d687a29d1f6277622c8a369265a6360cde912b6c2c", func := "strongbox/strongboxlaw1.GfKnown", spec := "gfKnown", apart := false }
def GfKnownSaid : Prop := gfKnownRow.holds Try.pinned (OpenSpec.ofChange gfKnownSpec)

/-- ITS FALSE NEIGHBOUR: 'it returns false'. Refute it at one input. -/
def gfKnownWrong : ChangeSpec := { name := "gfKnown", fn := fun _ => fun
  | [] => { results := [.lit (.bool false)], args := [] }
  | _ => none }
def GfKnownWrongFalsely : Prop := gfKnownRow.holds Try.pinned (OpenSpec.ofChange gfKnownWrong)

/-- 'strongboxlaw1.GfReckons': WHATEVER THE INPUT: true; the input reads as it did. -/
def gfReckonsSpec : ChangeSpec := { name := "gfReckons", fn := fun _ => fun
  | [d1, d2, d3] => { results := [.lit (.bool true)], args := [d1, d2, d3] }
  | _ => none }
def gfReckonsRow : OpenClaim := { program := "ytfhneibncjoolaa", sum := "8e956617f92eb23cfbd0c3d687a29d1f6277622c8a369265a6360cde912b6c2c", func := "strongbox/strongboxlaw1.GfReckons", spec := "gfReckons", apart := false }
def GfReckonsSaid : Prop := gfReckonsRow.holds Try.pinned (OpenSpec.ofChange gfReckonsSpec)

/-- ITS FALSE NEIGHBOUR: 'it returns false'. Refute it at one input. -/
def gfReckonsWrong : ChangeSpec := { name := "gfReckons", fn := fun _ => fun
  | [d1, d2, d3] => { results := [.lit (.bool false)], args := [d1, d2, d3] }
  | _ => none }
def GfReckonsWrongFalsely : Prop := gfReckonsRow.holds Try.pinned (OpenSpec.ofChange gfReckonsWrong)

/-- 'strongboxlaw1.GfRules': WHATEVER THE INPUT: true; the input reads as it did. -/
def gfRulesSpec : ChangeSpec := { name := "gfRules", fn := fun _ => fun
  | [d1, d2, d3] => { results := [.lit (.bool true)], args := [d1, d2, d3] }
  | _ => none }
def gfRulesRow : OpenClaim := { program := "ytfhneibncjoolaa", sum := "8e956617f92eb23cfbd0c3d687a29d1f6277622c8a369265a6360cde912b6c2c", func := "strongbox/strongboxlaw1.GfRules", spec := "gfRules", apart := false }
def GfRulesSaid : Prop := gfRulesRow.holds Try.pinned (OpenSpec.ofChange gfRulesSpec)

/-- ITS FALSE NEIGHBOUR: 'it returns false'. Refute it at one input. -/
def gfRulesWrong : ChangeSpec := { name := "gfRules", fn := fun _ => fun
  | [d1, d2, d3] => { results := [.lit (.bool false)], args := [d1, d2, d3] }
  | _ => none }
def GfRulesWrongFalsely : Prop := gfRulesRow.holds Try.pinned (OpenSpec.ofChange gfRulesWrong)

/-- 'strongboxlaw1.GfRows': WHATEVER THE INPUT: true; the input reads as it did. -/
def gfRowsSpec : ChangeSpec := { name := "gfRows", fn := fun _ => fun
  | [d1, d2, d3] => { results := [.lit (.bool true)], args := [d1, d2, d3] }
  | _ => none }
def gfRowsRow : OpenClaim := { program := "ytfhneibncjoolaa", sum := "8e956617f92eb23cfbd0c3d687a29d1f6277622c8a369265a6360cde912b6c2c", func := "strongbox/strongboxlaw1.GfRows", spec := "gfRows", apart := false }
def GfRowsSaid : Prop := gfRowsRow.holds Try.pinned (OpenSpec.ofChange gfRowsSpec)

/-- ITS FALSE NEIGHBOUR: 'it returns false'. Refute it at one input. -/
def gfRowsWrong : ChangeSpec := { name := "gfRows", fn := fun _ => fun
  | [d1, d2, d3] => { results := [.lit (.bool false)], args := [d1, d2, d3] }
  | _ => none }
def GfRowsWrongFalsely : Prop := gfRowsRow.holds Try.pinned (OpenSpec.ofChange gfRowsWrong)

/-- 'strongboxlaw1.GfTables': WHATEVER THE INPUT: true; the input reads as it did. -/
def gfTablesSpec : ChangeSpec := { name := "gfTables", fn := fun _ => fun
  | [d] => { results := [.lit (.bool true)], args := [d] }
  | _ => none }
def gfTablesRow : OpenClaim := { program := "ytfhneibncjoolaa", sum := "8e956617f92eb23cfbd0c3d687a29d1f6277622c8a369265a6360cde912b6c2c", func := "strongbox/strongboxlaw1.GfTables", spec := "gfTables", apart := false }
def GfTablesSaid : Prop := gfTablesRow.holds Try.pinned (OpenSpec.ofChange gfTablesSpec)

/-- ITS FALSE NEIGHBOUR: 'it returns false'. Refute it at one input. -/
def gfTablesWrong : ChangeSpec := { name := "gfTables", fn := fun _ => fun
  | [d] => { results := [.lit (.bool false)], args := [d] }
  | _ => none }
def GfTablesWrongFalsely : Prop := gfTablesRow.holds Try.pinned (OpenSpec.ofChange gfTablesWrong)

/-- 'strongboxlaw1.GfLinear': WHATEVER THE INPUT: true; the input reads as it did. -/
def gfLinearSpec : ChangeSpec := { name := "gfLinear", fn := fun _ => fun
  | [d1, d2, d3] => { results := [.lit (.bool true)], args := [d1, d2, d3] }
  | _ => none }
def gfLinearRow : OpenClaim := { program := "ytfhneibncjoolaa", sum := "8e956617f92eb23cfbd0c3d687a29d1f6277622c8a369265a6360cde912b6c2c", func := "strongbox/strongboxlaw1.GfLinear", spec := "gfLinear", apart := false }
def GfLinearSaid : Prop := gfLinearRow.holds Try.pinned (OpenSpec.ofChange gfLinearSpec)

/-- ITS FALSE NEIGHBOUR: 'it returns false'. Refute it at one input. -/
def gfLinearWrong : ChangeSpec := { name := "gfLinear", fn := fun _ => fun
  | [d1, d2, d3] => { results := [.lit (.bool false)], args := [d1, d2, d3] }
  | _ => none }
def GfLinearWrongFalsely : Prop := gfLinearRow.holds Try.pinned (OpenSpec.ofChange gfLinearWrong)

/- THE SECOND FORM. 'bulk': how many values and letters a reading holds, each counted each time it is reached (what is shared counts as often as it is met; a slice's spare places count too). A statement '..UptoSaid' is the law's where the arguments, and the package variables that the reading takes, are together of bulk at most 1048576: NARROWER than '..Said'. Prove '..Said' where nothing that the law and all that it calls make is longer than what came in: it says more and counts as full. Else prove '..UptoSaid'. A law counts once. -/
mutual
def uptoBulk {H : Type} : DataW H → Nat
  | .lit (.string bytes) => bytes.length + 1
  | .lit _ => 1
  | .nil => 1
  | .ptr d => uptoBulk d + 1
  | .slice elems spare => uptoBulkAll elems + uptoBulkAll spare + 1
  | .agg parts => uptoBulkAll parts + 1
  | .iface _ d => uptoBulk d + 1
  | .map entries => uptoBulkEntries entries + 1
  | .held _ => 1
def uptoBulkAll {H : Type} : List (DataW H) → Nat
  | [] => 0
  | d :: r => uptoBulk d + uptoBulkAll r
def uptoBulkEntries {H : Type} : List (Lit × DataW H) → Nat
  | [] => 0
  | x :: r => uptoBulkEntry x + uptoBulkEntries r
def uptoBulkEntry {H : Type} : Lit × DataW H → Nat
  | (.string bytes, d) => bytes.length + uptoBulk d + 1
  | (_, d) => uptoBulk d + 1
 end
def uptoSmall : (H : Type) → List (DataW H) → Bool := fun _ ds => decide (uptoBulkAll ds ≤ 1048576)
def OpenSpec.upto (s : _root_.Go.ChangeSpec) : _root_.Go.OpenSpec := { _root_.Go.OpenSpec.ofChange s with cond := some uptoSmall }

/-- 'strongboxlaw1.GfKnown', WHERE WHAT IT READS IS OF BULK AT MOST 1048576: true; the input reads as it did. -/
def gfKnownUptoRow : OpenClaim := { program := "ytfhneibncjoolaa", sum := "8e956617f92eb23cfbd0c3d687a29d1f6277622c8a369265a6360cde912b6c2c", func := "strongbox/strongboxlaw1.GfKnown", spec := "gfKnown", apart := false, narrowed := true }
def GfKnownUptoSaid : Prop := gfKnownUptoRow.holds Try.pinned (OpenSpec.upto gfKnownSpec)

/-- 'strongboxlaw1.GfReckons', WHERE WHAT IT READS IS OF BULK AT MOST 1048576: true; the input reads as it did. -/
def gfReckonsUptoRow : OpenClaim := { program := "ytfhneibncjoolaa", sum := "8e956617f92eb23cfbd0c3d687a29d1f6277622c8a369265a6360cde912b6c2c", func := "strongbox/strongboxlaw1.GfReckons", spec := "gfReckons", apart := false, narrowed := true }
def GfReckonsUptoSaid : Prop := gfReckonsUptoRow.holds Try.pinned (OpenSpec.upto gfReckonsSpec)

/-- 'strongboxlaw1.GfRules', WHERE WHAT IT READS IS OF BULK AT MOST 1048576: true; the input reads as it did. -/
def gfRulesUptoRow : OpenClaim := { program := "ytfhneibncjoolaa", sum := "8e956617f92eb23cfbd0c3d687a29d1f6277622c8a369265a6360cde912b6c2c", func := "strongbox/strongboxlaw1.GfRules", spec := "gfRules", apart := false, narrowed := true }
def GfRulesUptoSaid : Prop := gfRulesUptoRow.holds Try.pinned (OpenSpec.upto gfRulesSpec)

/-- 'strongboxlaw1.GfRows', WHERE WHAT IT READS IS OF BULK AT MOST 1048576: true; the input reads as it did. -/
def gfRowsUptoRow : OpenClaim := { program := "ytfhneibncjoolaa", sum := "8e956617f92eb23cfbd0c3d687a29d1f6277622c8a369265a6360cde912b6c2c", func := "strongbox/strongboxlaw1.GfRows", spec := "gfRows", apart := false, narrowed := true }
def GfRowsUptoSaid : Prop := gfRowsUptoRow.holds Try.pinned (OpenSpec.upto gfRowsSpec)

/-- 'strongboxlaw1.GfTables', WHERE WHAT IT READS IS OF BULK AT MOST 1048576: true; the input reads as it did. -/
def gfTablesUptoRow : OpenClaim := { program := "ytfhneibncjoolaa", sum := "8e956617f92eb23cfbd0c3d687a29d1f6277622c8a369265a6360cde912b6c2c", func := "strongbox/strongboxlaw1.GfTables", spec := "gfTables", apart := false, narrowed := true }
def GfTablesUptoSaid : Prop := gfTablesUptoRow.holds Try.pinned (OpenSpec.upto gfTablesSpec)

/-- 'strongboxlaw1.GfLinear', WHERE WHAT IT READS IS OF BULK AT MOST 1048576: true; the input reads as it did. -/
def gfLinearUptoRow : OpenClaim := { program := "ytfhneibncjoolaa", sum := "8e956617f92eb23cfbd0c3d687a29d1f6277622c8a369265a6360cde912b6c2c", func := "strongbox/strongboxlaw1.GfLinear", spec := "gfLinear", apart := false, narrowed := true }
def GfLinearUptoSaid : Prop := gfLinearUptoRow.holds Try.pinned (OpenSpec.upto gfLinearSpec)

end Rows
end Go.Proofs.Ytfhneibncjoolaa
