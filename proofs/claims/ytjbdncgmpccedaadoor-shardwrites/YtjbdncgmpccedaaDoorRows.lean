/-
  NARROWER THAN 'FOR EVERY INPUT', by the rows' own cells (each row's printed sentence says how): ShardWrites: laid · ShardBursts: laid · ShardCuts: laid · ShardBlocks: laid.
  DERIVED. THE GIVEN ROWS OF THIS SEAT. 4 by the template 'for every input the law returns true; each argument reads behind the call as it read before'; 0 by the template 'total and deterministic' (their statements: YtjbdncgmpccedaaDoorTotals.lean).
  GIVEN WITH THE SEED: the statements are not yours to turn. If you find one false, say at which input.
  Laid BY PROGRAM, IN A SANDBOX (cutbox-rows.mjs): the forced cells as the released guide's own fill.sh prints them over the translation 71721966125fa1f1… (all of the seat's roots in one cut). By AI agents, Wed Nov 11 2026. No macro, syntax, notation, axiom, sorry.
-/
import Derived.Test.YtjbdncgmpccedaaDoorChecked
import GoSem.Claim
import GoSem.ClaimJoined
import GoSem.ClaimMapViews
import Derived.JoinedTies
import Derived.KernelRfl
namespace Go.Proofs.YtjbdncgmpccedaaDoor
/- THE CELL 'sum', in the pinned program and in every row, IS THE sha256 OF THE DUMP (.gsa) THAT YtjbdncgmpccedaaDoorProg.lean LOADS. Nothing in Lean hashes anything: it is a label: what it is worth is what the hold of that sum in a sandbox is worth. -/
noncomputable def Tryd.pinned : Pinned := { name := "ytjbdncgmpccedaadoor", sum := "71721966125fa1f17e0bee7f61f74b7cf5b51c3f37d88c1f8d6e29d30cb7be14", checked := Tryd.checked }
namespace Rows
def none {H : Type} : Left H := { results := [], args := [] }

/- WHAT THE LISTED PACKAGE-LEVEL VARIABLES READ AS WHEN THE CALL BEGINS. Each datum BY PROGRAM (the guide's laid-datum.mjs) off the statement by which the dump's own 'gosem.cut.vars' lays the variable. In a bare row this is a premise. The card (YtjbdncgmpccedaaDoorCards.lean) ties it to the program's text. -/
def laid_strongbox_crc_halfSteps {H : Type} : DataW H := .agg [.lit (.int .u32 0), .lit (.int .u32 274646895), .lit (.int .u32 549293790), .lit (.int .u32 820201905), .lit (.int .u32 1098587580), .lit (.int .u32 1361435347), .lit (.int .u32 1640403810), .lit (.int .u32 1905808397), .lit (.int .u32 2197175160), .lit (.int .u32 2460548119), .lit (.int .u32 2722870694), .lit (.int .u32 2987750089), .lit (.int .u32 3280807620), .lit (.int .u32 3553878443), .lit (.int .u32 3811616794), .lit (.int .u32 4084100981)]

/-- 'strongboxlaw5.ShardWrites': WHATEVER THE INPUT: true; the input reads as it did. -/
def shardWritesSpec : ChangeSpec := { name := "shardWrites", fn := fun _ => fun
  | [d1, d2, d3] => { results := [.lit (.bool true)], args := [d1, d2, d3] }
  | _ => none }
def shardWritesRow : OpenClaim := { program := "ytjbdncgmpccedaadoor", sum := "71721966125fa1f17e0bee7f61f74b7cf5b51c3f37d88c1f8d6e29d30cb7be14", func := "strongbox/strongboxlaw5.ShardWrites", spec := "shardWrites", unfollowed := true, recurses := true, named := ["strongbox/crc.halfSteps"], apart := false, laid := [("strongbox/crc.halfSteps", laid_strongbox_crc_halfSteps)] }
def ShardWritesSaid : Prop := shardWritesRow.holds Tryd.pinned (OpenSpec.ofChange shardWritesSpec)

/-- ITS FALSE NEIGHBOUR: 'it returns false'. Refute it at one input. -/
def shardWritesWrong : ChangeSpec := { name := "shardWrites", fn := fun _ => fun
  | [d1, d2, d3] => { results := [.lit (.bool false)], args := [d1, d2, d3] }
  | _ => none }
def ShardWritesWrongFalsely : Prop := shardWritesRow.holds Tryd.pinned (OpenSpec.ofChange shardWritesWrong)

/-- 'strongboxlaw5.ShardBursts': WHATEVER THE INPUT: true; the input reads as it did. -/
def shardBurstsSpec : ChangeSpec := { name := "shardBursts", fn := fun _ => fun
  | [d1, d2, d3] => { results := [.lit (.bool true)], args := [d1, d2, d3] }
  | _ => none }
def shardBurstsRow : OpenClaim := { program := "ytjbdncgmpccedaadoor", sum := "71721966125fa1f17e0bee7f61f74b7cf5b51c3f37d88c1f8d6e29d30cb7be14", func := "strongbox/strongboxlaw5.ShardBursts", spec := "shardBursts", unfollowed := true, recurses := true, named := ["strongbox/crc.halfSteps"], apart := false, laid := [("strongbox/crc.halfSteps", laid_strongbox_crc_halfSteps)] }
def ShardBurstsSaid : Prop := shardBurstsRow.holds Tryd.pinned (OpenSpec.ofChange shardBurstsSpec)

/-- ITS FALSE NEIGHBOUR: 'it returns false'. Refute it at one input. -/
def shardBurstsWrong : ChangeSpec := { name := "shardBursts", fn := fun _ => fun
  | [d1, d2, d3] => { results := [.lit (.bool false)], args := [d1, d2, d3] }
  | _ => none }
def ShardBurstsWrongFalsely : Prop := shardBurstsRow.holds Tryd.pinned (OpenSpec.ofChange shardBurstsWrong)

/-- 'strongboxlaw5.ShardCuts': WHATEVER THE INPUT: true; the input reads as it did. -/
def shardCutsSpec : ChangeSpec := { name := "shardCuts", fn := fun _ => fun
  | [d1, d2, d3] => { results := [.lit (.bool true)], args := [d1, d2, d3] }
  | _ => none }
def shardCutsRow : OpenClaim := { program := "ytjbdncgmpccedaadoor", sum := "71721966125fa1f17e0bee7f61f74b7cf5b51c3f37d88c1f8d6e29d30cb7be14", func := "strongbox/strongboxlaw5.ShardCuts", spec := "shardCuts", unfollowed := true, recurses := true, named := ["strongbox/crc.halfSteps"], apart := false, laid := [("strongbox/crc.halfSteps", laid_strongbox_crc_halfSteps)] }
def ShardCutsSaid : Prop := shardCutsRow.holds Tryd.pinned (OpenSpec.ofChange shardCutsSpec)

/-- ITS FALSE NEIGHBOUR: 'it returns false'. Refute it at one input. -/
def shardCutsWrong : ChangeSpec := { name := "shardCuts", fn := fun _ => fun
  | [d1, d2, d3] => { results := [.lit (.bool false)], args := [d1, d2, d3] }
  | _ => none }
def ShardCutsWrongFalsely : Prop := shardCutsRow.holds Tryd.pinned (OpenSpec.ofChange shardCutsWrong)

/-- 'strongboxlaw5.ShardBlocks': WHATEVER THE INPUT: true; the input reads as it did. -/
def shardBlocksSpec : ChangeSpec := { name := "shardBlocks", fn := fun _ => fun
  | [d1, d2] => { results := [.lit (.bool true)], args := [d1, d2] }
  | _ => none }
def shardBlocksRow : OpenClaim := { program := "ytjbdncgmpccedaadoor", sum := "71721966125fa1f17e0bee7f61f74b7cf5b51c3f37d88c1f8d6e29d30cb7be14", func := "strongbox/strongboxlaw5.ShardBlocks", spec := "shardBlocks", unfollowed := true, recurses := true, named := ["strongbox/crc.halfSteps"], apart := false, laid := [("strongbox/crc.halfSteps", laid_strongbox_crc_halfSteps)] }
def ShardBlocksSaid : Prop := shardBlocksRow.holds Tryd.pinned (OpenSpec.ofChange shardBlocksSpec)

/-- ITS FALSE NEIGHBOUR: 'it returns false'. Refute it at one input. -/
def shardBlocksWrong : ChangeSpec := { name := "shardBlocks", fn := fun _ => fun
  | [d1, d2] => { results := [.lit (.bool false)], args := [d1, d2] }
  | _ => none }
def ShardBlocksWrongFalsely : Prop := shardBlocksRow.holds Tryd.pinned (OpenSpec.ofChange shardBlocksWrong)

/- THE SECOND FORM. 'bulk': how many values and letters a reading holds, each counted each time it is reached (what is shared counts as often as it is met; a slice's spare places count too). A statement '..UptoSaid' is the law's where the arguments, and the package variables that the reading takes, are together of bulk at most 1048576: NARROWER than '..Said'. Prove '..Said' where nothing that the law and all that it calls make is longer than what came in: it says more and counts as full. Else prove '..UptoSaid'. A law counts once. -/
mutual
def uptoBulk {H : Type} : DataW H → Nat
  | .lit (.string bytes) => bytes.length + 1
  | .lit _ => 1
  | .nil => 1
  | .ptr d => uptoBulk d + 1
  | .slice elems spare => uptoBulkAll elems + uptoBulkAll spare + 1
  | .agg parts => uptoBulkAll parts + 1
  | .iface _ d => uptoBulk d + 1
  | .map entries => uptoBulkEntries entries + 1
  | .held _ => 1
def uptoBulkAll {H : Type} : List (DataW H) → Nat
  | [] => 0
  | d :: r => uptoBulk d + uptoBulkAll r
def uptoBulkEntries {H : Type} : List (Lit × DataW H) → Nat
  | [] => 0
  | x :: r => uptoBulkEntry x + uptoBulkEntries r
def uptoBulkEntry {H : Type} : Lit × DataW H → Nat
  | (.string bytes, d) => bytes.length + uptoBulk d + 1
  | (_, d) => uptoBulk d + 1
 end
def uptoSmall : (H : Type) → List (DataW H) → Bool := fun _ ds => decide (uptoBulkAll ds ≤ 1048576)
def OpenSpec.upto (s : _root_.Go.ChangeSpec) : _root_.Go.OpenSpec := { _root_.Go.OpenSpec.ofChange s with cond := some uptoSmall }

/-- 'strongboxlaw5.ShardWrites', WHERE WHAT IT READS IS OF BULK AT MOST 1048576: true; the input reads as it did. -/
def shardWritesUptoRow : OpenClaim := { program := "ytjbdncgmpccedaadoor", sum := "71721966125fa1f17e0bee7f61f74b7cf5b51c3f37d88c1f8d6e29d30cb7be14", func := "strongbox/strongboxlaw5.ShardWrites", spec := "shardWrites", unfollowed := true, recurses := true, named := ["strongbox/crc.halfSteps"], apart := false, laid := [("strongbox/crc.halfSteps", laid_strongbox_crc_halfSteps)], narrowed := true }
def ShardWritesUptoSaid : Prop := shardWritesUptoRow.holds Tryd.pinned (OpenSpec.upto shardWritesSpec)

/-- 'strongboxlaw5.ShardBursts', WHERE WHAT IT READS IS OF BULK AT MOST 1048576: true; the input reads as it did. -/
def shardBurstsUptoRow : OpenClaim := { program := "ytjbdncgmpccedaadoor", sum := "71721966125fa1f17e0bee7f61f74b7cf5b51c3f37d88c1f8d6e29d30cb7be14", func := "strongbox/strongboxlaw5.ShardBursts", spec := "shardBursts", unfollowed := true, recurses := true, named := ["strongbox/crc.halfSteps"], apart := false, laid := [("strongbox/crc.halfSteps", laid_strongbox_crc_halfSteps)], narrowed := true }
def ShardBurstsUptoSaid : Prop := shardBurstsUptoRow.holds Tryd.pinned (OpenSpec.upto shardBurstsSpec)

/-- 'strongboxlaw5.ShardCuts', WHERE WHAT IT READS IS OF BULK AT MOST 1048576: true; the input reads as it did. -/
def shardCutsUptoRow : OpenClaim := { program := "ytjbdncgmpccedaadoor", sum := "71721966125fa1f17e0bee7f61f74b7cf5b51c3f37d88c1f8d6e29d30cb7be14", func := "strongbox/strongboxlaw5.ShardCuts", spec := "shardCuts", unfollowed := true, recurses := true, named := ["strongbox/crc.halfSteps"], apart := false, laid := [("strongbox/crc.halfSteps", laid_strongbox_crc_halfSteps)], narrowed := true }
def ShardCutsUptoSaid : Prop := shardCutsUptoRow.holds Tryd.pinned (OpenSpec.upto shardCutsSpec)

/-- 'strongboxlaw5.ShardBlocks', WHERE WHAT IT READS IS OF BULK AT MOST 1048576: true; the input reads as it did. -/
def shardBlocksUptoRow : OpenClaim := { program := "ytjbdncgmpccedaadoor", sum := "71721966125fa1f17e0bee7f61f74b7cf5b51c3f37d88c1f8d6e29d30cb7be14", func := "strongbox/strongboxlaw5.ShardBlocks", spec := "shardBlocks", unfollowed := true, recurses := true, named := ["strongbox/crc.halfSteps"], apart := false, laid := [("strongbox/crc.halfSteps", laid_strongbox_crc_halfSteps)], narrowed := true }
def ShardBlocksUptoSaid : Prop := shardBlocksUptoRow.holds Tryd.pinned (OpenSpec.upto shardBlocksSpec)

end Rows
end Go.Proofs.YtjbdncgmpccedaaDoor
