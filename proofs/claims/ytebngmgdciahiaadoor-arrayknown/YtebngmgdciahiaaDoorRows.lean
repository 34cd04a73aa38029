/-
  NARROWER THAN 'FOR EVERY INPUT', by the rows' own cells (each row's printed sentence says how): ArrayKnown: laid · ArrayMeets: laid · ArrayFormats: laid · ArrayVoices: laid.
  DERIVED. THE GIVEN ROWS OF THIS SEAT. 4 by the template 'for every input the law returns true; each argument reads behind the call as it read before'; 0 by the template 'total and deterministic' (their statements: YtebngmgdciahiaaDoorTotals.lean).
  GIVEN WITH THE SEED: the statements are not yours to turn. If you find one false, say at which input.
  Laid BY PROGRAM, IN A SANDBOX (cutbox-rows.mjs): the forced cells as the released guide's own fill.sh prints them over the translation 54c7600e8dcfd9ee… (all of the seat's roots in one cut). By AI agents, Wed Nov 11 2026. No macro, syntax, notation, axiom, sorry.
-/
import Derived.Test.YtebngmgdciahiaaDoorChecked
import GoSem.Claim
import GoSem.ClaimJoined
import GoSem.ClaimMapViews
import Derived.JoinedTies
import Derived.KernelRfl
namespace Go.Proofs.YtebngmgdciahiaaDoor
/- THE CELL 'sum', in the pinned program and in every row, IS THE sha256 OF THE DUMP (.gsa) THAT YtebngmgdciahiaaDoorProg.lean LOADS. Nothing in Lean hashes anything: it is a label: what it is worth is what the hold of that sum in a sandbox is worth. -/
noncomputable def Tryd.pinned : Pinned := { name := "ytebngmgdciahiaadoor", sum := "54c7600e8dcfd9eeac7c3ada0e69df54c0ffe86242b57e9b5d42b63c8e3a18d2", checked := Tryd.checked }
namespace Rows
def none {H : Type} : Left H := { results := [], args := [] }

/- WHAT THE LISTED PACKAGE-LEVEL VARIABLES READ AS WHEN THE CALL BEGINS. Each datum BY PROGRAM (the guide's laid-datum.mjs) off the statement by which the dump's own 'gosem.cut.vars' lays the variable. In a bare row this is a premise. The card (YtebngmgdciahiaaDoorCards.lean) ties it to the program's text. -/
def laid_strongbox_crc_halfSteps {H : Type} : DataW H := .agg [.lit (.int .u32 0), .lit (.int .u32 274646895), .lit (.int .u32 549293790), .lit (.int .u32 820201905), .lit (.int .u32 1098587580), .lit (.int .u32 1361435347), .lit (.int .u32 1640403810), .lit (.int .u32 1905808397), .lit (.int .u32 2197175160), .lit (.int .u32 2460548119), .lit (.int .u32 2722870694), .lit (.int .u32 2987750089), .lit (.int .u32 3280807620), .lit (.int .u32 3553878443), .lit (.int .u32 3811616794), .lit (.int .u32 4084100981)]

/-- 'strongboxlaw12.ArrayKnown': WHATEVER THE INPUT: true; the input reads as it did. -/
def arrayKnownSpec : ChangeSpec := { name := "arrayKnown", fn := fun _ => fun
  | [] => { results := [.lit (.bool true)], args := [] }
  | _ => none }
def arrayKnownRow : OpenClaim := { program := "ytebngmgdciahiaadoor", sum := "54c7600e8dcfd9eeac7c3ada0e69df54c0ffe86242b57e9b5d42b63c8e3a18d2", func := "strongbox/strongboxlaw12.ArrayKnown", spec := "arrayKnown", unfollowed := true, recurses := true, named := ["strongbox/crc.halfSteps"], apart := false, laid := [("strongbox/crc.halfSteps", laid_strongbox_crc_halfSteps)] }
def ArrayKnownSaid : Prop := arrayKnownRow.holds Tryd.pinned (OpenSpec.ofChange arrayKnownSpec)

/-- ITS FALSE NEIGHBOUR: 'it returns false'. Refute it at one input. -/
def arrayKnownWrong : ChangeSpec := { name := "arrayKnown", fn := fun _ => fun
  | [] => { results := [.lit (.bool false)], args := [] }
  | _ => none }
def ArrayKnownWrongFalsely : Prop := arrayKnownRow.holds Tryd.pinned (OpenSpec.ofChange arrayKnownWrong)

/-- 'strongboxlaw12.ArrayMeets': WHATEVER THE INPUT: true; the input reads as it did. -/
def arrayMeetsSpec : ChangeSpec := { name := "arrayMeets", fn := fun _ => fun
  | [d1, d2, d3] => { results := [.lit (.bool true)], args := [d1, d2, d3] }
  | _ => none }
def arrayMeetsRow : OpenClaim := { program := "ytebngmgdciahiaadoor", sum := "54c7600e8dcfd9eeac7c3ada0e69df54c0ffe86242b57e9b5d42b63c8e3a18d2", func := "strongbox/strongboxlaw12.ArrayMeets", spec := "arrayMeets", unfollowed := true, recurses := true, named := ["strongbox/crc.halfSteps"], apart := false, laid := [("strongbox/crc.halfSteps", laid_strongbox_crc_halfSteps)] }
def ArrayMeetsSaid : Prop := arrayMeetsRow.holds Tryd.pinned (OpenSpec.ofChange arrayMeetsSpec)

/-- ITS FALSE NEIGHBOUR: 'it returns false'. Refute it at one input. -/
def arrayMeetsWrong : ChangeSpec := { name := "arrayMeets", fn := fun _ => fun
  | [d1, d2, d3] => { results := [.lit (.bool false)], args := [d1, d2, d3] }
  | _ => none }
def ArrayMeetsWrongFalsely : Prop := arrayMeetsRow.holds Tryd.pinned (OpenSpec.ofChange arrayMeetsWrong)

/-- 'strongboxlaw12.ArrayFormats': WHATEVER THE INPUT: true; the input reads as it did. -/
def arrayFormatsSpec : ChangeSpec := { name := "arrayFormats", fn := fun _ => fun
  | [d1, d2] => { results := [.lit (.bool true)], args := [d1, d2] }
  | _ => none }
def arrayFormatsRow : OpenClaim := { program := "ytebngmgdciahiaadoor", sum := "54c7600e8dcfd9eeac7c3ada0e69df54c0ffe86242b57e9b5d42b63c8e3a18d2", func := "strongbox/strongboxlaw12.ArrayFormats", spec := "arrayFormats", unfollowed := true, recurses := true, named := ["strongbox/crc.halfSteps"], apart := false, laid := [("strongbox/crc.halfSteps", laid_strongbox_crc_halfSteps)] }
def ArrayFormatsSaid : Prop := arrayFormatsRow.holds Tryd.pinned (OpenSpec.ofChange arrayFormatsSpec)

/-- ITS FALSE NEIGHBOUR: 'it returns false'. Refute it at one input. -/
def arrayFormatsWrong : ChangeSpec := { name := "arrayFormats", fn := fun _ => fun
  | [d1, d2] => { results := [.lit (.bool false)], args := [d1, d2] }
  | _ => none }
def ArrayFormatsWrongFalsely : Prop := arrayFormatsRow.holds Tryd.pinned (OpenSpec.ofChange arrayFormatsWrong)

/-- 'strongboxlaw12.ArrayVoices': WHATEVER THE INPUT: true; the input reads as it did. -/
def arrayVoicesSpec : ChangeSpec := { name := "arrayVoices", fn := fun _ => fun
  | [d1, d2] => { results := [.lit (.bool true)], args := [d1, d2] }
  | _ => none }
def arrayVoicesRow : OpenClaim := { program := "ytebngmgdciahiaadoor", sum := "54c7600e8dcfd9eeac7c3ada0e69df54c0ffe86242b57e9b5d42b63c8e3a18d2", func := "strongbox/strongboxlaw12.ArrayVoices", spec := "arrayVoices", unfollowed := true, recurses := true, named := ["strongbox/crc.halfSteps"], apart := false, laid := [("strongbox/crc.halfSteps", laid_strongbox_crc_halfSteps)] }
def ArrayVoicesSaid : Prop := arrayVoicesRow.holds Tryd.pinned (OpenSpec.ofChange arrayVoicesSpec)

/-- ITS FALSE NEIGHBOUR: 'it returns false'. Refute it at one input. -/
def arrayVoicesWrong : ChangeSpec := { name := "arrayVoices", fn := fun _ => fun
  | [d1, d2] => { results := [.lit (.bool false)], args := [d1, d2] }
  | _ => none }
def ArrayVoicesWrongFalsely : Prop := arrayVoicesRow.holds Tryd.pinned (OpenSpec.ofChange arrayVoicesWrong)

/- THE SECOND FORM. 'bulk': how many values and letters a reading holds, each counted each time it is reached (what is shared counts as often as it is met; a slice's spare places count too). A statement '..UptoSaid' is the law's where the arguments, and the package variables that the reading takes, are together of bulk at most 1048576: NARROWER than '..Said'. Prove '..Said' where nothing that the law and all that it calls make is longer than what came in: it says more and counts as full. Else prove '..UptoSaid'. A law counts once. -/
mutual
def uptoBulk {H : Type} : DataW H → Nat
  | .lit (.string bytes) => bytes.length + 1
  | .lit _ => 1
  | .nil => 1
  | .ptr d => uptoBulk d + 1
  | .slice elems spare => uptoBulkAll elems + uptoBulkAll spare + 1
  | .agg parts => uptoBulkAll parts + 1
  | .iface _ d => uptoBulk d + 1
  | .map entries => uptoBulkEntries entries + 1
  | .held _ => 1
def uptoBulkAll {H : Type} : List (DataW H) → Nat
  | [] => 0
  | d :: r => uptoBulk d + uptoBulkAll r
def uptoBulkEntries {H : Type} : List (Lit × DataW H) → Nat
  | [] => 0
  | x :: r => uptoBulkEntry x + uptoBulkEntries r
def uptoBulkEntry {H : Type} : Lit × DataW H → Nat
  | (.string bytes, d) => bytes.length + uptoBulk d + 1
  | (_, d) => uptoBulk d + 1
 end
def uptoSmall : (H : Type) → List (DataW H) → Bool := fun _ ds => decide (uptoBulkAll ds ≤ 1048576)
def OpenSpec.upto (s : _root_.Go.ChangeSpec) : _root_.Go.OpenSpec := { _root_.Go.OpenSpec.ofChange s with cond := some uptoSmall }

/-- 'strongboxlaw12.ArrayKnown', WHERE WHAT IT READS IS OF BULK AT MOST 1048576: true; the input reads as it did. -/
def arrayKnownUptoRow : OpenClaim := { program := "ytebngmgdciahiaadoor", sum := "54c7600e8dcfd9eeac7c3ada0e69df54c0ffe86242b57e9b5d42b63c8e3a18d2", func := "strongbox/strongboxlaw12.ArrayKnown", spec := "arrayKnown", unfollowed := true, recurses := true, named := ["strongbox/crc.halfSteps"], apart := false, laid := [("strongbox/crc.halfSteps", laid_strongbox_crc_halfSteps)], narrowed := true }
def ArrayKnownUptoSaid : Prop := arrayKnownUptoRow.holds Tryd.pinned (OpenSpec.upto arrayKnownSpec)

/-- 'strongboxlaw12.ArrayMeets', WHERE WHAT IT READS IS OF BULK AT MOST 1048576: true; the input reads as it did. -/
def arrayMeetsUptoRow : OpenClaim := { program := "ytebngmgdciahiaadoor", sum := "54c7600e8dcfd9eeac7c3ada0e69df54c0ffe86242b57e9b5d42b63c8e3a18d2", func := "strongbox/strongboxlaw12.ArrayMeets", spec := "arrayMeets", unfollowed := true, recurses := true, named := ["strongbox/crc.halfSteps"], apart := false, laid := [("strongbox/crc.halfSteps", laid_strongbox_crc_halfSteps)], narrowed := true }
def ArrayMeetsUptoSaid : Prop := arrayMeetsUptoRow.holds Tryd.pinned (OpenSpec.upto arrayMeetsSpec)

/-- 'strongboxlaw12.ArrayFormats', WHERE WHAT IT READS IS OF BULK AT MOST 1048576: true; the input reads as it did. -/
def arrayFormatsUptoRow : OpenClaim := { program := "ytebngmgdciahiaadoor", sum := "54c7600e8dcfd9eeac7c3ada0e69df54c0ffe86242b57e9b5d42b63c8e3a18d2", func := "strongbox/strongboxlaw12.ArrayFormats", spec := "arrayFormats", unfollowed := true, recurses := true, named := ["strongbox/crc.halfSteps"], apart := false, laid := [("strongbox/crc.halfSteps", laid_strongbox_crc_halfSteps)], narrowed := true }
def ArrayFormatsUptoSaid : Prop := arrayFormatsUptoRow.holds Tryd.pinned (OpenSpec.upto arrayFormatsSpec)

/-- 'strongboxlaw12.ArrayVoices', WHERE WHAT IT READS IS OF BULK AT MOST 1048576: true; the input reads as it did. -/
def arrayVoicesUptoRow : OpenClaim := { program := "ytebngmgdciahiaadoor", sum := "54c7600e8dcfd9eeac7c3ada0e69df54c0ffe86242b57e9b5d42b63c8e3a18d2", func := "strongbox/strongboxlaw12.ArrayVoices", spec := "arrayVoices", unfollowed := true, recurses := true, named := ["strongbox/crc.halfSteps"], apart := false, laid := [("strongbox/crc.halfSteps", laid_strongbox_crc_halfSteps)], narrowed := true }
def ArrayVoicesUptoSaid : Prop := arrayVoicesUptoRow.holds Tryd.pinned (OpenSpec.upto arrayVoicesSpec)

end Rows
end Go.Proofs.YtebngmgdciahiaaDoor
