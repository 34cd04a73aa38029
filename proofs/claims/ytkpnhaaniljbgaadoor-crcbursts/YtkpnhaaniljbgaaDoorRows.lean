/-
  NARROWER THAN 'FOR EVERY INPUT', by the rows' own cells (each row's printed sentence says how): CrcSums: laid · CrcBursts: laid · CrcUnlike: laid · CrcParts: laid.
  DERIVED. THE GIVEN ROWS OF THIS SEAT. 4 by the template 'for every input the law returns true; each argument reads behind the call as it read before'; 0 by the template 'total and deterministic' (their statements: YtkpnhaaniljbgaaDoorTotals.lean).
  GIVEN WITH THE SEED: the statements are not yours to turn. If you find one false, say at which input.
  Laid BY PROGRAM, IN A SANDBOX (cutbox-rows.mjs): the forced cells as the released guide's own fill.sh prints them over the translation f6c0141207a3414c… (all of the seat's roots in one cut). By AI agents, Wed Nov 11 2026. No macro, syntax, notation, axiom, sorry.
-/
import Derived.Test.YtkpnhaaniljbgaaDoorChecked
import GoSem.Claim
import GoSem.ClaimJoined
import GoSem.ClaimMapViews
import Derived.JoinedTies
import Derived.KernelRfl
namespace Go.Proofs.YtkpnhaaniljbgaaDoor
/- THE CELL 'sum', in the pinned program and in every row, IS THE sha256 OF THE DUMP (.gsa) THAT YtkpnhaaniljbgaaDoorProg.lean LOADS. Nothing in Lean hashes anything: it is a label: what it is worth is what the hold of that sum in a sandbox is worth. -/
noncomputable def Tryd.pinned : Pinned := { name := "ytkpnhaaniljbgaadoor", sum := "f6c0141207a3414ce8fc1e35f9dd43fa3a9e0c63fb72105fdcf63af4debe5075", checked := Tryd.checked }
namespace Rows
def none {H : Type} : Left H := { results := [], args := [] }

/- WHAT THE LISTED PACKAGE-LEVEL VARIABLES READ AS WHEN THE CALL BEGINS. Each datum BY PROGRAM (the guide's laid-datum.mjs) off the statement by which the dump's own 'gosem.cut.vars' lays the variable. In a bare row this is a premise. The card (YtkpnhaaniljbgaaDoorCards.lean) ties it to the program's text. -/
def laid_strongbox_crc_halfSteps {H : Type} : DataW H := .agg [.lit (.int .u32 0), .lit (.int .u32 274646895), .lit (.int .u32 549293790), .lit (.int .u32 820201905), .lit (.int .u32 1098587580), .lit (.int .u32 1361435347), .lit (.int .u32 1640403810), .lit (.int .u32 1905808397), .lit (.int .u32 2197175160), .lit (.int .u32 2460548119), .lit (.int .u32 2722870694), .lit (.int .u32 2987750089), .lit (.int .u32 3280807620), .lit (.int .u32 3553878443), .lit (.int .u32 3811616794), .lit (.int .u32 4084100981)]

/-- 'strongboxlaw4.CrcSums': WHATEVER THE INPUT: true; the input reads as it did. -/
def crcSumsSpec : ChangeSpec := { name := "crcSums", fn := fun _ => fun
  | [d1, d2] => { results := [.lit (.bool true)], args := [d1, d2] }
  | _ => none }
def crcSumsRow : OpenClaim := { program := "ytkpnhaaniljbgaadoor", sum := "f6c0141207a3414ce8fc1e35f9dd43fa3a9e0c63fb72105fdcf63af4debe5075", func := "strongbox/strongboxlaw4.CrcSums", spec := "crcSums", named := ["strongbox/crc.halfSteps"], apart := false, laid := [("strongbox/crc.halfSteps", laid_strongbox_crc_halfSteps)] }
def CrcSumsSaid : Prop := crcSumsRow.holds Tryd.pinned (OpenSpec.ofChange crcSumsSpec)

/-- ITS FALSE NEIGHBOUR: 'it returns false'. Refute it at one input. -/
def crcSumsWrong : ChangeSpec := { name := "crcSums", fn := fun _ => fun
  | [d1, d2] => { results := [.lit (.bool false)], args := [d1, d2] }
  | _ => none }
def CrcSumsWrongFalsely : Prop := crcSumsRow.holds Tryd.pinned (OpenSpec.ofChange crcSumsWrong)

/-- 'strongboxlaw4.CrcBursts': WHATEVER THE INPUT: true; the input reads as it did. -/
def crcBurstsSpec : ChangeSpec := { name := "crcBursts", fn := fun _ => fun
  | [d1, d2, d3] => { results := [.lit (.bool true)], args := [d1, d2, d3] }
  | _ => none }
def crcBurstsRow : OpenClaim := { program := "ytkpnhaaniljbgaadoor", sum := "f6c0141207a3414ce8fc1e35f9dd43fa3a9e0c63fb72105fdcf63af4debe5075", func := "strongbox/strongboxlaw4.CrcBursts", spec := "crcBursts", named := ["strongbox/crc.halfSteps"], apart := false, laid := [("strongbox/crc.halfSteps", laid_strongbox_crc_halfSteps)] }
def CrcBurstsSaid : Prop := crcBurstsRow.holds Tryd.pinned (OpenSpec.ofChange crcBurstsSpec)

/-- ITS FALSE NEIGHBOUR: 'it returns false'. Refute it at one input. -/
def crcBurstsWrong : ChangeSpec := { name := "crcBursts", fn := fun _ => fun
  | [d1, d2, d3] => { results := [.lit (.bool false)], args := [d1, d2, d3] }
  | _ => none }
def CrcBurstsWrongFalsely : Prop := crcBurstsRow.holds Tryd.pinned (OpenSpec.ofChange crcBurstsWrong)

/-- 'strongboxlaw4.CrcUnlike': WHATEVER THE INPUT: true; the input reads as it did. -/
def crcUnlikeSpec : ChangeSpec := { name := "crcUnlike", fn := fun _ => fun
  | [d1, d2, d3] => { results := [.lit (.bool true)], args := [d1, d2, d3] }
  | _ => none }
def crcUnlikeRow : OpenClaim := { program := "ytkpnhaaniljbgaadoor", sum := "f6c0141207a3414ce8fc1e35f9dd43fa3a9e0c63fb72105fdcf63af4debe5075", func := "strongbox/strongboxlaw4.CrcUnlike", spec := "crcUnlike", named := ["strongbox/crc.halfSteps"], apart := false, laid := [("strongbox/crc.halfSteps", laid_strongbox_crc_halfSteps)] }
def CrcUnlikeSaid : Prop := crcUnlikeRow.holds Tryd.pinned (OpenSpec.ofChange crcUnlikeSpec)

/-- ITS FALSE NEIGHBOUR: 'it returns false'. Refute it at one input. -/
def crcUnlikeWrong : ChangeSpec := { name := "crcUnlike", fn := fun _ => fun
  | [d1, d2, d3] => { results := [.lit (.bool false)], args := [d1, d2, d3] }
  | _ => none }
def CrcUnlikeWrongFalsely : Prop := crcUnlikeRow.holds Tryd.pinned (OpenSpec.ofChange crcUnlikeWrong)

/-- 'strongboxlaw4.CrcParts': WHATEVER THE INPUT: true; the input reads as it did. -/
def crcPartsSpec : ChangeSpec := { name := "crcParts", fn := fun _ => fun
  | [d1, d2] => { results := [.lit (.bool true)], args := [d1, d2] }
  | _ => none }
def crcPartsRow : OpenClaim := { program := "ytkpnhaaniljbgaadoor", sum := "f6c0141207a3414ce8fc1e35f9dd43fa3a9e0c63fb72105fdcf63af4debe5075", func := "strongbox/strongboxlaw4.CrcParts", spec := "crcParts", named := ["strongbox/crc.halfSteps"], apart := false, laid := [("strongbox/crc.halfSteps", laid_strongbox_crc_halfSteps)] }
def CrcPartsSaid : Prop := crcPartsRow.holds Tryd.pinned (OpenSpec.ofChange crcPartsSpec)

/-- ITS FALSE NEIGHBOUR: 'it returns false'. Refute it at one input. -/
def crcPartsWrong : ChangeSpec := { name := "crcParts", fn := fun _ => fun
  | [d1, d2] => { results := [.lit (.bool false)], args := [d1, d2] }
  | _ => none }
def CrcPartsWrongFalsely : Prop := crcPartsRow.holds Tryd.pinned (OpenSpec.ofChange crcPartsWrong)

/- THE SECOND FORM. 'bulk': how many values and letters a reading holds, each counted each time it is reached (what is shared counts as often as it is met; a slice's spare places count too). A statement '..UptoSaid' is the law's where the arguments, and the package variables that the reading takes, are together of bulk at most 1048576: NARROWER than '..Said'. Prove '..Said' where nothing that the law and all that it calls make is longer than what came in: it says more and counts as full. Else prove '..UptoSaid'. A law counts once. -/
mutual
def uptoBulk {H : Type} : DataW H → Nat
  | .lit (.string bytes) => bytes.length + 1
  | .lit _ => 1
  | .nil => 1
  | .ptr d => uptoBulk d + 1
  | .slice elems spare => uptoBulkAll elems + uptoBulkAll spare + 1
  | .agg parts => uptoBulkAll parts + 1
  | .iface _ d => uptoBulk d + 1
  | .map entries => uptoBulkEntries entries + 1
  | .held _ => 1
def uptoBulkAll {H : Type} : List (DataW H) → Nat
  | [] => 0
  | d :: r => uptoBulk d + uptoBulkAll r
def uptoBulkEntries {H : Type} : List (Lit × DataW H) → Nat
  | [] => 0
  | x :: r => uptoBulkEntry x + uptoBulkEntries r
def uptoBulkEntry {H : Type} : Lit × DataW H → Nat
  | (.string bytes, d) => bytes.length + uptoBulk d + 1
  | (_, d) => uptoBulk d + 1
 end
def uptoSmall : (H : Type) → List (DataW H) → Bool := fun _ ds => decide (uptoBulkAll ds ≤ 1048576)
def OpenSpec.upto (s : _root_.Go.ChangeSpec) : _root_.Go.OpenSpec := { _root_.Go.OpenSpec.ofChange s with cond := some uptoSmall }

/-- 'strongboxlaw4.CrcSums', WHERE WHAT IT READS IS OF BULK AT MOST 1048576: true; the input reads as it did. -/
def crcSumsUptoRow : OpenClaim := { program := "ytkpnhaaniljbgaadoor", sum := "f6c0141207a3414ce8fc1e35f9dd43fa3a9e0c63fb72105fdcf63af4debe5075", func := "strongbox/strongboxlaw4.CrcSums", spec := "crcSums", named := ["strongbox/crc.halfSteps"], apart := false, laid := [("strongbox/crc.halfSteps", laid_strongbox_crc_halfSteps)], narrowed := true }
def CrcSumsUptoSaid : Prop := crcSumsUptoRow.holds Tryd.pinned (OpenSpec.upto crcSumsSpec)

/-- 'strongboxlaw4.CrcBursts', WHERE WHAT IT READS IS OF BULK AT MOST 1048576: true; the input reads as it did. -/
def crcBurstsUptoRow : OpenClaim := { program := "ytkpnhaaniljbgaadoor", sum := "f6c0141207a3414ce8fc1e35f9dd43fa3a9e0c63fb72105fdcf63af4debe5075", func := "strongbox/strongboxlaw4.CrcBursts", spec := "crcBursts", named := ["strongbox/crc.halfSteps"], apart := false, laid := [("strongbox/crc.halfSteps", laid_strongbox_crc_halfSteps)], narrowed := true }
def CrcBurstsUptoSaid : Prop := crcBurstsUptoRow.holds Tryd.pinned (OpenSpec.upto crcBurstsSpec)

/-- 'strongboxlaw4.CrcUnlike', WHERE WHAT IT READS IS OF BULK AT MOST 1048576: true; the input reads as it did. -/
def crcUnlikeUptoRow : OpenClaim := { program := "ytkpnhaaniljbgaadoor", sum := "f6c0141207a3414ce8fc1e35f9dd43fa3a9e0c63fb72105fdcf63af4debe5075", func := "strongbox/strongboxlaw4.CrcUnlike", spec := "crcUnlike", named := ["strongbox/crc.halfSteps"], apart := false, laid := [("strongbox/crc.halfSteps", laid_strongbox_crc_halfSteps)], narrowed := true }
def CrcUnlikeUptoSaid : Prop := crcUnlikeUptoRow.holds Tryd.pinned (OpenSpec.upto crcUnlikeSpec)

/-- 'strongboxlaw4.CrcParts', WHERE WHAT IT READS IS OF BULK AT MOST 1048576: true; the input reads as it did. -/
def crcPartsUptoRow : OpenClaim := { program := "ytkpnhaaniljbgaadoor", sum := "f6c0141207a3414ce8fc1e35f9dd43fa3a9e0c63fb72105fdcf63af4debe5075", func := "strongbox/strongboxlaw4.CrcParts", spec := "crcParts", named := ["strongbox/crc.halfSteps"], apart := false, laid := [("strongbox/crc.halfSteps", laid_strongbox_crc_halfSteps)], narrowed := true }
def CrcPartsUptoSaid : Prop := crcPartsUptoRow.holds Tryd.pinned (OpenSpec.upto crcPartsSpec)

end Rows
end Go.Proofs.YtkpnhaaniljbgaaDoor
