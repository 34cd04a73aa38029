/-
  Chapter 10's example; what is full, offline, blown, not there. No condition.
-/
import Derived.Test.YthkhkijdehbbmaaRows
import Derived.WalkKit
import Derived.ProofKit
import Derived.OpenShut
import Derived.ShutString
import Derived.ChangeOld
import Derived.Below
import Derived.SizedLaws
import Derived.ChangeSame
import Derived.ChangeMaps5
import Derived.Test.YthkhkijdehbbmaaSmX
set_option maxRecDepth 100000
namespace Go.Proofs.Ythkhkijdehbbmaa
namespace diskKnown
open Go.ChangeShapes Go.WideShapes Go.ChangeAt Go.RowKit
open _root_.Go.Proofs.Ythkhkijdehbbmaa.Nm _root_.Go.Proofs.Ythkhkijdehbbmaa.Dk
set_option linter.unusedVariables false
attribute [local go_sem ↓] Go.wp_at_zero Go.wp_at_succ

theorem own : ownKnob Try.prog.godebug = none := by kernel_rfl
theorem laidOut : laidOutB Try.prog = true := by kernel_rfl

def kA : ByteArray := ⟨#[97]⟩
def kB : ByteArray := ⟨#[98]⟩
def kC : ByteArray := ⟨#[99]⟩
def kZ : ByteArray := ⟨#[122, 122]⟩
def kE : ByteArray := ⟨#[]⟩
def kXYZ : ByteArray := ⟨#[120, 121, 122]⟩
def kSix : ByteArray := ⟨#[49, 50, 51, 52, 53, 54]⟩
def kS0 : St := ⟨[], 5, false, 0⟩
def kS1 : St := ⟨[⟨kA, kXYZ, false⟩], 5, false, 0⟩
def kS2 : St := ⟨[⟨kB, kXYZ, false⟩], 5, false, 0⟩
def kS3 : St := ⟨[⟨kB, kE, true⟩], 5, false, 0⟩
def kS4 : St := ⟨[⟨kB, kE, true⟩], 5, false, 1⟩
def kS5 : St := ⟨[⟨kB, kE, true⟩], 5, true, 0⟩
def kN (n : Int) : Option Fz := some ⟨0, n, false⟩
theorem k0 : wriZ (kN 0) kS0 kA kXYZ = (0, kS1) := by rfl
theorem k0z : (askZ (kN 0) kS0 [kA]).2.1 = (kN 1) := by rfl
theorem k1 : renZ (kN 1) kS1 kA kB = (0, kS2) := by rfl
theorem k1z : (askZ (kN 1) kS1 [kA, kB]).2.1 = (kN 2) := by rfl
theorem k2 : ({ kS2 with fs := crashS 0 kS2.fs } : St) = kS3 := by rfl
theorem k3 : readZ (kN 2) kS3 kB = (kE, 0) := by rfl
theorem k3z : (askZ (kN 2) kS3 [kB]).2.1 = (kN 3) := by rfl
theorem k3s : (askZ (kN 2) kS3 [kB]).2.2 = kS3 := by rfl
theorem k4 : wriZ (kN 3) kS3 kC kSix = (8, kS3) := by rfl
theorem k4z : (askZ (kN 3) kS3 [kC]).2.1 = (kN 4) := by rfl
theorem k5 : synZ (kN 4) kS3 kZ = (6, kS3) := by rfl
theorem k5z : (askZ (kN 4) kS3 [kZ]).2.1 = (kN 5) := by rfl
theorem k6 : delZ (kN 5) kS3 kE = (1, kS3) := by rfl
theorem k6z : (askZ (kN 5) kS3 [kE]).2.1 = (kN 6) := by rfl
theorem k7 : ({ kS3 with bad := max 1 0 } : St) = kS4 := by rfl
theorem k8 : delZ (kN 6) kS4 kB = (9, kS3) := by rfl
theorem k8z : (askZ (kN 6) kS4 [kB]).2.1 = (kN 7) := by rfl
theorem k9 : ({ kS3 with off := true } : St) = kS5 := by rfl
theorem k10 : lisZ (kN 7) kS5 kE = ([], 10) := by rfl
theorem k10z : (askZ (kN 7) kS5 []).2.1 = (kN 8) := by rfl
theorem k10s : (askZ (kN 7) kS5 []).2.2 = kS5 := by rfl
theorem k11 : ({ kS5 with off := false } : St) = kS3 := by rfl
theorem k13 : lisZ (some ⟨2, 0, false⟩) kS3 kE = ([kB], 0) := by rfl
theorem k13z : (askZ (some ⟨2, 0, false⟩) kS3 []).2.1 = (some ⟨2, 1, false⟩) := by rfl
theorem k13s : (askZ (some ⟨2, 0, false⟩) kS3 []).2.2 = kS3 := by rfl
theorem k14 : readZ (some ⟨2, 1, false⟩) kS3 kB = (kE, 0) := by rfl
theorem k14z : (askZ (some ⟨2, 1, false⟩) kS3 [kB]).2.1 = (some ⟨2, 2, true⟩) := by rfl
theorem k14s : (askZ (some ⟨2, 1, false⟩) kS3 [kB]).2.2 = kS3 := by rfl
theorem k16 : readZ (some ⟨2, 2, true⟩) kS3 kB = (kE, 20) := by rfl
theorem k16z : (askZ (some ⟨2, 2, true⟩) kS3 [kB]).2.1 = (some ⟨2, 2, true⟩) := by rfl
theorem k16s : (askZ (some ⟨2, 2, true⟩) kS3 [kB]).2.2 = kS3 := by rfl
theorem kb (z : Fz) (h : 0 ≤ z.done ∧ z.done ≤ 100) : Zb (some z) := fun y e => by
  injection e with e
  subst e
  exact ⟨h.1, by have := h.2; omega⟩
theorem k_mr (a : Addr) (w : World) : (method 252 25 (.pointer (some a)) "Room").run Try.prog w = .ok (33, .pointer (some a)) w := by kernel_rfl
theorem k_ta (a : Option Addr) (w : World) : (Instr.typeAssert (.iface 25 (.pointer a)) 40 42 true).run Try.prog w = .ok (.tuple #[.iface 25 (.pointer a), .bool true]) w := by kernel_rfl
theorem litkXYZ (w : World) : Inp (w.alloc (.cells #[.int .u8 120, .int .u8 121, .int .u8 122] 5 (3, 4))) (some ⟨w.heap.size, 0, none⟩) 3 3 kXYZ := by
  have hf : ∀ i, (if i = 0 then 120 else if i = 1 then 121 else 122 : Nat) < 256 := fun i => by split <;> (try split) <;> (try split) <;> (try split) <;> (try split) <;> omega
  refine ⟨⟨fun i => if i = 0 then 120 else if i = 1 then 121 else 122, hf, ⟨hf, fun _ => ⟨w.heap.size, 0, rfl, fun i hi => ?_⟩⟩, by rfl⟩, rfl, fun e => by cases e⟩
  match i, hi with
  | 0, _ => exact cell_of_row _ w.heap.size 0 _ _ _ (heap_alloc_new _ _)
  | 1, _ => exact cell_of_row _ w.heap.size 1 _ _ _ (heap_alloc_new _ _)
  | 2, _ => exact cell_of_row _ w.heap.size 2 _ _ _ (heap_alloc_new _ _)

theorem litkSix (w : World) : Inp (w.alloc (.cells #[.int .u8 49, .int .u8 50, .int .u8 51, .int .u8 52, .int .u8 53, .int .u8 54] 5 (6, 7))) (some ⟨w.heap.size, 0, none⟩) 6 6 kSix := by
  have hf : ∀ i, (if i = 0 then 49 else if i = 1 then 50 else if i = 2 then 51 else if i = 3 then 52 else if i = 4 then 53 else 54 : Nat) < 256 := fun i => by split <;> (try split) <;> (try split) <;> (try split) <;> (try split) <;> omega
  refine ⟨⟨fun i => if i = 0 then 49 else if i = 1 then 50 else if i = 2 then 51 else if i = 3 then 52 else if i = 4 then 53 else 54, hf, ⟨hf, fun _ => ⟨w.heap.size, 0, rfl, fun i hi => ?_⟩⟩, by rfl⟩, rfl, fun e => by cases e⟩
  match i, hi with
  | 0, _ => exact cell_of_row _ w.heap.size 0 _ _ _ (heap_alloc_new _ _)
  | 1, _ => exact cell_of_row _ w.heap.size 1 _ _ _ (heap_alloc_new _ _)
  | 2, _ => exact cell_of_row _ w.heap.size 2 _ _ _ (heap_alloc_new _ _)
  | 3, _ => exact cell_of_row _ w.heap.size 3 _ _ _ (heap_alloc_new _ _)
  | 4, _ => exact cell_of_row _ w.heap.size 4 _ _ _ (heap_alloc_new _ _)
  | 5, _ => exact cell_of_row _ w.heap.size 5 _ _ _ (heap_alloc_new _ _)

set_option maxHeartbeats 8000000 in
theorem core (w0 : World) : Calls Try.prog 3 #[] w0 fun e w' => e = .returned (.bool true) ∧ Below w0.heap.size w0 w' := by
  have cA := awake_any w0
  go_enter Try.func3, Try.ntmps3
  go_wp2_with fail
  go_at_call 9
  refine cA.mono ?_
  rintro e w ⟨rfl, b0⟩
  clear cA
  have cN := newfuse_any w
  have HB0 : Hid (Below w0.heap.size w0 w) := b0
  clear b0
  go_wp2_with fail
  go_at_call 10
  refine cN.mono ?_
  rintro e w1 ⟨rfl, hz1, b1⟩
  clear cN
  obtain ⟨k, hk⟩ : ∃ k, w.heap.size = k := ⟨_, rfl⟩
  rw [hk] at hz1
  have cW := on_new w0 w1 (HB0.out.trans (b1.mono HB0.out.size)) (some k) (kN 0) hz1 (fun j e => by injection e with e; have := HB0.out.size; omega) 5 (by decide) (by decide)
  rw [show newSt 5 = kS0 from rfl] at cW
  dsimp only [Option.map] at cW
  clear hz1 b1
  go_wp2_with fail
  go_at_call 11
  refine cW.mono ?_
  rintro e x0 ⟨rfl, h0, _⟩
  obtain ⟨m, hm⟩ : ∃ m, w1.heap.size = m := ⟨_, rfl⟩
  rw [hm] at h0
  clear cW
  obtain ⟨y0, hy0⟩ : ∃ y, x0.alloc (.cells #[.int .u8 120, .int .u8 121, .int .u8 122] 5 (3, 4)) = y := ⟨_, rfl⟩
  have cs : Sem.run Try.prog (convert 29 29 (.slice (some ⟨x0.heap.size, 0, none⟩) 3 3)) (x0.alloc (.cells #[.int .u8 120, .int .u8 121, .int .u8 122] 5)) = .ok (.slice (some ⟨x0.heap.size, 0, none⟩) 3 3) y0 := by rw [← hy0]; exact Lib.run_convert_bytes_const (P := Try.prog) x0 29 5 #[.int .u8 120, .int .u8 121, .int .u8 122] 3 3 Try.underlying29 Try.underlying5
  have bb : Below x0.heap.size x0 y0 := by rw [← hy0]; exact bal _ _
  have hi := litkXYZ x0
  rw [hy0] at hi
  have c0 := on_write (h0.keep bb) (kb _ ⟨by decide, by decide⟩) (x := kA) (show kA.size ≤ maxLen by decide) hi (by decide)
  rw [k0, k0z] at c0
  clear h0 bb hi hy0
  go_wp2_with fail
  go_at_call 12
  refine c0.mono ?_
  rintro e x1 ⟨rfl, h1, _⟩
  clear c0 cs
  have c1 := on_rename h1 (kb _ ⟨by decide, by decide⟩) (x := kA) (y := kB) (show kA.size ≤ maxLen by decide) (show kB.size ≤ maxLen by decide)
  rw [k1, k1z] at c1
  clear h1
  go_wp2_with fail
  go_at_call 13
  refine c1.mono ?_
  rintro e x2 ⟨rfl, h2, _⟩
  clear c1
  have c2 := on_crash h2 (k := 0) (by decide) (by decide)
  rw [k2] at c2
  clear h2
  go_wp2_with fail
  go_at_call 14
  refine c2.mono ?_
  rintro e x3 ⟨rfl, h3, _⟩
  clear c2
  have c3 := on_read h3 (kb _ ⟨by decide, by decide⟩) (x := kB) (show kB.size ≤ maxLen by decide)
  rw [k3, k3z, k3s] at c3
  clear h3
  go_wp2_with fail
  go_at_call 15
  refine c3.mono ?_
  rintro e x4 ⟨ra3, rn3, rc3, rfl, HH3⟩
  have h4 := HH3.out.2.1
  have rl3 : rn3 = 0 := HH3.out.1.len
  subst rl3
  clear c3
  dsimp only
  obtain ⟨y4, hy4⟩ : ∃ y, x4.alloc (.cells #[.int .u8 49, .int .u8 50, .int .u8 51, .int .u8 52, .int .u8 53, .int .u8 54] 5 (6, 7)) = y := ⟨_, rfl⟩
  have cs : Sem.run Try.prog (convert 29 29 (.slice (some ⟨x4.heap.size, 0, none⟩) 6 6)) (x4.alloc (.cells #[.int .u8 49, .int .u8 50, .int .u8 51, .int .u8 52, .int .u8 53, .int .u8 54] 5)) = .ok (.slice (some ⟨x4.heap.size, 0, none⟩) 6 6) y4 := by rw [← hy4]; exact Lib.run_convert_bytes_const (P := Try.prog) x4 29 5 #[.int .u8 49, .int .u8 50, .int .u8 51, .int .u8 52, .int .u8 53, .int .u8 54] 6 6 Try.underlying29 Try.underlying5
  have bb : Below x4.heap.size x4 y4 := by rw [← hy4]; exact bal _ _
  have hi := litkSix x4
  rw [hy4] at hi
  have c4 := on_write (h4.keep bb) (kb _ ⟨by decide, by decide⟩) (x := kC) (show kC.size ≤ maxLen by decide) hi (by decide)
  rw [k4, k4z] at c4
  clear h4 bb hi hy4
  go_wp2_with fail
  go_at_call 12
  refine c4.mono ?_
  rintro e x5 ⟨rfl, h5, _⟩
  clear c4 cs
  have c5 := on_sync h5 (kb _ ⟨by decide, by decide⟩) (x := kZ) (show kZ.size ≤ maxLen by decide)
  rw [k5, k5z] at c5
  clear h5
  go_wp2_with fail
  go_at_call 16
  refine c5.mono ?_
  rintro e x6 ⟨rfl, h6, _⟩
  clear c5
  have c6 := on_delete h6 (kb _ ⟨by decide, by decide⟩) (x := kE) (show kE.size ≤ maxLen by decide)
  rw [k6, k6z] at c6
  clear h6
  go_wp2_with fail
  go_at_call 17
  refine c6.mono ?_
  rintro e x7 ⟨rfl, h7, _⟩
  clear c6
  have c7 := on_fail h7 (n := 1) (by decide) (by decide)
  rw [k7] at c7
  clear h7
  go_wp2_with fail
  go_at_call 18
  refine c7.mono ?_
  rintro e x8 ⟨rfl, h8, _⟩
  clear c7
  have c8 := on_delete h8 (kb _ ⟨by decide, by decide⟩) (x := kB) (show kB.size ≤ maxLen by decide)
  rw [k8, k8z] at c8
  clear h8
  go_wp2_with fail
  go_at_call 17
  refine c8.mono ?_
  rintro e x9 ⟨rfl, h9, _⟩
  clear c8
  have c9 := on_offline h9 true
  rw [k9] at c9
  clear h9
  go_wp2_with fail
  go_at_call 19
  refine c9.mono ?_
  rintro e x10 ⟨rfl, h10, _⟩
  clear c9
  have c10 := on_list h10 (kb _ ⟨by decide, by decide⟩) (x := kE) (show kE.size ≤ maxLen by decide)
  rw [k10, k10z, k10s] at c10
  clear h10
  go_wp2_with fail
  go_at_call 20
  refine c10.mono ?_
  rintro e x11 ⟨rv10, rM10, rfl, HH10⟩
  have h11 := HH10.out.2.2.1
  clear c10
  dsimp only
  have c11 := on_offline h11 false
  rw [k11] at c11
  clear h11
  go_wp2_with fail
  go_at_call 19
  refine c11.mono ?_
  rintro e x12 ⟨rfl, h12, _⟩
  clear c11
  have c12 := on_set h12 2
  clear h12
  go_wp2_with fail
  go_at_call 21
  refine c12.mono ?_
  rintro e x13 ⟨rfl, h13, _⟩
  clear c12
  have c13 := on_list h13 (kb _ ⟨by decide, by decide⟩) (x := kE) (show kE.size ≤ maxLen by decide)
  rw [k13, k13z, k13s] at c13
  clear h13
  go_wp2_with fail
  go_at_call 20
  refine c13.mono ?_
  rintro e x14 ⟨rv13, rM13, rfl, HH13⟩
  have h14 := HH13.out.2.2.1
  clear c13
  dsimp only
  have c14 := on_read h14 (kb _ ⟨by decide, by decide⟩) (x := kB) (show kB.size ≤ maxLen by decide)
  rw [k14, k14z, k14s] at c14
  clear h14
  go_wp2_with fail
  go_at_call 15
  refine c14.mono ?_
  rintro e x15 ⟨ra14, rn14, rc14, rfl, HH14⟩
  have h15 := HH14.out.2.1
  have rl14 : rn14 = 0 := HH14.out.1.len
  subst rl14
  clear c14
  dsimp only
  have c15 := blown_any (some k) _ x15 h15.fz
  dsimp only [Option.map] at c15
  rw [show blB (some ⟨2, 2, true⟩) = true from rfl] at c15
  have H15 : Hid (On w0 x15 (m + 1) m (some k) kS3 (some ⟨2, 2, true⟩)) := h15
  clear h15
  go_wp2_with fail
  go_at_call 22
  refine c15.mono ?_
  rintro e x16 ⟨rfl, dn, rfl⟩
  have h16 := H15.out.keep (bdn' _ dn)
  clear c15
  have c16 := on_read h16 (kb _ ⟨by decide, by decide⟩) (x := kB) (show kB.size ≤ maxLen by decide)
  rw [k16, k16z, k16s] at c16
  clear h16
  go_wp2_with fail
  go_at_call 15
  refine c16.mono ?_
  rintro e x17 ⟨ra16, rn16, rc16, rfl, HH16⟩
  have h17 := HH16.out.2.1
  have rl16 : rn16 = 0 := HH16.out.1.len
  subst rl16
  clear c16
  dsimp only
  have cR := on_room h17
  have hu : kS3.most - ((used kS3.fs : Nat) : Int) = 5 := by rfl
  rw [hu] at cR
  have ta := k_ta (some ⟨m + 1, 0, none⟩) x17
  have mr := k_mr ⟨m + 1, 0, none⟩ x17
  have HL : Hid (On w0 x17 (m + 1) m (some k) kS3 (some ⟨2, 2, true⟩)) := h17
  have cO : ∀ n, Calls Try.prog 23 #[.pointer (some ⟨k, 0, none⟩)] (x17.drewN n) fun e w' => e = .returned (.int .i64 2) ∧ w' = x17.drewN n := fun n => ops_any k ⟨2, 2, true⟩ (x17.drewN n) (h17.fz.keep (bdn' _ n))
  clear h17 hu
  go_wp2_with fail
  go_at_call 33
  refine cR.mono ?_
  rintro e x ⟨rfl, dn, rfl⟩
  have cO := cO dn
  clear cR
  go_wp2_with fail
  go_at_call 23
  refine cO.mono ?_
  rintro e x ⟨rfl, rfl⟩
  clear cO
  go_wp2
  go_ret
  exact ⟨rfl, (HL.out.keep (bdn' _ dn)).b⟩


set_option maxRecDepth 100000 in
theorem lifted (os : Os) (started : os.Started) (H : Type) (enc : TypeId × Value → H) :
    ReturnsInHanded {} Try.checked os 3 .any (Rows.diskKnownSpec.pre6 enc Try.prog Try.f3 Rows.diskKnownRow.domain false) (Rows.diskKnownSpec.post enc Try.prog Try.f3 false true false false) := by
  refine returnsInHanded_of_change_sized (C := Try.checked) own started (by kernel_rfl) Try.func3
    (ChangeSpec.witness6 (enc := enc) (C := Try.checked) false ⟨#[], #[], []⟩ 8 (by kernel_rfl) (by kernel_rfl) (by kernel_rfl) (by kernel_rfl)) ?_
  intro W base args ds gs before hval0 hW hcnd hsz0 _
  have hval : ∀ (j : Nat) t v, Try.f3.params[j]? = some t → args[j]? = some v → Value.okWide Try.prog W .any base t v := hval0
  have hsz : (DataW.weightsEach Try.prog (Try.f3.params.toList ++ Rows.diskKnownSpec.plain.varTypes Try.prog) (ds ++ gs)).all (· ≤ reachBytes) = true := hsz0
  have hW' := hW
  obtain ⟨p, q, hA0, hV, rfl, hfz, hnd⟩ := hW
  have hA : DataW.TrodAll enc Try.prog W 0 (fun _ => true) true Try.f3.params.toList args.toList ds p := hA0
  rw [Try.params3] at hA hval hsz
  obtain ⟨hargs, rfl, rfl⟩ := trodAll_nil hA
  obtain rfl : args = #[] := by cases args; simp_all
  obtain ⟨rfl, rfl⟩ := trodVars_none hV
  clear hA0 hval0 hsz0
  refine (core  W ).mono fun e W' ⟨he, bel⟩ => ?_
  subst he
  exact ⟨_, rfl, _, _, _, [], _, [], hW', trodAll_mk1 (shut_bool Try.underlying4 _), trodAll_mk0, rfl, bel.frame _, fun h => by cases h⟩

theorem over : Rows.diskKnownRow.holds Try.pinned (OpenSpec.ofChange Rows.diskKnownSpec) :=
  OpenClaim.holds_of_wide 3 Try.f3 rfl rfl rfl rfl rfl rfl rfl ⟨rfl, rfl, rfl, rfl, rfl⟩ rfl rfl rfl rfl rfl (by kernel_rfl) Try.func3 (by kernel_rfl)
    (of_decide_eq_true (by kernel_rfl)) (by unfold Func.isWrapper; first | (rw [if_pos (by decide +kernel)]; kernel_rfl) | (rw [if_neg (by decide +kernel)]; exact ⟨rfl, rfl⟩))
    (fun os started H enc _ => lifted os started H enc)

end diskKnown

/-- The statement. -/
theorem diskKnown_holds : Rows.DiskKnownSaid := diskKnown.over
#print axioms diskKnown_holds
end Go.Proofs.Ythkhkijdehbbmaa
