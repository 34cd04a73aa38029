/-
  The law MatrixInverts of layer 2 (a square matrix times its inverse, either way round, is the unit; what was handed in is not changed) answers true for all rows of rows.
-/
import Derived.Test.YtehjcceimbpgoaaRows
import Derived.WalkKit
import Derived.ProofKit
import Derived.OpenShut
import Derived.ShutString
import Derived.ChangeOld
import Derived.Below
import Derived.Test.YtehjcceimbpgoaaRefMx
namespace Go.Proofs.Ytehjcceimbpgoaa
namespace matrixInverts
open Go.ChangeShapes Go.WideShapes Go.ChangeAt Go.RowKit Gf
set_option linter.unusedVariables false
attribute [local go_sem ↓] Go.wp_at_zero Go.wp_at_succ

theorem own : ownKnob Try.prog.godebug = none := by kernel_rfl
theorem laidOut : laidOutB Try.prog = true := by kernel_rfl

theorem rsame_bel (a a' : Option Addr) (n c c' : Nat) (A A' : Nat → Option Addr) (L L' C C' : Nat → Nat) (F F' : Nat → Nat → Nat) (w : World) (h : Mat w a n A L C F) (h' : Mat w a' n A' L' C' F') (hn : n ≤ maxLen) (hq : Alike n L L' F F') :
    Calls Try.prog 19 #[.slice a n c, .slice a' n c'] w fun e w' => e = .returned (.bool true) ∧ Below w.heap.size w w' := by
  refine (rsame_yes a a' n c c' A A' L L' C C' F F' w h h' hn hq).mono ?_
  rintro e w' ⟨rfl, m, rfl⟩
  exact ⟨rfl, below_drewN (Below.refl _ _) m⟩

theorem hop {w a b c : World} (h : Below a.heap.size a b) (k : Below b.heap.size b c) : Below a.heap.size a c := h.trans (k.mono h.size)

set_option maxRecDepth 100000 in
set_option maxHeartbeats 4000000 in
theorem core (a0 : Option Addr) (n0 c0 : Nat) (A0 : Nat → Option Addr) (L0 C0 : Nat → Nat) (F0 : Nat → Nat → Nat) (w : World) (h0 : Mat w a0 n0 A0 L0 C0 F0) (l0 : n0 ≤ maxLen) :
    Calls Try.prog 4 #[.slice a0 n0 c0] w fun e w' => e = .returned (.bool true) ∧ Below w.heap.size w w' := by
  have H0 : Hid (Mat w a0 n0 A0 L0 C0 F0) := h0
  clear h0
  go_enter Try.func4, Try.ntmps4
  go_wp2_with fail
  go_at_call 9
  refine (awake_any _).mono ?_
  rintro e w1 ⟨rfl, b1⟩
  go_wp2_with fail
  go_at_call 17
  refine (small_any a0 n0 c0 A0 L0 C0 F0 w1 (H0.out.keep b1) l0).mono ?_
  rintro e w' ⟨hs0, rfl⟩
  rcases hs0 with rfl | ⟨rfl, s0, t0⟩
  · go_wp2
    go_ret
    exact ⟨rfl, b1⟩
  have T0 : Hid (∀ i, i < n0 → L0 i ≤ 40) := t0
  clear t0
  go_wp2_with fail
  go_at_call 18
  refine (copy_any a0 n0 c0 A0 L0 C0 F0 w1 (H0.out.keep b1) (by omega) (fun i hi => by have := T0.out i hi; omega)).mono ?_
  rintro e w2 ⟨v, rfl, hbl, b2⟩
  obtain ⟨AW, CW, hbl⟩ := hbl
  obtain ⟨aw, cw, rfl⟩ := hbl.form
  have MW : Hid (Mat w2 aw n0 AW L0 CW F0) := hbl.mat H0.out.le H0.out.lt
  clear hbl
  have b02 := hop (w := w) b1 b2
  go_wp2_with fail
  go_at_call 10
  refine (invert_any a0 n0 c0 A0 L0 C0 F0 w2 (H0.out.keep b02) l0).mono ?_
  rintro e w3 ⟨hcase, b3⟩
  have b03 := hop (w := w) b02 b3
  have cS := rsame_bel a0 aw n0 c0 cw A0 AW L0 L0 C0 CW F0 F0 w3 (H0.out.keep b03) (MW.out.keep b3) l0 (fun _ _ => ⟨rfl, fun _ _ => rfl⟩)
  clear MW
  rcases hcase with ⟨rfl, _⟩ | ⟨hx, X, rfl, q1, q2, _, ox, iv⟩
  · go_wp2_with fail
    go_at_call 19
    refine cS.mono ?_
    rintro e w4 ⟨rfl, b4⟩
    clear cS
    have b04 := hop (w := w) b03 b4
    go_wp2
    go_ret
    exact ⟨rfl, b04⟩
  · have Q1 : Hid (IsM n0 L0) := q1
    have Q2 : Hid (n0 = L0 0) := q2
    have OX : Hid (Out w3 hx n0 n0 X) := ox
    have IV : Hid (IsInv n0 F0 X) := iv
    have u1 := q1.1
    have u2 := q1.2.1
    clear ox iv q1 q2
    go_wp2_with fail
    go_at_call 19
    refine cS.mono ?_
    rintro e w4 ⟨rfl, b4⟩
    clear cS
    have b04 := hop (w := w) b03 b4
    have O4 : Hid (Out w4 hx n0 n0 X) := OX.out.keep b4
    clear OX
    obtain ⟨AX, CX, mX, _, _⟩ := O4.out
    have lX := mX.lt
    have MX : Hid (Mat w4 (some ⟨hx, 0, none⟩) n0 AX (fun _ => n0) CX X) := mX
    clear mX
    have LX : Hid (B X) := lX
    clear lX
    go_wp2_with fail
    go_at_call 11
    refine (mxMul_yes a0 (some ⟨hx, 0, none⟩) n0 n0 c0 n0 A0 AX L0 (fun _ => n0) C0 CX F0 X w4 (H0.out.keep b04) MX.out Q1.out (isM_const u1 u2 u1 u2) Q2.out.symm).mono ?_
    rintro e w5 ⟨hy, rfl, _, oy, b5⟩
    have OY : Hid (Out w5 hy n0 n0 (mm n0 F0 X)) := oy
    clear oy
    have b05 := hop (w := w) b04 b5
    go_wp2_with fail
    go_at_call 11
    have eL : L0 0 = n0 := Q2.out.symm
    refine (mxMul_yes (some ⟨hx, 0, none⟩) a0 n0 n0 n0 c0 AX A0 (fun _ => n0) L0 CX C0 X F0 w5 (MX.out.keep b5) (H0.out.keep b05) (isM_const u1 u2 u1 u2) Q1.out rfl).mono ?_
    rintro e w6 ⟨hz, rfl, _, oz, b6⟩
    rw [eL] at oz
    have OZ : Hid (Out w6 hz n0 n0 (mm n0 X F0)) := oz
    clear oz eL
    have b06 := hop (w := w) b05 b6
    have b46 := hop (w := w) b5 b6
    go_wp2_with fail
    go_at_call 10
    refine (invert_any (some ⟨hx, 0, none⟩) n0 n0 AX (fun _ => n0) CX X w6 (MX.out.keep b46) l0).mono ?_
    rintro e w7 ⟨hcase, b7⟩
    rcases hcase with ⟨rfl, hno⟩ | ⟨hk, Y, rfl, _, _, _, oK, iK⟩
    · exfalso
      rcases hno with hno | hno
      · exact hno ⟨isM_const u1 u2 u1 u2, by first | rfl | trivial⟩
      · exact hno (IV.out.symm.inj LX.out H0.out.lt)
    have OK : Hid (Out w7 hk n0 n0 Y) := oK
    have EK : Hid (∀ i, i < n0 → ∀ j, j < n0 → Y i j = F0 i j) := iK.unique IV.out.symm LX.out oK.lt H0.out.lt
    clear oK iK
    have b07 := hop (w := w) b06 b7
    have b57 := hop (w := w) b6 b7
    go_wp2_with fail
    go_at_call 20
    refine (runit_any n0 w7 u1 u2).mono ?_
    rintro e w8 ⟨v8, rfl, hb8, b8⟩
    obtain ⟨A8, C8, hb8⟩ := hb8
    obtain ⟨a8, c8, rfl⟩ := hb8.form
    have M8 := hb8.mat (fun _ => by omega) one_B
    have b58 := hop (w := w) b57 b8
    obtain ⟨AY, CY, mY, _, _⟩ := OY.out.keep b58
    have cY := rsame_bel (some ⟨hy, 0, none⟩) a8 n0 n0 c8 AY A8 (fun _ => n0) (fun _ => n0) CY C8 _ one w8 mY M8 l0 (fun i hi => ⟨rfl, fun j hj => IV.out.right i hi j hj⟩)
    clear hb8 M8 mY OY
    go_wp2_with fail
    go_at_call 19
    refine cY.mono ?_
    rintro e w9 ⟨rfl, b9⟩
    clear cY
    go_wp2_with fail
    go_at_call 20
    refine (runit_any n0 w9 u1 u2).mono ?_
    rintro e w10 ⟨v10, rfl, hb10, b10⟩
    obtain ⟨A10, C10, hb10⟩ := hb10
    obtain ⟨a10, c10, rfl⟩ := hb10.form
    have M10 := hb10.mat (fun _ => by omega) one_B
    have b710 := hop (w := w) (hop (w := w) b8 b9) b10
    obtain ⟨AZ, CZ, mZ, _, _⟩ := OZ.out.keep (hop (w := w) b7 b710)
    have cZ := rsame_bel (some ⟨hz, 0, none⟩) a10 n0 n0 c10 AZ A10 (fun _ => n0) (fun _ => n0) CZ C10 _ one w10 mZ M10 l0 (fun i hi => ⟨rfl, fun j hj => IV.out.left i hi j hj⟩)
    clear hb10 M10 mZ OZ
    go_wp2_with fail
    go_at_call 19
    refine cZ.mono ?_
    rintro e w11 ⟨rfl, b11⟩
    clear cZ
    have b711 := hop (w := w) b710 b11
    have b011 := hop (w := w) b07 b711
    obtain ⟨AK, CK, mK, _, _⟩ := OK.out.keep b711
    have cK := rsame_bel (some ⟨hk, 0, none⟩) a0 n0 n0 c0 AK A0 (fun _ => n0) L0 CK C0 Y F0 w11 mK (H0.out.keep b011) l0 (fun i hi => ⟨by rw [Q1.out.2.2.2.2 i hi, ← Q2.out], fun j hj => EK.out i hi j hj⟩)
    clear mK OK
    go_wp2_with fail
    go_at_call 19
    refine cK.mono ?_
    rintro e w12 ⟨rfl, b12⟩
    have b012 := hop (w := w) b011 b12
    go_wp2
    go_ret
    exact ⟨rfl, b012⟩


set_option maxRecDepth 100000 in
theorem lifted (os : Os) (started : os.Started) (H : Type) (enc : TypeId × Value → H) :
    ReturnsInHanded {} Try.checked os 4 .any (Rows.matrixInvertsSpec.pre6 enc Try.prog Try.f4 Rows.matrixInvertsRow.domain false) (Rows.matrixInvertsSpec.post enc Try.prog Try.f4 false true false false) := by
  refine returnsInHanded_of_change (C := Try.checked) own started (by kernel_rfl) Try.func4
    (ChangeSpec.witness6 (enc := enc) (C := Try.checked) false ⟨#[], #[.slice none 0 0], []⟩ 8 (by kernel_rfl) (by kernel_rfl) (by kernel_rfl) (by kernel_rfl)) ?_
  intro W base args ds gs before hval0 hW hcnd _
  have hval : ∀ (j : Nat) t v, Try.f4.params[j]? = some t → args[j]? = some v → Value.okWide Try.prog W .any base t v := hval0
  have hW' := hW
  obtain ⟨p, q, hA0, hV, rfl, hfz, hnd⟩ := hW
  have hA : DataW.TrodAll enc Try.prog W 0 (fun _ => true) true Try.f4.params.toList args.toList ds p := hA0
  rw [Try.params4] at hA hval
  obtain ⟨v0, vs0, d0, ds0, p0, q0, hargs, rfl, rfl, h0, r0⟩ := trodAll_cons hA
  obtain ⟨rfl, rfl, rfl⟩ := trodAll_nil r0
  obtain rfl : args = #[v0] := by cases args; simp_all
  obtain ⟨rfl, rfl⟩ := trodVars_none hV
  obtain ⟨a0, len0, cap0, rfl⟩ := okWide_slice Try.underlying23 (hval 0 23 v0 rfl rfl)
  have k0 := h0
  have lt0 : ∀ x ∈ p0, x.block < W.heap.size := by obtain ⟨m, hm⟩ := k0; exact DataW.trod_lt m _ _ _ hm
  obtain ⟨A0, L0, C0, F0, m0, e0⟩ := open_mat h0
  clear hA0 hval0
  refine (core a0 len0 cap0 A0 L0 C0 F0 W m0 e0).mono fun e W' ⟨he, bel⟩ => ?_
  subst he
  exact ⟨_, rfl, _, _, _, [], _, [], hW', trodAll_mk1 (shut_bool Try.underlying4 _), (trodAll_cons_mk (Below.trod laidOut (by kernel_rfl) (of_decide_eq_true (by kernel_rfl)) k0 bel lt0) trodAll_mk0), rfl, bel.frame _, fun h => by cases h⟩

theorem over : Rows.matrixInvertsRow.holds Try.pinned (OpenSpec.ofChange Rows.matrixInvertsSpec) :=
  OpenClaim.holds_of_wide 4 Try.f4 rfl rfl rfl rfl rfl rfl rfl ⟨rfl, rfl, rfl, rfl, rfl⟩ rfl rfl rfl rfl rfl (by kernel_rfl) Try.func4 (by kernel_rfl)
    (of_decide_eq_true (by kernel_rfl)) (by unfold Func.isWrapper; first | (rw [if_pos (by decide +kernel)]; kernel_rfl) | (rw [if_neg (by decide +kernel)]; exact ⟨rfl, rfl⟩))
    (fun os started H enc _ => lifted os started H enc)

end matrixInverts

/-- The statement. -/
theorem matrixInverts_holds : Rows.MatrixInvertsSaid := matrixInverts.over
#print axioms matrixInverts_holds
end Go.Proofs.Ytehjcceimbpgoaa
