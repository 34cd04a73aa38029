/-
  The law MatrixThree of layer 2 (of three matrices the product is the same, whichever two are multiplied first) answers true for all rows of rows.
-/
import Derived.Test.YtehjcceimbpgoaaRows
import Derived.WalkKit
import Derived.ProofKit
import Derived.OpenShut
import Derived.ShutString
import Derived.ChangeOld
import Derived.Below
import Derived.Test.YtehjcceimbpgoaaOpen
namespace Go.Proofs.Ytehjcceimbpgoaa
namespace matrixThree
open Go.ChangeShapes Go.WideShapes Go.ChangeAt Go.RowKit Gf
set_option linter.unusedVariables false
attribute [local go_sem ↓] Go.wp_at_zero Go.wp_at_succ

theorem own : ownKnob Try.prog.godebug = none := by kernel_rfl
theorem laidOut : laidOutB Try.prog = true := by kernel_rfl

set_option maxRecDepth 100000 in
set_option maxHeartbeats 4000000 in
theorem core (a0 : Option Addr) (n0 c0 : Nat) (A0 : Nat → Option Addr) (L0 C0 : Nat → Nat) (F0 : Nat → Nat → Nat) (a1 : Option Addr) (n1 c1 : Nat) (A1 : Nat → Option Addr) (L1 C1 : Nat → Nat) (F1 : Nat → Nat → Nat) (a2 : Option Addr) (n2 c2 : Nat) (A2 : Nat → Option Addr) (L2 C2 : Nat → Nat) (F2 : Nat → Nat → Nat) (w : World)
    (h0 : Mat w a0 n0 A0 L0 C0 F0) (l0 : n0 ≤ maxLen) (h1 : Mat w a1 n1 A1 L1 C1 F1) (l1 : n1 ≤ maxLen) (h2 : Mat w a2 n2 A2 L2 C2 F2) (l2 : n2 ≤ maxLen) :
    Calls Try.prog 8 #[.slice a0 n0 c0, .slice a1 n1 c1, .slice a2 n2 c2] w fun e w' => e = .returned (.bool true) ∧ Below w.heap.size w w' := by
  have H0 : Hid (Mat w a0 n0 A0 L0 C0 F0) := h0
  have H1 : Hid (Mat w a1 n1 A1 L1 C1 F1) := h1
  have H2 : Hid (Mat w a2 n2 A2 L2 C2 F2) := h2
  clear h0 h1 h2
  go_enter Try.func8, Try.ntmps8
  go_wp2_with fail
  go_at_call 9
  refine (awake_any _).mono ?_
  rintro e w1 ⟨rfl, hb1⟩
  go_wp2_with fail
  go_at_call 17
  refine (small_any a0 n0 c0 A0 L0 C0 F0 w1 (H0.out.keep hb1) l0).mono ?_
  rintro e w' ⟨hs0, rfl⟩
  rcases hs0 with rfl | ⟨rfl, s0, t0⟩
  · go_wp2
    go_ret
    exact ⟨rfl, hb1⟩
  go_wp2_with fail
  go_at_call 17
  refine (small_any a1 n1 c1 A1 L1 C1 F1 w1 (H1.out.keep hb1) l1).mono ?_
  rintro e w' ⟨hs1, rfl⟩
  rcases hs1 with rfl | ⟨rfl, s1, t1⟩
  · go_wp2
    go_ret
    exact ⟨rfl, hb1⟩
  go_wp2_with fail
  go_at_call 17
  refine (small_any a2 n2 c2 A2 L2 C2 F2 w1 (H2.out.keep hb1) l2).mono ?_
  rintro e w' ⟨hs2, rfl⟩
  rcases hs2 with rfl | ⟨rfl, s2, t2⟩
  · go_wp2
    go_ret
    exact ⟨rfl, hb1⟩
  clear t0 t1 t2
  go_wp2_with fail
  go_at_call 11
  refine (mxMul_any a0 a1 n0 n1 c0 c1 A0 A1 L0 L1 C0 C1 F0 F1 w1 (H0.out.keep hb1) (H1.out.keep hb1) l0 l1).mono ?_
  rintro e w2 ⟨hx, hb2⟩
  have hb02 : Below w.heap.size w w2 := hb1.trans (hb2.mono hb1.size)
  have HX : Hid _ := hx
  rcases hx with ⟨f0, f1, f01, hx, rfl, ox⟩ | ⟨_, rfl⟩
  · have OX : Hid (Out w2 hx n0 (L1 0) (mm n1 F0 F1)) := ox
    have K0 : Hid (IsM n0 L0) := f0
    have K1 : Hid (IsM n1 L1) := f1
    have K01 : Hid (L0 0 = n1) := f01
    clear ox f0 f1 f01
    go_wp2_with fail
    go_at_call 11
    refine (mxMul_any a1 a2 n1 n2 c1 c2 A1 A2 L1 L2 C1 C2 F1 F2 w2 (H1.out.keep hb02) (H2.out.keep hb02) l1 l2).mono ?_
    rintro e w3 ⟨hy, hb3⟩
    have hb03 : Below w.heap.size w w3 := hb02.trans (hb3.mono hb02.size)
    rcases hy with ⟨_, f2, f12, hy, rfl, oy⟩ | ⟨_, rfl⟩
    · obtain ⟨AX, CX, mX, _, _⟩ := OX.out.keep hb3
      obtain ⟨AY, CY, mY, _, _⟩ := oy
      have lx := mX.lt
      have ly := mY.lt
      have g1 := K1.out
      have g2 := f2
      have cU := mxMul_yes (some ⟨hx, 0, none⟩) a2 n0 n2 n0 c2 AX A2 (fun _ => L1 0) L2 CX C2 (mm n1 F0 F1) F2 w3 mX (H2.out.keep hb03) (isM_const K0.out.1 K0.out.2.1 g1.2.2.1 g1.2.2.2.1) g2 f12
      have KV : Hid (∀ w4, Below w3.heap.size w3 w4 → Calls Try.prog 11 #[.slice a0 n0 c0, .slice (some ⟨hy, 0, none⟩) n1 n1] w4 fun e w' => ∃ h, e = .returned (.tuple #[.slice (some ⟨h, 0, none⟩) n0 n0, .bool true]) ∧ w4.heap.size ≤ h ∧ Out w' h n0 (L2 0) (mm n1 F0 (mm n2 F1 F2)) ∧ Below w4.heap.size w4 w') := fun w4 hb4 =>
        mxMul_yes a0 (some ⟨hy, 0, none⟩) n0 n1 c0 n1 A0 AY L0 (fun _ => L2 0) C0 CY F0 (mm n2 F1 F2) w4 (H0.out.keep (hb03.trans (hb4.mono hb03.size))) (mY.keep hb4) K0.out (isM_const g1.1 g1.2.1 g2.2.2.1 g2.2.2.2.1) K01.out
      clear mX mY g1 g2 f12 f2
      go_wp2_with fail
      go_at_call 11
      refine cU.mono ?_
      rintro e w4 ⟨hu, rfl, _, ou, hb4⟩
      have OU : Hid (Out w4 hu n0 (L2 0) (mm n2 (mm n1 F0 F1) F2)) := ou
      clear cU ou
      go_wp2_with fail
      go_at_call 11
      refine (KV.out w4 hb4).mono ?_
      rintro e w5 ⟨hv, rfl, _, ov, hb5⟩
      obtain ⟨AU, CU, mU, _, _⟩ := OU.out.keep hb5
      obtain ⟨AV, CV, mV, _, _⟩ := ov
      have cS := rsame_yes (some ⟨hu, 0, none⟩) (some ⟨hv, 0, none⟩) n0 n0 n0 AU AV (fun _ => L2 0) (fun _ => L2 0) CU CV _ _ w5 mU mV l0 (fun i hi => ⟨rfl, fun j hj => mm_assoc H0.out.lt H1.out.lt H2.out.lt i j⟩)
      have hb05 : Below w.heap.size w w5 := hb03.trans ((hb4.mono hb03.size).trans (hb5.mono (Nat.le_trans hb03.size hb4.size)))
      clear mU mV KV lx ly
      go_wp2_with fail
      go_at_call 19
      refine cS.mono ?_
      rintro e w6 ⟨rfl, k6, rfl⟩
      go_wp2
      go_ret
      exact ⟨rfl, below_drewN hb05 _⟩
    · go_wp2
      go_ret
      exact ⟨rfl, hb03⟩
  · go_wp2_with fail
    go_at_call 11
    refine (mxMul_any a1 a2 n1 n2 c1 c2 A1 A2 L1 L2 C1 C2 F1 F2 w2 (H1.out.keep hb02) (H2.out.keep hb02) l1 l2).mono ?_
    rintro e w3 ⟨hy, hb3⟩
    have hb03 : Below w.heap.size w w3 := hb02.trans (hb3.mono hb02.size)
    rcases hy with ⟨_, _, _, hy, rfl, oy⟩ | ⟨_, rfl⟩
    · go_wp2
      go_ret
      exact ⟨rfl, hb03⟩
    · go_wp2
      go_ret
      exact ⟨rfl, hb03⟩


set_option maxRecDepth 100000 in
theorem lifted (os : Os) (started : os.Started) (H : Type) (enc : TypeId × Value → H) :
    ReturnsInHanded {} Try.checked os 8 .any (Rows.matrixThreeSpec.pre6 enc Try.prog Try.f8 Rows.matrixThreeRow.domain false) (Rows.matrixThreeSpec.post enc Try.prog Try.f8 false true false false) := by
  refine returnsInHanded_of_change (C := Try.checked) own started (by kernel_rfl) Try.func8
    (ChangeSpec.witness6 (enc := enc) (C := Try.checked) false ⟨#[], #[.slice none 0 0, .slice none 0 0, .slice none 0 0], []⟩ 8 (by kernel_rfl) (by kernel_rfl) (by kernel_rfl) (by kernel_rfl)) ?_
  intro W base args ds gs before hval0 hW hcnd _
  have hval : ∀ (j : Nat) t v, Try.f8.params[j]? = some t → args[j]? = some v → Value.okWide Try.prog W .any base t v := hval0
  have hW' := hW
  obtain ⟨p, q, hA0, hV, rfl, hfz, hnd⟩ := hW
  have hA : DataW.TrodAll enc Try.prog W 0 (fun _ => true) true Try.f8.params.toList args.toList ds p := hA0
  rw [Try.params8] at hA hval
  obtain ⟨v0, vs0, d0, ds0, p0, q0, hargs, rfl, rfl, h0, r0⟩ := trodAll_cons hA
  obtain ⟨v1, vs1, d1, ds1, p1, q1, rfl, rfl, rfl, h1, r1⟩ := trodAll_cons r0
  obtain ⟨v2, vs2, d2, ds2, p2, q2, rfl, rfl, rfl, h2, r2⟩ := trodAll_cons r1
  obtain ⟨rfl, rfl, rfl⟩ := trodAll_nil r2
  obtain rfl : args = #[v0, v1, v2] := by cases args; simp_all
  obtain ⟨rfl, rfl⟩ := trodVars_none hV
  obtain ⟨a0, len0, cap0, rfl⟩ := okWide_slice Try.underlying23 (hval 0 23 v0 rfl rfl)
  have k0 := h0
  have lt0 : ∀ x ∈ p0, x.block < W.heap.size := by obtain ⟨m, hm⟩ := k0; exact DataW.trod_lt m _ _ _ hm
  obtain ⟨A0, L0, C0, F0, m0, e0⟩ := open_mat h0
  obtain ⟨a1, len1, cap1, rfl⟩ := okWide_slice Try.underlying23 (hval 1 23 v1 rfl rfl)
  have k1 := h1
  have lt1 : ∀ x ∈ p1, x.block < W.heap.size := by obtain ⟨m, hm⟩ := k1; exact DataW.trod_lt m _ _ _ hm
  obtain ⟨A1, L1, C1, F1, m1, e1⟩ := open_mat h1
  obtain ⟨a2, len2, cap2, rfl⟩ := okWide_slice Try.underlying23 (hval 2 23 v2 rfl rfl)
  have k2 := h2
  have lt2 : ∀ x ∈ p2, x.block < W.heap.size := by obtain ⟨m, hm⟩ := k2; exact DataW.trod_lt m _ _ _ hm
  obtain ⟨A2, L2, C2, F2, m2, e2⟩ := open_mat h2
  clear hA0 hval0
  refine (core a0 len0 cap0 A0 L0 C0 F0 a1 len1 cap1 A1 L1 C1 F1 a2 len2 cap2 A2 L2 C2 F2 W m0 e0 m1 e1 m2 e2).mono fun e W' ⟨he, bel⟩ => ?_
  subst he
  exact ⟨_, rfl, _, _, _, [], _, [], hW', trodAll_mk1 (shut_bool Try.underlying4 _), (trodAll_cons_mk (Below.trod laidOut (by kernel_rfl) (of_decide_eq_true (by kernel_rfl)) k0 bel lt0) (trodAll_cons_mk (Below.trod laidOut (by kernel_rfl) (of_decide_eq_true (by kernel_rfl)) k1 bel lt1) (trodAll_cons_mk (Below.trod laidOut (by kernel_rfl) (of_decide_eq_true (by kernel_rfl)) k2 bel lt2) trodAll_mk0))), rfl, bel.frame _, fun h => by cases h⟩

theorem over : Rows.matrixThreeRow.holds Try.pinned (OpenSpec.ofChange Rows.matrixThreeSpec) :=
  OpenClaim.holds_of_wide 8 Try.f8 rfl rfl rfl rfl rfl rfl rfl ⟨rfl, rfl, rfl, rfl, rfl⟩ rfl rfl rfl rfl rfl (by kernel_rfl) Try.func8 (by kernel_rfl)
    (of_decide_eq_true (by kernel_rfl)) (by unfold Func.isWrapper; first | (rw [if_pos (by decide +kernel)]; kernel_rfl) | (rw [if_neg (by decide +kernel)]; exact ⟨rfl, rfl⟩))
    (fun os started H enc _ => lifted os started H enc)

end matrixThree

/-- The statement. -/
theorem matrixThree_holds : Rows.MatrixThreeSaid := matrixThree.over
#print axioms matrixThree_holds
end Go.Proofs.Ytehjcceimbpgoaa
