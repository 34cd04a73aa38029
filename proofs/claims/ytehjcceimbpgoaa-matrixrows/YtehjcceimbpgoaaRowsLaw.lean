/-
  The law MatrixRows of layer 2 (picked rows of a product are the product of the picked rows; of the unit they are the matrix itself) answers true for all rows of rows and all picks.
-/
import Derived.Test.YtehjcceimbpgoaaRows
import Derived.WalkKit
import Derived.ProofKit
import Derived.OpenShut
import Derived.ShutString
import Derived.ChangeOld
import Derived.Below
import Derived.Test.YtehjcceimbpgoaaInts
namespace Go.Proofs.Ytehjcceimbpgoaa
namespace matrixRows
open Go.ChangeShapes Go.WideShapes Go.ChangeAt Go.RowKit Gf
set_option linter.unusedVariables false
attribute [local go_sem ↓] Go.wp_at_zero Go.wp_at_succ

theorem own : ownKnob Try.prog.godebug = none := by kernel_rfl
theorem laidOut : laidOutB Try.prog = true := by kernel_rfl

theorem rsame_bel (a a' : Option Addr) (n c c' : Nat) (A A' : Nat → Option Addr) (L L' C C' : Nat → Nat) (F F' : Nat → Nat → Nat) (w : World) (h : Mat w a n A L C F) (h' : Mat w a' n A' L' C' F') (hn : n ≤ maxLen) (hq : Alike n L L' F F') :
    Calls Try.prog 19 #[.slice a n c, .slice a' n c'] w fun e w' => e = .returned (.bool true) ∧ Below w.heap.size w w' := by
  refine (rsame_yes a a' n c c' A A' L L' C C' F F' w h h' hn hq).mono ?_
  rintro e w' ⟨rfl, m, rfl⟩
  exact ⟨rfl, below_drewN (Below.refl _ _) m⟩

theorem hop {a b c : World} (h : Below a.heap.size a b) (k : Below b.heap.size b c) : Below a.heap.size a c := h.trans (k.mono h.size)

set_option maxRecDepth 100000 in
set_option maxHeartbeats 4000000 in
theorem core (a0 : Option Addr) (n0 c0 : Nat) (A0 : Nat → Option Addr) (L0 C0 : Nat → Nat) (F0 : Nat → Nat → Nat) (a1 : Option Addr) (n1 c1 : Nat) (A1 : Nat → Option Addr) (L1 C1 : Nat → Nat) (F1 : Nat → Nat → Nat) (a2 : Option Addr) (n2 c2 : Nat) (f2 : Nat → Nat) (w : World)
    (h0 : Mat w a0 n0 A0 L0 C0 F0) (l0 : n0 ≤ maxLen) (h1 : Mat w a1 n1 A1 L1 C1 F1) (l1 : n1 ≤ maxLen) (h2 : Row w a2 n2 f2) (z2 : a2 = none → n2 = 0 ∧ c2 = 0) (l2 : n2 ≤ maxLen) :
    Calls Try.prog 7 #[.slice a0 n0 c0, .slice a1 n1 c1, .slice a2 n2 c2] w fun e w' => e = .returned (.bool true) ∧ Below w.heap.size w w' := by
  have H0 : Hid (Mat w a0 n0 A0 L0 C0 F0) := h0
  have H1 : Hid (Mat w a1 n1 A1 L1 C1 F1) := h1
  have H2 : Hid (Row w a2 n2 f2) := h2
  clear h0 h1 h2 z2
  have l2' := l2
  unfold maxLen at l2'
  go_enter Try.func7, Try.ntmps7
  go_wp2_with fail
  go_at_call 9
  refine (awake_any _).mono ?_
  rintro e w1 ⟨rfl, b1⟩
  go_wp2_with fail
  go_at_call 17
  refine (small_any a0 n0 c0 A0 L0 C0 F0 w1 (H0.out.keep b1) l0).mono ?_
  rintro e w' ⟨hs0, rfl⟩
  rcases hs0 with rfl | ⟨rfl, s0, t0⟩
  · go_wp2
    go_ret
    exact ⟨rfl, b1⟩
  go_wp2_with fail
  go_at_call 17
  refine (small_any a1 n1 c1 A1 L1 C1 F1 w1 (H1.out.keep b1) l1).mono ?_
  rintro e w' ⟨hs1, rfl⟩
  rcases hs1 with rfl | ⟨rfl, s1, t1⟩
  · go_wp2
    go_ret
    exact ⟨rfl, b1⟩
  clear t0 t1
  by_cases hz : n2 = 0
  · subst hz
    go_wp2
    go_ret
    exact ⟨rfl, b1⟩
  by_cases hf : 40 < n2
  · have e0 : (((n2 : Nat) : Int) == 0) = false := by simp; omega
    go_wp2
    go_ret
    exact ⟨rfl, b1⟩
  have e0 : (((n2 : Nat) : Int) == 0) = false := by simp; omega
  go_wp2_with fail
  go_at_call 11
  refine (mxMul_any a0 a1 n0 n1 c0 c1 A0 A1 L0 L1 C0 C1 F0 F1 w1 (H0.out.keep b1) (H1.out.keep b1) l0 l1).mono ?_
  rintro e w2 ⟨hx, b2⟩
  have b02 := hop b1 b2
  rcases hx with ⟨f0, f1, f01, hx, rfl, ox⟩ | ⟨_, rfl⟩
  rotate_left
  · go_wp2
    go_ret
    exact ⟨rfl, b02⟩
  have OX : Hid (Out w2 hx n0 (L1 0) (mm n1 F0 F1)) := ox
  have K0 : Hid (IsM n0 L0) := f0
  have K1 : Hid (IsM n1 L1) := f1
  have K01 : Hid (L0 0 = n1) := f01
  have u0 := f0.1
  have u1 := f1.1
  clear ox f0 f1 f01
  obtain ⟨g, hgd⟩ : ∃ g : Nat → Int, g = fun i => ((f2 i % n0 : Nat) : Int) := ⟨_, rfl⟩
  have HG : Hid (∀ i, g i = ((f2 i % n0 : Nat) : Int)) := fun i => by rw [hgd]
  clear hgd
  go_wp2
  go_loopw [9, 10] (fun v i wr => ∃ k : Nat, k ≤ n2 ∧ i = .int .i64 k ∧ OwnI wr w2.heap.size v k g ∧ Below w2.heap.size w2 wr) (fun _ i _ => n2 - (intOf i).toNat)
  case atStart => exact ⟨0, by omega, rfl, OwnI.start w2 w2.heap.size g, Below.refl _ _⟩
  case round =>
  obtain ⟨k, hk, rfl, hown, hb⟩ := hrel
  have HO : Hid (OwnI wr w2.heap.size _ k g) := hown
  clear hown
  by_cases hlt : k < n2
  · have ik : (k : Int) < (n2 : Int) := by omega
    obtain ⟨bb, oo, rfl, hc⟩ := ((H2.out.keep b02).keep hb).lies (by omega)
    have ck := hc k hlt
    have lf := H2.out.lt k
    have in0 : (n0 : Int) ≠ 0 := by omega
    have er : ((f2 k : Nat) : Int) % (n0 : Int) = ((f2 k % n0 : Nat) : Int) := by omega
    obtain ⟨v', W2, hr2, hown2, hb2⟩ := HO.out.push hb.size (HG.out k).symm (by omega)
    have R2 : Hid _ := hr2
    have HB : Hid (OwnI W2 w2.heap.size v' (k + 1) g) := hown2
    have HW : Hid (Below w2.heap.size w2 W2) := hb.trans hb2
    have lr : f2 k % n0 < n0 := Nat.mod_lt _ (by omega)
    clear hr2 hown2 hb2 hb hc HO
    generalize f2 k % n0 = rr at *
    generalize f2 k = xx at *
    go_wp2_with (at_builtin; refine wpList_append_ran (by rfl) _ _ 40 (by rfl) _ _ _ _ (by rfl) (by rfl) R2.out ?_)
    go_wp2
    go_round
    case rel => exact ⟨k + 1, by omega, by go_num, HB.out, HW.out⟩
    case measure => simp [intOf]; omega
  · have : k = n2 := by omega
    subst this
    obtain ⟨ai, ci, hv, hir⟩ := HO.out.form
    have HI : Hid (IRow wr ai k g) := hir
    have HR : Hid (∀ i, i < k → 0 ≤ g i ∧ g i < n0) := fun i hi => by
      rw [HG.out i]
      have := Nat.mod_lt (f2 i) (show 0 < n0 by omega)
      omega
    have HR2 : Hid (∀ i, i < k → -9223372036854775808 ≤ g i ∧ g i ≤ 9223372036854775807) := fun i hi => by have := HR.out i hi; omega
    clear hir HO
    subst hv
    have q0 := K0.out
    have q1 := K1.out
    rename World => w3
    obtain ⟨AX, CX, mX, _, _⟩ := OX.out.keep hb
    have cP := rows_any (some ⟨hx, 0, none⟩) ai n0 k n0 ci AX (fun _ => L1 0) CX (mm n1 F0 F1) g w3 mX HI.out (isM_const q0.1 q0.2.1 q1.2.2.1 q1.2.2.2.1) (by omega) (by omega) HR2.out
    have b03 := hop b02 hb
    clear mX OX
    go_wp2_with fail
    go_at_call 12
    refine cP.mono ?_
    rintro e w4 ⟨hcase, b4⟩
    clear cP
    rcases hcase with ⟨_, v4, rfl, bl4⟩ | ⟨⟨i, hi, hno⟩, _⟩
    rotate_left
    · exfalso
      have := HR.out i hi
      omega
    have BP : Hid (Built w4 w3.heap.size v4 k (fun _ => L1 0) (fun i => mm n1 F0 F1 (g i).toNat)) := bl4
    clear bl4
    have b04 := hop b03 b4
    have cQ := rows_any a0 ai n0 k c0 ci A0 L0 C0 F0 g w4 (H0.out.keep b04) (HI.out.keep b4) q0 (by omega) (by omega) HR2.out
    go_wp2_with fail
    go_at_call 12
    refine cQ.mono ?_
    rintro e w5 ⟨hcase, b5⟩
    clear cQ
    rcases hcase with ⟨_, v5, rfl, bl5⟩ | ⟨⟨i, hi, hno⟩, _⟩
    rotate_left
    · exfalso
      have := HR.out i hi
      omega
    have b05 := hop b04 b5
    obtain ⟨A5, C5, bl5⟩ := bl5
    obtain ⟨a5, c5, rfl⟩ := bl5.form
    have m5 := bl5.mat (fun _ => by have := q0.2.2.2.1; omega) (fun i j => H0.out.lt _ _)
    have cY := mxMul_yes a5 a1 k n1 c5 c1 A5 A1 (fun _ => L0 0) L1 C5 C1 (fun i => F0 (g i).toNat) F1 w5 m5 (H1.out.keep b05) (isM_const (by omega) (by omega) q0.2.2.1 q0.2.2.2.1) q1 K01.out
    clear bl5 m5
    go_wp2_with fail
    go_at_call 11
    refine cY.mono ?_
    rintro e w6 ⟨hy, rfl, _, oy, b6⟩
    clear cY
    have OY : Hid (Out w6 hy k (L1 0) (mm n1 (fun i => F0 (g i).toNat) F1)) := oy
    clear oy
    have b06 := hop b05 b6
    go_wp2_with fail
    go_at_call 13
    refine (unit_yes n0 w6 q0.1 q0.2.1).mono ?_
    rintro e w7 ⟨rfl, g7, b7⟩
    have b07 := hop b06 b7
    have cU := mxMul_yes (some ⟨w6.heap.size, 0, none⟩) a0 n0 n0 n0 c0 _ A0 (fun _ => n0) L0 _ C0 one F0 w7 (g7.mat (by omega) one_B) (H0.out.keep b07) (isM_const q0.1 q0.2.1 q0.1 q0.2.1) q0 rfl
    clear g7
    go_wp2_with fail
    go_at_call 11
    refine cU.mono ?_
    rintro e w8 ⟨hu, rfl, _, ou, b8⟩
    clear cU
    have OU : Hid (Out w8 hu n0 (L0 0) (mm n0 one F0)) := ou
    clear ou
    have b08 := hop b07 b8
    have b48 := hop (hop (hop b5 b6) b7) b8
    have b68 := hop b7 b8
    obtain ⟨A4, C4, bl4⟩ := BP.out
    obtain ⟨a4, c4, rfl⟩ := bl4.form
    have m4 := bl4.mat (fun _ => by have := q1.2.2.2.1; omega) (fun i j => mm_B H0.out.lt _ _)
    obtain ⟨AY, CY, mY, _, _⟩ := OY.out.keep b68
    have cS := rsame_bel a4 (some ⟨hy, 0, none⟩) k c4 k A4 AY (fun _ => L1 0) (fun _ => L1 0) C4 CY _ _ w8 (m4.keep b48) mY l2 (fun i hi => ⟨rfl, fun j hj => rfl⟩)
    clear BP bl4 m4 mY OY
    go_wp2_with fail
    go_at_call 19
    refine cS.mono ?_
    rintro e w9 ⟨rfl, b9⟩
    clear cS
    have b09 := hop b08 b9
    obtain ⟨AU, CU, mU, _, _⟩ := OU.out.keep b9
    have cT := rsame_bel (some ⟨hu, 0, none⟩) a0 n0 n0 c0 AU A0 (fun _ => L0 0) L0 CU C0 _ F0 w9 mU (H0.out.keep b09) l0 (fun i hi => ⟨(q0.2.2.2.2 i hi).symm, fun j hj => mm_one_left H0.out.lt hi⟩)
    clear mU OU
    go_wp2_with fail
    go_at_call 19
    refine cT.mono ?_
    rintro e w10 ⟨rfl, b10⟩
    have b010 := hop b09 b10
    go_wp2
    go_ret
    exact ⟨rfl, b010⟩


set_option maxRecDepth 100000 in
theorem lifted (os : Os) (started : os.Started) (H : Type) (enc : TypeId × Value → H) :
    ReturnsInHanded {} Try.checked os 7 .any (Rows.matrixRowsSpec.pre6 enc Try.prog Try.f7 Rows.matrixRowsRow.domain false) (Rows.matrixRowsSpec.post enc Try.prog Try.f7 false true false false) := by
  refine returnsInHanded_of_change (C := Try.checked) own started (by kernel_rfl) Try.func7
    (ChangeSpec.witness6 (enc := enc) (C := Try.checked) false ⟨#[], #[.slice none 0 0, .slice none 0 0, .slice none 0 0], []⟩ 8 (by kernel_rfl) (by kernel_rfl) (by kernel_rfl) (by kernel_rfl)) ?_
  intro W base args ds gs before hval0 hW hcnd _
  have hval : ∀ (j : Nat) t v, Try.f7.params[j]? = some t → args[j]? = some v → Value.okWide Try.prog W .any base t v := hval0
  have hW' := hW
  obtain ⟨p, q, hA0, hV, rfl, hfz, hnd⟩ := hW
  have hA : DataW.TrodAll enc Try.prog W 0 (fun _ => true) true Try.f7.params.toList args.toList ds p := hA0
  rw [Try.params7] at hA hval
  obtain ⟨v0, vs0, d0, ds0, p0, q0, hargs, rfl, rfl, h0, r0⟩ := trodAll_cons hA
  obtain ⟨v1, vs1, d1, ds1, p1, q1, rfl, rfl, rfl, h1, r1⟩ := trodAll_cons r0
  obtain ⟨v2, vs2, d2, ds2, p2, q2, rfl, rfl, rfl, h2, r2⟩ := trodAll_cons r1
  obtain ⟨rfl, rfl, rfl⟩ := trodAll_nil r2
  obtain rfl : args = #[v0, v1, v2] := by cases args; simp_all
  obtain ⟨rfl, rfl⟩ := trodVars_none hV
  obtain ⟨a0, len0, cap0, rfl⟩ := okWide_slice Try.underlying23 (hval 0 23 v0 rfl rfl)
  have k0 := h0
  have lt0 : ∀ x ∈ p0, x.block < W.heap.size := by obtain ⟨m, hm⟩ := k0; exact DataW.trod_lt m _ _ _ hm
  obtain ⟨A0, L0, C0, F0, m0, e0⟩ := open_mat h0
  obtain ⟨a1, len1, cap1, rfl⟩ := okWide_slice Try.underlying23 (hval 1 23 v1 rfl rfl)
  have k1 := h1
  have lt1 : ∀ x ∈ p1, x.block < W.heap.size := by obtain ⟨m, hm⟩ := k1; exact DataW.trod_lt m _ _ _ hm
  obtain ⟨A1, L1, C1, F1, m1, e1⟩ := open_mat h1
  obtain ⟨a2, len2, cap2, rfl⟩ := okWide_slice Try.underlying27 (hval 2 27 v2 rfl rfl)
  have k2 := h2
  have lt2 : ∀ x ∈ p2, x.block < W.heap.size := by obtain ⟨m, hm⟩ := k2; exact DataW.trod_lt m _ _ _ hm
  obtain ⟨f2, m2, z2, e2⟩ := open_row h2
  clear hA0 hval0
  refine (core a0 len0 cap0 A0 L0 C0 F0 a1 len1 cap1 A1 L1 C1 F1 a2 len2 cap2 f2 W m0 e0 m1 e1 m2 z2 e2).mono fun e W' ⟨he, bel⟩ => ?_
  subst he
  exact ⟨_, rfl, _, _, _, [], _, [], hW', trodAll_mk1 (shut_bool Try.underlying4 _), (trodAll_cons_mk (Below.trod laidOut (by kernel_rfl) (of_decide_eq_true (by kernel_rfl)) k0 bel lt0) (trodAll_cons_mk (Below.trod laidOut (by kernel_rfl) (of_decide_eq_true (by kernel_rfl)) k1 bel lt1) (trodAll_cons_mk (Below.trod laidOut (by kernel_rfl) (of_decide_eq_true (by kernel_rfl)) k2 bel lt2) trodAll_mk0))), rfl, bel.frame _, fun h => by cases h⟩

theorem over : Rows.matrixRowsRow.holds Try.pinned (OpenSpec.ofChange Rows.matrixRowsSpec) :=
  OpenClaim.holds_of_wide 7 Try.f7 rfl rfl rfl rfl rfl rfl rfl ⟨rfl, rfl, rfl, rfl, rfl⟩ rfl rfl rfl rfl rfl (by kernel_rfl) Try.func7 (by kernel_rfl)
    (of_decide_eq_true (by kernel_rfl)) (by unfold Func.isWrapper; first | (rw [if_pos (by decide +kernel)]; kernel_rfl) | (rw [if_neg (by decide +kernel)]; exact ⟨rfl, rfl⟩))
    (fun os started H enc _ => lifted os started H enc)

end matrixRows

/-- The statement. -/
theorem matrixRows_holds : Rows.MatrixRowsSaid := matrixRows.over
#print axioms matrixRows_holds
end Go.Proofs.Ytehjcceimbpgoaa
