/-
  The program cuts and joins as the document does, and tells the same lengths: for every row of bytes, any three numbers and any rows of bytes that the law's arguments give, and without further condition.
-/
import Derived.Test.YtfifcghjbdooeaaRows
import Derived.WalkKit
import Derived.ProofKit
import Derived.OpenShut
import Derived.ShutString
import Derived.ChangeOld
import Derived.Below
import Derived.SizedLaws
import Derived.ChangeSame
import Derived.ChangeMaps5
import Derived.Test.YtfifcghjbdooeaaSpO
set_option maxRecDepth 100000
namespace Go.Proofs.Ytfifcghjbdooeaa
namespace stripeCuts
open Go.ChangeShapes Go.WideShapes Go.ChangeAt Go.RowKit
set_option linter.unusedVariables false
attribute [local go_sem ↓] Go.wp_at_zero Go.wp_at_succ

theorem own : ownKnob Try.prog.godebug = none := by kernel_rfl
theorem laidOut : laidOutB Try.prog = true := by kernel_rfl

set_option maxHeartbeats 4000000 in
theorem core (a : Option Addr) (n c : Nat) (f : Nat → Nat) (x y z : Int) (a2 : Option Addr) (k2 c2 : Nat) (A : Nat → Option Addr) (L C : Nat → Nat) (F : Nat → Nat → Nat) (w : World) (hr : Row w a n f) (hnil : a = none → n = 0 ∧ c = 0) (hn : n ≤ maxLen) (hc : n ≤ c)
    (hxyz : (-9223372036854775808 ≤ x ∧ x ≤ 9223372036854775807) ∧ (-9223372036854775808 ≤ y ∧ y ≤ 9223372036854775807) ∧ (-9223372036854775808 ≤ z ∧ z ≤ 9223372036854775807))
    (hm : Mat w a2 k2 A L C F) (hk2 : k2 ≤ maxLen) (hkc : k2 ≤ c2) (hLb : ∀ i, i < k2 → L i ≤ 140737488355328) (hLC : ∀ i, i < k2 → L i ≤ C i) :
    Calls Try.prog 3 #[.slice a n c, .agg #[.int .i64 x, .int .i64 y, .int .i64 z], .slice a2 k2 c2] w fun e w' => e = .returned (.bool true) ∧ Below w.heap.size w w' := by
  have HN : Hid (n ≤ maxLen) := hn
  have HK : Hid (k2 ≤ maxLen) := hk2
  unfold maxLen at hn hk2
  have HR : Hid (Row w a n f) := hr
  have HZ : Hid (a = none → n = 0) := fun e => (hnil e).1
  have HM : Hid (Mat w a2 k2 A L C F) := hm
  have HLC : Hid (∀ i, i < k2 → L i ≤ C i) := hLC
  clear hr hnil hm hLb hLC
  obtain ⟨W0, hW0⟩ : ∃ W0, w.alloc (.cells #[.int .i64 x, .int .i64 y, .int .i64 z] 23) = W0 := ⟨_, rfl⟩
  have b0 : Below w.heap.size w W0 := by rw [← hW0]; exact bal _ _
  have x0 : W0.cell? ⟨w.heap.size, 0, none⟩ = some (.int .i64 x) := by rw [← hW0, World.cell?_alloc_new]; rfl
  have x1 : W0.cell? ⟨w.heap.size, 1, none⟩ = some (.int .i64 y) := by rw [← hW0, World.cell?_alloc_new]; rfl
  have x2 : W0.cell? ⟨w.heap.size, 2, none⟩ = some (.int .i64 z) := by rw [← hW0, World.cell?_alloc_new]; rfl
  have aw := awake_any W0
  have HB0 : Hid (Below w.heap.size w W0) := b0
  have hs0 : w.heap.size < W0.heap.size := block_lt_of_cell x0
  clear b0
  go_enter Try.func3, Try.ntmps3
  go_wp2_with fail
  clear hW0
  go_at_call 8
  refine aw.mono ?_
  rintro e w1 ⟨rfl, b1⟩
  have HB1 : Hid (Below w.heap.size w w1) := hop HB0.out b1
  have y0 := (b1.cell (p := ⟨w.heap.size, 0, none⟩) hs0).trans x0
  have y1 := (b1.cell (p := ⟨w.heap.size, 1, none⟩) hs0).trans x1
  have y2 := (b1.cell (p := ⟨w.heap.size, 2, none⟩) hs0).trans x2
  have hs1 : w.heap.size < w1.heap.size := block_lt_of_cell y0
  clear aw b1 x0 x1 x2 HB0 hs0
  by_cases hbig : 5000 < n
  · have hbi : (5000 : Int) < (n : Int) := by omega
    go_wp2
    go_ret
    exact ⟨rfl, HB1.out⟩
  by_cases hbig2 : 300 < k2
  · have hbi : ¬ (5000 : Int) < (n : Int) := by omega
    have hbi2 : (300 : Int) < (k2 : Int) := by omega
    go_wp2
    go_ret
    exact ⟨rfl, HB1.out⟩
  have hbi : ¬ (5000 : Int) < (n : Int) := by omega
  have hbi2 : ¬ (300 : Int) < (k2 : Int) := by omega
  clear hbig hbig2
  generalize hH : w.heap.size = H at *
  go_wp2
  go_loop [7] (fun v => ∃ i : Nat, i ≤ k2 ∧ v = .int .i64 i) (fun v => k2 - (intOf v).toNat)
  case atStart => exact ⟨0, by omega, rfl⟩
  case round =>
  obtain ⟨i, hi, rfl⟩ := hrel
  by_cases hik : i < k2
  · have ik : (i : Int) < (k2 : Int) := by omega
    obtain ⟨b, o, rfl, hh⟩ := HM.out.lies (by omega)
    have ck := (HB1.out.cell (p := ⟨b, o + i, none⟩) (by have := block_lt_of_cell (hh i hik); omega)).trans (hh i hik)
    have hle := HM.out.le i
    clear hh HM HLC
    generalize A i = ai at *
    generalize C i = ci at *
    generalize L i = li at *
    by_cases hl : 5000 < li
    · have hl' : (5000 : Int) < (li : Int) := by omega
      go_wp2
      go_ret
      exact ⟨rfl, HB1.out⟩
    · have hl' : ¬ (5000 : Int) < (li : Int) := by omega
      go_wp2
      go_round
      case rel => exact ⟨i + 1, by omega, by go_num⟩
      case measure => simp [intOf]; omega
  · have hik' : ¬ (i : Int) < (k2 : Int) := by omega
    clear hi hik
    have b1' : Below w.heap.size w w1 := by rw [hH]; exact HB1.out
    have cA := split_any a n c x y f w1 (HR.out.keep b1') HZ.out hc HN.out
    clear b1'
    go_wp2_with fail
    go_at_call 9
    refine cA.mono ?_
    rintro e w2 ⟨a3, c3, A3, C3, rfl, m3, b2⟩
    have HM3 : Hid (Mat w2 a3 (sN n x y) A3 (fun _ => sL n x y) C3 (spq f n x.toNat y.toNat n)) := m3
    have b2' : Below w.heap.size w w2 := by rw [hH]; exact HB1.out.trans (b2.mono (by omega))
    have HB2 : Hid (Below H w w2) := by rw [← hH]; exact b2'
    have z0 := (b2.cell (p := ⟨H, 0, none⟩) hs1).trans y0
    have z1 := (b2.cell (p := ⟨H, 1, none⟩) hs1).trans y1
    have z2 := (b2.cell (p := ⟨H, 2, none⟩) hs1).trans y2
    have hs2 : H < w2.heap.size := block_lt_of_cell z0
    have cB := rsplit_any a n c x y f w2 (HR.out.keep b2') hc HN.out
    clear cA m3 b2 b2' y0 y1 y2 hs1 HB1
    go_wp2_with fail
    go_at_call 10
    refine cB.mono ?_
    rintro e w3 ⟨a4, c4, A4, C4, rfl, m4, b3⟩
    have HM4 : Hid (Mat w3 a4 (sN n x y) A4 (fun _ => sL n x y) C4 (spq f n x.toNat y.toNat n)) := m4
    have HM33 : Hid (Mat w3 a3 (sN n x y) A3 (fun _ => sL n x y) C3 (spq f n x.toNat y.toNat n)) := HM3.out.keep b3
    have b3' : Below w.heap.size w w3 := by rw [hH]; exact HB2.out.trans (b3.mono (by omega))
    have HB3 : Hid (Below H w w3) := by rw [← hH]; exact b3'
    have t0 := (b3.cell (p := ⟨H, 0, none⟩) hs2).trans z0
    have t1 := (b3.cell (p := ⟨H, 1, none⟩) hs2).trans z1
    have t2 := (b3.cell (p := ⟨H, 2, none⟩) hs2).trans z2
    have hs3 : H < w3.heap.size := block_lt_of_cell t0
    have cJ := join_any a2 k2 c2 z y A L C F w3 (HM.out.keep b3') HLC.out HK.out
    clear cB m4 b3 b3' z0 z1 z2 hs2 HB2 HM3
    go_wp2_with fail
    go_at_call 11
    refine cJ.mono ?_
    rintro e w4 ⟨a5, c5, rfl, r5, n5, b4⟩
    have HR5 : Hid (Row w4 a5 (jN z k2 y L) (jn F z.toNat k2 y.toNat)) := r5
    have HZ5 : Hid (a5 = none → jN z k2 y L = 0) := n5
    have HM34 : Hid (Mat w4 a3 (sN n x y) A3 (fun _ => sL n x y) C3 (spq f n x.toNat y.toNat n)) := HM33.out.keep b4
    have HM44 : Hid (Mat w4 a4 (sN n x y) A4 (fun _ => sL n x y) C4 (spq f n x.toNat y.toNat n)) := HM4.out.keep b4
    have b4' : Below w.heap.size w w4 := by rw [hH]; exact HB3.out.trans (b4.mono (by omega))
    have HB4 : Hid (Below H w w4) := by rw [← hH]; exact b4'
    have v0 := (b4.cell (p := ⟨H, 0, none⟩) hs3).trans t0
    have v1 := (b4.cell (p := ⟨H, 1, none⟩) hs3).trans t1
    have v2 := (b4.cell (p := ⟨H, 2, none⟩) hs3).trans t2
    have hs4 : H < w4.heap.size := block_lt_of_cell v0
    have cK := rjoin_any a2 k2 c2 z y A L C F w4 (HM.out.keep b4') HLC.out HK.out
    clear cJ r5 n5 b4 b4' t0 t1 t2 hs3 HB3 HM33 HM4
    go_wp2_with fail
    go_at_call 12
    refine cK.mono ?_
    rintro e w5 ⟨a6, c6, rfl, r6, n6, b5⟩
    have HB5 : Hid (Below H w w5) := HB4.out.trans (b5.mono (by omega))
    have u0 := (b5.cell (p := ⟨H, 0, none⟩) hs4).trans v0
    have u1 := (b5.cell (p := ⟨H, 1, none⟩) hs4).trans v1
    have u2 := (b5.cell (p := ⟨H, 2, none⟩) hs4).trans v2
    have q1 := fun m => conv_row (w := w5.drewN m) (c := c5) ⟨(HR5.out.keep b5).lt, (HR5.out.keep b5).lies⟩ HZ5.out
    have q2 := fun m => conv_row (w := w5.drewN m) (c := c6) ⟨r6.lt, r6.lies⟩ n6
    have hsn := sN_le n x y
    have hsz5 : H ≤ w5.heap.size := by have := HB5.out.size; omega
    have cS := fun m => rsame_yes a3 a4 (sN n x y) c3 c4 _ _ _ _ _ _ _ _ (w5.drewN m) ((HM34.out.keep b5).drewN m) ((HM44.out.keep b5).drewN m) (by unfold maxLen; omega) (fun _ _ => ⟨rfl, fun _ _ => rfl⟩)
    have cL := fun w => length_any z x y w
    have cM := fun w => rlength_any z x y w
    clear cK r6 n6 b5 v0 v1 v2 hs4 HB4 HM34 HM44 HR5 HZ5
    generalize str (jn F z.toNat k2 y.toNat) (jN z k2 y L) = S at *
    generalize decide (MayN (n : Int) x y) = bA at *
    generalize jOk z k2 y L = bJ at *
    generalize jN z k2 y L = lj at *
    generalize sN n x y = sn at *
    generalize lenI z x y = ll at *
    go_wp2
    go_quiet (first
      | (go_at_call 13; refine Calls.quiet_of (cS _))
      | (go_at_call 14; refine Calls.quiet_of (cL _))
      | (go_at_call 15; refine Calls.quiet_of_same (cM _)))
    go_wp2
    go_ret
    exact ⟨rfl, by rw [hH]; exact HB5.out.trans ((bdn _ _).mono hsz5)⟩


set_option maxRecDepth 100000 in
theorem lifted (os : Os) (started : os.Started) (H : Type) (enc : TypeId × Value → H) :
    ReturnsInHanded {} Try.checked os 3 .any (Rows.stripeCutsSpec.pre6 enc Try.prog Try.f3 Rows.stripeCutsRow.domain false) (Rows.stripeCutsSpec.post enc Try.prog Try.f3 false true false false) := by
  refine returnsInHanded_of_change_sized (C := Try.checked) own started (by kernel_rfl) Try.func3
    (ChangeSpec.witness6 (enc := enc) (C := Try.checked) false ⟨#[], #[.slice none 0 0, .agg #[.int .i64 0, .int .i64 0, .int .i64 0], .slice none 0 0], []⟩ 8 (by kernel_rfl) (by kernel_rfl) (by kernel_rfl) (by kernel_rfl)) ?_
  intro W base args ds gs before hval0 hW hcnd hsz0 _
  have hval : ∀ (j : Nat) t v, Try.f3.params[j]? = some t → args[j]? = some v → Value.okWide Try.prog W .any base t v := hval0
  have hsz : (DataW.weightsEach Try.prog (Try.f3.params.toList ++ Rows.stripeCutsSpec.plain.varTypes Try.prog) (ds ++ gs)).all (· ≤ reachBytes) = true := hsz0
  have hW' := hW
  obtain ⟨p, q, hA0, hV, rfl, hfz, hnd⟩ := hW
  have hA : DataW.TrodAll enc Try.prog W 0 (fun _ => true) true Try.f3.params.toList args.toList ds p := hA0
  rw [Try.params3] at hA hval hsz
  obtain ⟨v0, vs0, d0, ds0, p0, q0, hargs, rfl, rfl, h0, r0⟩ := trodAll_cons hA
  obtain ⟨v1, vs1, d1, ds1, p1, q1, rfl, rfl, rfl, h1, r1⟩ := trodAll_cons r0
  obtain ⟨v2, vs2, d2, ds2, p2, q2, rfl, rfl, rfl, h2, r2⟩ := trodAll_cons r1
  obtain ⟨rfl, rfl, rfl⟩ := trodAll_nil r2
  obtain rfl : args = #[v0, v1, v2] := by cases args; simp_all
  obtain ⟨rfl, rfl⟩ := trodVars_none hV
  obtain ⟨a0, len0, cap0, rfl⟩ := okWide_slice Try.underlying22 (hval 0 22 v0 rfl rfl)
  have k0 := h0
  have lt0 : ∀ x ∈ p0, x.block < W.heap.size := by obtain ⟨m, hm⟩ := k0; exact DataW.trod_lt m _ _ _ hm
  obtain ⟨f0, m0, z0, e0, g0⟩ := open_row h0
  have k1 := h1
  have lt1 : ∀ x ∈ p1, x.block < W.heap.size := by obtain ⟨m, hm⟩ := k1; exact DataW.trod_lt m _ _ _ hm
  obtain ⟨x1, y1, u1, e1, rfl⟩ := open_trip (hval 1 23 v1 rfl rfl) h1
  obtain ⟨a2, len2, cap2, rfl⟩ := okWide_slice Try.underlying24 (hval 2 24 v2 rfl rfl)
  have k2 := h2
  have lt2 : ∀ x ∈ p2, x.block < W.heap.size := by obtain ⟨m, hm⟩ := k2; exact DataW.trod_lt m _ _ _ hm
  have hz2 : ∀ x ∈ d2.weights Try.prog 24, x ≤ reachBytes := fun x hx => by
    have := List.all_eq_true.1 hsz x (DataW.weights_mem_each (j := 2) (t := 24) (d := d2) rfl rfl x hx)
    simpa using this
  obtain ⟨A2, L2, C2, F2, m2, e2, g2, z2, y2⟩ := open_mat3 h2 hz2
  clear hA0 hval0 hsz0
  refine (core a0 len0 cap0 f0 x1 y1 u1 a2 len2 cap2 A2 L2 C2 F2 W m0 z0 e0 g0 e1 m2 e2 g2 z2 y2).mono fun e W' ⟨he, bel⟩ => ?_
  subst he
  exact ⟨_, rfl, _, _, _, [], _, [], hW', trodAll_mk1 (shut_bool Try.underlying4 _), (trodAll_cons_mk (Below.trod laidOut (by kernel_rfl) (of_decide_eq_true (by kernel_rfl)) k0 bel lt0) (trodAll_cons_mk (Below.trod laidOut (by kernel_rfl) (of_decide_eq_true (by kernel_rfl)) k1 bel lt1) (trodAll_cons_mk (Below.trod laidOut (by kernel_rfl) (of_decide_eq_true (by kernel_rfl)) k2 bel lt2) trodAll_mk0))), rfl, bel.frame _, fun h => by cases h⟩

theorem over : Rows.stripeCutsRow.holds Try.pinned (OpenSpec.ofChange Rows.stripeCutsSpec) :=
  OpenClaim.holds_of_wide 3 Try.f3 rfl rfl rfl rfl rfl rfl rfl ⟨rfl, rfl, rfl, rfl, rfl⟩ rfl rfl rfl rfl rfl (by kernel_rfl) Try.func3 (by kernel_rfl)
    (of_decide_eq_true (by kernel_rfl)) (by unfold Func.isWrapper; first | (rw [if_pos (by decide +kernel)]; kernel_rfl) | (rw [if_neg (by decide +kernel)]; exact ⟨rfl, rfl⟩))
    (fun os started H enc _ => lifted os started H enc)

end stripeCuts

/-- The statement. -/
theorem stripeCuts_holds : Rows.StripeCutsSaid := stripeCuts.over
#print axioms stripeCuts_holds
end Go.Proofs.Ytfifcghjbdooeaa
