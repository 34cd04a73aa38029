/-
  Rows are as long as they must be and no longer: for every size, number of rows and block that the law's arguments give, and without further condition.
-/
import Derived.Test.YtfifcghjbdooeaaRows
import Derived.WalkKit
import Derived.ProofKit
import Derived.OpenShut
import Derived.ShutString
import Derived.ChangeOld
import Derived.Below
import Derived.SizedLaws
import Derived.ChangeSame
import Derived.ChangeMaps5
import Derived.Test.YtfifcghjbdooeaaSpO
set_option maxRecDepth 100000
namespace Go.Proofs.Ytfifcghjbdooeaa
namespace stripeLengths
open Go.ChangeShapes Go.WideShapes Go.ChangeAt Go.RowKit
set_option linter.unusedVariables false
attribute [local go_sem ↓] Go.wp_at_zero Go.wp_at_succ

theorem own : ownKnob Try.prog.godebug = none := by kernel_rfl
theorem laidOut : laidOutB Try.prog = true := by kernel_rfl

theorem rem_u8 (x m : Nat) (hm : 0 < m) : ((x : Int) % (m : Int)) = ((x % m : Nat) : Int) := by simp

set_option maxHeartbeats 2000000 in
theorem core (z x y : Nat) (w : World) (hz : z ≤ 65535) (hx : x ≤ 255) (hy : y ≤ 255) :
    Calls Try.prog 7 #[.int .u16 z, .int .u8 x, .int .u8 y] w fun e w' => e = .returned (.bool true) ∧ Below w.heap.size w w' := by
  obtain ⟨k, hk⟩ : ∃ k, x % 20 = k := ⟨_, rfl⟩
  obtain ⟨b, hb⟩ : ∃ b, y % 60 = b := ⟨_, rfl⟩
  have ek : (x : Int) % 20 = (k : Int) := by omega
  have eb : (y : Int) % 60 = (b : Int) := by omega
  have hk20 : k < 20 := by omega
  have hb60 : b < 60 := by omega
  clear hk hb
  have h1k : 1 ≤ k + 1 := by omega
  have h1b : 1 ≤ b + 1 := by omega
  have HM := ln_mul z h1k h1b
  have HL := ln_le z h1k h1b
  have H1 := ln_more z h1k h1b
  have H2 := ln_mono (n := z) (n' := z + 1) h1k h1b (by omega)
  have H0 := ln_zero h1k h1b
  have hkb : (k + 1) * (b + 1) ≤ 20 * 60 := Nat.mul_le_mul (by omega) (by omega)
  have HL1 := ln_le (z + 1) h1k h1b
  have hkbi : ((k + 1 : Nat) : Int) * ((b + 1 : Nat) : Int) = (((k + 1) * (b + 1) : Nat) : Int) := by simp
  have aw := awake_any w
  have c1 : ∀ w, Calls Try.prog 14 #[.int .i64 z, .int .i64 ((k + 1 : Nat) : Int), .int .i64 ((b + 1 : Nat) : Int)] w fun e w' => e = .returned (.int .i64 (ln z (k + 1) (b + 1) : Nat)) ∧ ∃ m, w' = w.drewN m := fun w => length_yes z (k + 1) (b + 1) w (by unfold MayN; omega)
  have d1 : ∀ w, Calls Try.prog 15 #[.int .i64 z, .int .i64 ((k + 1 : Nat) : Int), .int .i64 ((b + 1 : Nat) : Int)] w fun e w' => e = .returned (.int .i64 (ln z (k + 1) (b + 1) : Nat)) ∧ w = w' := fun w => rlength_yes z (k + 1) (b + 1) w (by unfold MayN; omega)
  have c2 : z ≤ 60000 → ∀ w, Calls Try.prog 14 #[.int .i64 ((z + (k + 1) * (b + 1) : Nat) : Int), .int .i64 ((k + 1 : Nat) : Int), .int .i64 ((b + 1 : Nat) : Int)] w fun e w' => e = .returned (.int .i64 (ln (z + (k + 1) * (b + 1)) (k + 1) (b + 1) : Nat)) ∧ ∃ m, w' = w.drewN m := fun h w => length_yes _ _ _ w (by unfold MayN; omega)
  have c3 : ∀ w, Calls Try.prog 14 #[.int .i64 ((z + 1 : Nat) : Int), .int .i64 ((k + 1 : Nat) : Int), .int .i64 ((b + 1 : Nat) : Int)] w fun e w' => e = .returned (.int .i64 (ln (z + 1) (k + 1) (b + 1) : Nat)) ∧ ∃ m, w' = w.drewN m := fun w => length_yes _ _ _ w (by unfold MayN; omega)
  have c4 : ∀ w, Calls Try.prog 14 #[.int .i64 0, .int .i64 ((k + 1 : Nat) : Int), .int .i64 ((b + 1 : Nat) : Int)] w fun e w' => e = .returned (.int .i64 (ln 0 (k + 1) (b + 1) : Nat)) ∧ ∃ m, w' = w.drewN m := fun w => length_yes 0 (k + 1) (b + 1) w (by unfold MayN; omega)
  have c5 : ∀ w, Calls Try.prog 14 #[.int .i64 (-1), .int .i64 ((k + 1 : Nat) : Int), .int .i64 ((b + 1 : Nat) : Int)] w fun e w' => e = .returned (.int .i64 0) ∧ ∃ m, w' = w.drewN m := fun w => length_no (-1) _ _ w (by unfold MayN; omega)
  rw [H0] at c4
  rw [H1] at c2
  have hal : ln z (k + 1) (b + 1) ≤ 65535 := by omega
  obtain ⟨a, ha⟩ : ∃ a, ln z (k + 1) (b + 1) = a := ⟨_, rfl⟩
  obtain ⟨a2, ha2⟩ : ∃ a2, ln (z + 1) (k + 1) (b + 1) = a2 := ⟨_, rfl⟩
  rw [ha] at HM H2 c1 d1 c2 hal
  rw [ha2] at H2 HL1 c3
  clear ha ha2 H0 H1 HL
  obtain ⟨kk, hkk⟩ : ∃ kk, k + 1 = kk := ⟨_, rfl⟩
  obtain ⟨bb, hbb⟩ : ∃ bb, b + 1 = bb := ⟨_, rfl⟩
  have ekk : (1 : Int) + (k : Int) = (kk : Int) := by omega
  have ebb : (1 : Int) + (b : Int) = (bb : Int) := by omega
  have hkk1 : 1 ≤ kk ∧ kk ≤ 20 := by omega
  have hbb1 : 1 ≤ bb ∧ bb ≤ 60 := by omega
  rw [hkk] at HM hkb hkbi c1 c2 c3 c4 c5 d1
  rw [hbb] at hkb hkbi c1 c2 c3 c4 c5 d1
  obtain ⟨P, hP⟩ : ∃ P, kk * bb = P := ⟨_, rfl⟩
  obtain ⟨S, hS⟩ : ∃ S, kk * a = S := ⟨_, rfl⟩
  have hSi : (a : Int) * (kk : Int) = (S : Int) := by rw [← hS]; simp [Nat.mul_comm]
  rw [hP] at hkb hkbi c2
  rw [hS] at HM
  clear hP hS h1k h1b hkk hbb
  go_enter Try.func7, Try.ntmps7
  go_wp2_with fail
  go_at_call 8
  refine aw.mono ?_
  rintro e w1 ⟨rfl, b1⟩
  have HB1 : Hid (Below w.heap.size w w1) := b1
  clear aw b1
  go_wp2_with fail
  go_at_call 14
  refine (c1 _).mono ?_
  rintro e w2 ⟨rfl, m, rfl⟩
  have HB2 : Hid (Below w.heap.size w (w1.drewN m)) := hop HB1.out (bdn _ _)
  generalize w1.drewN m = w2 at *
  clear HB1
  by_cases hbig : 60000 < z
  · have hbi : (60000 : Int) < (z : Int) := by omega
    have hge : (z : Int) ≤ (S : Int) := by omega
    clear c2
    go_wp2
    go_ret
    exact ⟨rfl, HB2.out⟩
  · have hbi : ¬ (60000 : Int) < (z : Int) := by omega
    have hge : (z : Int) ≤ (S : Int) := by omega
    have hlt : (S : Int) < (z : Int) + (kk : Int) := by omega
    have hge2 : (a : Int) ≤ (a2 : Int) := by omega
    have c2' := c2 (by omega)
    clear c2
    simp only [Int.natCast_add, Int.natCast_one] at c2' c3
    have hge3 : (z : Int) ≤ (S : Int) := hge
    go_wp2_with fail
    go_at_call 15
    refine (d1 _).mono ?_
    rintro e w3 ⟨rfl, rfl⟩
    go_wp2_with fail
    go_at_call 14
    refine (c2' _).mono ?_
    rintro e w3 ⟨rfl, m3, rfl⟩
    go_wp2_with fail
    go_at_call 14
    refine (c3 _).mono ?_
    rintro e w3 ⟨rfl, m4, rfl⟩
    go_wp2_with fail
    go_at_call 14
    refine (c4 _).mono ?_
    rintro e w3 ⟨rfl, m5, rfl⟩
    go_wp2_with fail
    go_at_call 14
    refine (c5 _).mono ?_
    rintro e w3 ⟨rfl, m6, rfl⟩
    go_wp2
    go_ret
    exact ⟨rfl, hop HB2.out (bdn _ _)⟩


set_option maxRecDepth 100000 in
theorem lifted (os : Os) (started : os.Started) (H : Type) (enc : TypeId × Value → H) :
    ReturnsInHanded {} Try.checked os 7 .any (Rows.stripeLengthsSpec.pre6 enc Try.prog Try.f7 Rows.stripeLengthsRow.domain false) (Rows.stripeLengthsSpec.post enc Try.prog Try.f7 false true false false) := by
  refine returnsInHanded_of_change_sized (C := Try.checked) own started (by kernel_rfl) Try.func7
    (ChangeSpec.witness6 (enc := enc) (C := Try.checked) false ⟨#[], #[.int .u16 0, .int .u8 0, .int .u8 0], []⟩ 8 (by kernel_rfl) (by kernel_rfl) (by kernel_rfl) (by kernel_rfl)) ?_
  intro W base args ds gs before hval0 hW hcnd hsz0 _
  have hval : ∀ (j : Nat) t v, Try.f7.params[j]? = some t → args[j]? = some v → Value.okWide Try.prog W .any base t v := hval0
  have hsz : (DataW.weightsEach Try.prog (Try.f7.params.toList ++ Rows.stripeLengthsSpec.plain.varTypes Try.prog) (ds ++ gs)).all (· ≤ reachBytes) = true := hsz0
  have hW' := hW
  obtain ⟨p, q, hA0, hV, rfl, hfz, hnd⟩ := hW
  have hA : DataW.TrodAll enc Try.prog W 0 (fun _ => true) true Try.f7.params.toList args.toList ds p := hA0
  rw [Try.params7] at hA hval hsz
  obtain ⟨v0, vs0, d0, ds0, p0, q0, hargs, rfl, rfl, h0, r0⟩ := trodAll_cons hA
  obtain ⟨v1, vs1, d1, ds1, p1, q1, rfl, rfl, rfl, h1, r1⟩ := trodAll_cons r0
  obtain ⟨v2, vs2, d2, ds2, p2, q2, rfl, rfl, rfl, h2, r2⟩ := trodAll_cons r1
  obtain ⟨rfl, rfl, rfl⟩ := trodAll_nil r2
  obtain rfl : args = #[v0, v1, v2] := by cases args; simp_all
  obtain ⟨rfl, rfl⟩ := trodVars_none hV
  have k0 := h0
  have lt0 : ∀ x ∈ p0, x.block < W.heap.size := by obtain ⟨m, hm⟩ := k0; exact DataW.trod_lt m _ _ _ hm
  obtain ⟨y0, rfl, _, _, w0⟩ := open_int Try.underlying36 (hval 0 36 v0 rfl rfl) h0
  have e0 : 0 ≤ y0 ∧ y0 ≤ 65535 := by simpa [Lit.wf, IntKind.min, IntKind.max, IntKind.signed, IntKind.bits] using w0
  obtain ⟨x0, rfl⟩ : ∃ x : Nat, y0 = (x : Int) := ⟨y0.toNat, by omega⟩
  have k1 := h1
  have lt1 : ∀ x ∈ p1, x.block < W.heap.size := by obtain ⟨m, hm⟩ := k1; exact DataW.trod_lt m _ _ _ hm
  obtain ⟨y1, rfl, _, _, w1⟩ := open_int Try.underlying5 (hval 1 5 v1 rfl rfl) h1
  have e1 : 0 ≤ y1 ∧ y1 ≤ 255 := by simpa [Lit.wf, IntKind.min, IntKind.max, IntKind.signed, IntKind.bits] using w1
  obtain ⟨x1, rfl⟩ : ∃ x : Nat, y1 = (x : Int) := ⟨y1.toNat, by omega⟩
  have k2 := h2
  have lt2 : ∀ x ∈ p2, x.block < W.heap.size := by obtain ⟨m, hm⟩ := k2; exact DataW.trod_lt m _ _ _ hm
  obtain ⟨y2, rfl, _, _, w2⟩ := open_int Try.underlying5 (hval 2 5 v2 rfl rfl) h2
  have e2 : 0 ≤ y2 ∧ y2 ≤ 255 := by simpa [Lit.wf, IntKind.min, IntKind.max, IntKind.signed, IntKind.bits] using w2
  obtain ⟨x2, rfl⟩ : ∃ x : Nat, y2 = (x : Int) := ⟨y2.toNat, by omega⟩
  clear hA0 hval0 hsz0
  refine (core x0 x1 x2 W (by omega) (by omega) (by omega)).mono fun e W' ⟨he, bel⟩ => ?_
  subst he
  exact ⟨_, rfl, _, _, _, [], _, [], hW', trodAll_mk1 (shut_bool Try.underlying4 _), (trodAll_cons_mk (Below.trod laidOut (by kernel_rfl) (of_decide_eq_true (by kernel_rfl)) k0 bel lt0) (trodAll_cons_mk (Below.trod laidOut (by kernel_rfl) (of_decide_eq_true (by kernel_rfl)) k1 bel lt1) (trodAll_cons_mk (Below.trod laidOut (by kernel_rfl) (of_decide_eq_true (by kernel_rfl)) k2 bel lt2) trodAll_mk0))), rfl, bel.frame _, fun h => by cases h⟩

theorem over : Rows.stripeLengthsRow.holds Try.pinned (OpenSpec.ofChange Rows.stripeLengthsSpec) :=
  OpenClaim.holds_of_wide 7 Try.f7 rfl rfl rfl rfl rfl rfl rfl ⟨rfl, rfl, rfl, rfl, rfl⟩ rfl rfl rfl rfl rfl (by kernel_rfl) Try.func7 (by kernel_rfl)
    (of_decide_eq_true (by kernel_rfl)) (by unfold Func.isWrapper; first | (rw [if_pos (by decide +kernel)]; kernel_rfl) | (rw [if_neg (by decide +kernel)]; exact ⟨rfl, rfl⟩))
    (fun os started H enc _ => lifted os started H enc)

end stripeLengths

/-- The statement. -/
theorem stripeLengths_holds : Rows.StripeLengthsSaid := stripeLengths.over
#print axioms stripeLengths_holds
end Go.Proofs.Ytfifcghjbdooeaa
