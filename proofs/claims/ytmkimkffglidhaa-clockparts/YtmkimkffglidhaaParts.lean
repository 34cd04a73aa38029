/-
  The law ClockParts of layer 9 answers true for every boot, every count and every tag: Join's tag and its truth, Parts' two numbers and New's error are the document's, and Join's tag has its parts again; no condition.
-/
import Derived.Test.YtmkimkffglidhaaRows
import Derived.WalkKit
import Derived.ProofKit
import Derived.OpenShut
import Derived.ShutString
import Derived.ChangeOld
import Derived.Below
import Derived.SizedLaws
import Derived.ChangeSame
import Derived.ChangeMaps5
import Derived.Test.YtmkimkffglidhaaCkB
namespace Go.Proofs.Ytmkimkffglidhaa
namespace clockParts
open Go.ChangeShapes Go.WideShapes Go.ChangeAt Go.RowKit
set_option linter.unusedVariables false
attribute [local go_sem ↓] Go.wp_at_zero Go.wp_at_succ

theorem own : ownKnob Try.prog.godebug = none := by kernel_rfl
theorem laidOut : laidOutB Try.prog = true := by kernel_rfl

set_option maxRecDepth 100000 in
set_option maxHeartbeats 8000000 in
theorem core (x y z : Int) (w : World) (h1 : -9223372036854775808 ≤ x) (h2 : x ≤ 9223372036854775807) (h3 : -9223372036854775808 ≤ y) (h4 : y ≤ 9223372036854775807) (h5 : -9223372036854775808 ≤ z) (h6 : z ≤ 9223372036854775807) :
    Calls Try.prog 3 #[.int .i64 x, .int .i64 y, .int .i64 z] w fun e w' => e = .returned (.bool true) ∧ Below w.heap.size w w' := by
  have cA := awake_any w
  obtain ⟨p, q, cP, cQ⟩ : ∃ p q : Int, (∀ w, Calls Try.prog 10 #[.int .i64 z] w fun e w' => e = .returned (.tuple #[.int .i64 p, .int .i64 q]) ∧ w = w') ∧ (∀ w, Calls Try.prog 11 #[.int .i64 z] w fun e w' => e = .returned (.tuple #[.int .i64 p, .int .i64 q]) ∧ w = w') := by
    by_cases h : ∀ b c : Int, 1 ≤ b → b ≤ 32767 → 1 ≤ c → c ≤ 65535 → z ≠ b * 65536 + c
    · exact ⟨0, 0, fun w => parts_no z w h5 h6 h, fun w => rparts_no z w h5 h6 h⟩
    · refine ⟨z / 65536, z % 65536, fun w => ?_, fun w => ?_⟩ <;>
      · have : ∃ b c : Int, 1 ≤ b ∧ b ≤ 32767 ∧ 1 ≤ c ∧ c ≤ 65535 ∧ z = b * 65536 + c := by
          refine Classical.byContradiction fun hn => h fun b c a1 a2 a3 a4 e => hn ⟨b, c, a1, a2, a3, a4, e⟩
        obtain ⟨b, c, a1, a2, a3, a4, e⟩ := this
        first
          | exact parts_yes _ _ z w (by omega) (by omega) (by omega) (by omega) (by omega)
          | exact rparts_yes _ _ z w (by omega) (by omega) (by omega) (by omega) (by omega)
  obtain ⟨v, u, er, cN, cM⟩ : ∃ (v : World → Value) (u : World → Value) (er : Int), (∀ w, Calls Try.prog 12 #[.int .i64 x] w fun e w' => e = .returned (.tuple #[v w, .int .i64 er]) ∧ Below w.heap.size w w') ∧ (∀ w, Calls Try.prog 13 #[.int .i64 x] w fun e w' => e = .returned (.tuple #[u w, .int .i64 er]) ∧ Below w.heap.size w w') := by
    by_cases h : 1 ≤ x ∧ x ≤ 32767
    · exact ⟨fun w => .pointer (some ⟨w.heap.size, 0, none⟩), fun w => .pointer (some ⟨w.heap.size, 0, none⟩), 0, fun w => (new_yes x w h.1 h.2).mono (by rintro e w' ⟨rfl, rfl⟩; exact ⟨rfl, bal _ _⟩), fun w => rnew_yes x w h.1 h.2⟩
    · exact ⟨fun w => .pointer none, fun w => .pointer none, 1, fun w => (new_no x w h).mono (by rintro e w' ⟨rfl, rfl⟩; exact ⟨rfl, Below.refl _ _⟩), fun w => rnew_no x w h⟩
  obtain ⟨t, ok, r, s, cJ, cK, cT, hok⟩ : ∃ (t : Int) (ok : Bool) (r s : Int), (∀ w, Calls Try.prog 8 #[.int .i64 x, .int .i64 y] w fun e w' => e = .returned (.tuple #[.int .i64 t, .bool ok]) ∧ w = w') ∧ (∀ w, Calls Try.prog 9 #[.int .i64 x, .int .i64 y] w fun e w' => e = .returned (.tuple #[.int .i64 t, .bool ok]) ∧ w = w') ∧ (∀ w, Calls Try.prog 10 #[.int .i64 t] w fun e w' => e = .returned (.tuple #[.int .i64 r, .int .i64 s]) ∧ w = w') ∧ (ok = true → r = x ∧ s = y) := by
    by_cases h : (1 ≤ x ∧ x ≤ 32767) ∧ (1 ≤ y ∧ y ≤ 65535)
    · exact ⟨_, true, x, y, fun w => join_yes x y w h.1.1 h.1.2 h.2.1 h.2.2, fun w => rjoin_yes x y w h.1.1 h.1.2 h.2.1 h.2.2, fun w => parts_yes x y _ w h.1.1 h.1.2 h.2.1 h.2.2 rfl, fun _ => ⟨rfl, rfl⟩⟩
    · exact ⟨0, false, 0, 0, fun w => join_no x y w h, fun w => rjoin_no x y w h, fun w => parts_no 0 w (by omega) (by omega) (fun b c a1 a2 a3 a4 e => by omega), fun e => by cases e⟩
  clear h1 h2 h3 h4 h5 h6
  cases ok with
  | true =>
    obtain ⟨rfl, rfl⟩ := hok rfl
    clear hok
    go_enter Try.func3, Try.ntmps3
    go_wp2_with fail
    go_at_call 7
    refine cA.mono ?_
    rintro e w1 ⟨rfl, b1⟩
    clear cA
    go_wp2_with fail
    go_at_call 8
    refine (cJ _).mono ?_
    rintro e w2 ⟨rfl, rfl⟩
    clear cJ
    go_wp2_with fail
    go_at_call 9
    refine (cK _).mono ?_
    rintro e w2 ⟨rfl, rfl⟩
    clear cK
    go_wp2_with fail
    go_at_call 10
    refine (cP _).mono ?_
    rintro e w2 ⟨rfl, rfl⟩
    clear cP
    go_wp2_with fail
    go_at_call 11
    refine (cQ _).mono ?_
    rintro e w2 ⟨rfl, rfl⟩
    clear cQ
    go_wp2_with fail
    go_at_call 10
    refine (cT _).mono ?_
    rintro e w2 ⟨rfl, rfl⟩
    clear cT
    go_wp2_with fail
    go_at_call 12
    refine (cN _).mono ?_
    rintro e w2 ⟨rfl, b2⟩
    clear cN
    generalize v _ = vv at *
    go_wp2_with fail
    go_at_call 13
    refine (cM _).mono ?_
    rintro e w3 ⟨rfl, b3⟩
    clear cM
    generalize u _ = uu at *
    go_wp2
    go_ret
    exact ⟨rfl, hop (hop b1 b2) b3⟩
  | false =>
    clear hok
    go_enter Try.func3, Try.ntmps3
    go_wp2_with fail
    go_at_call 7
    refine cA.mono ?_
    rintro e w1 ⟨rfl, b1⟩
    clear cA
    go_wp2_with fail
    go_at_call 8
    refine (cJ _).mono ?_
    rintro e w2 ⟨rfl, rfl⟩
    clear cJ
    go_wp2_with fail
    go_at_call 9
    refine (cK _).mono ?_
    rintro e w2 ⟨rfl, rfl⟩
    clear cK
    go_wp2_with fail
    go_at_call 10
    refine (cP _).mono ?_
    rintro e w2 ⟨rfl, rfl⟩
    clear cP
    go_wp2_with fail
    go_at_call 11
    refine (cQ _).mono ?_
    rintro e w2 ⟨rfl, rfl⟩
    clear cQ
    go_wp2_with fail
    go_at_call 10
    refine (cT _).mono ?_
    rintro e w2 ⟨rfl, rfl⟩
    clear cT
    go_wp2_with fail
    go_at_call 12
    refine (cN _).mono ?_
    rintro e w2 ⟨rfl, b2⟩
    clear cN
    generalize v _ = vv at *
    go_wp2_with fail
    go_at_call 13
    refine (cM _).mono ?_
    rintro e w3 ⟨rfl, b3⟩
    clear cM
    generalize u _ = uu at *
    go_wp2
    go_ret
    exact ⟨rfl, hop (hop b1 b2) b3⟩


set_option maxRecDepth 100000 in
theorem lifted (os : Os) (started : os.Started) (H : Type) (enc : TypeId × Value → H) :
    ReturnsInHanded {} Try.checked os 3 .any (Rows.clockPartsSpec.pre6 enc Try.prog Try.f3 Rows.clockPartsRow.domain false) (Rows.clockPartsSpec.post enc Try.prog Try.f3 false true false false) := by
  refine returnsInHanded_of_change_sized (C := Try.checked) own started (by kernel_rfl) Try.func3
    (ChangeSpec.witness6 (enc := enc) (C := Try.checked) false ⟨#[], #[.int .i64 0, .int .i64 0, .int .i64 0], []⟩ 8 (by kernel_rfl) (by kernel_rfl) (by kernel_rfl) (by kernel_rfl)) ?_
  intro W base args ds gs before hval0 hW hcnd hsz0 _
  have hval : ∀ (j : Nat) t v, Try.f3.params[j]? = some t → args[j]? = some v → Value.okWide Try.prog W .any base t v := hval0
  have hsz : (DataW.weightsEach Try.prog (Try.f3.params.toList ++ Rows.clockPartsSpec.plain.varTypes Try.prog) (ds ++ gs)).all (· ≤ reachBytes) = true := hsz0
  have hW' := hW
  obtain ⟨p, q, hA0, hV, rfl, hfz, hnd⟩ := hW
  have hA : DataW.TrodAll enc Try.prog W 0 (fun _ => true) true Try.f3.params.toList args.toList ds p := hA0
  rw [Try.params3] at hA hval hsz
  obtain ⟨v0, vs0, d0, ds0, p0, q0, hargs, rfl, rfl, h0, r0⟩ := trodAll_cons hA
  obtain ⟨v1, vs1, d1, ds1, p1, q1, rfl, rfl, rfl, h1, r1⟩ := trodAll_cons r0
  obtain ⟨v2, vs2, d2, ds2, p2, q2, rfl, rfl, rfl, h2, r2⟩ := trodAll_cons r1
  obtain ⟨rfl, rfl, rfl⟩ := trodAll_nil r2
  obtain rfl : args = #[v0, v1, v2] := by cases args; simp_all
  obtain ⟨rfl, rfl⟩ := trodVars_none hV
  have k0 := h0
  have lt0 : ∀ x ∈ p0, x.block < W.heap.size := by obtain ⟨m, hm⟩ := k0; exact DataW.trod_lt m _ _ _ hm
  obtain ⟨x0, rfl, _, _, w0⟩ := open_int Try.underlying3 (hval 0 3 v0 rfl rfl) h0
  have e0 : -9223372036854775808 ≤ x0 ∧ x0 ≤ 9223372036854775807 := by simpa [Lit.wf, IntKind.min, IntKind.max, IntKind.signed, IntKind.bits] using w0
  have k1 := h1
  have lt1 : ∀ x ∈ p1, x.block < W.heap.size := by obtain ⟨m, hm⟩ := k1; exact DataW.trod_lt m _ _ _ hm
  obtain ⟨x1, rfl, _, _, w1⟩ := open_int Try.underlying3 (hval 1 3 v1 rfl rfl) h1
  have e1 : -9223372036854775808 ≤ x1 ∧ x1 ≤ 9223372036854775807 := by simpa [Lit.wf, IntKind.min, IntKind.max, IntKind.signed, IntKind.bits] using w1
  have k2 := h2
  have lt2 : ∀ x ∈ p2, x.block < W.heap.size := by obtain ⟨m, hm⟩ := k2; exact DataW.trod_lt m _ _ _ hm
  obtain ⟨x2, rfl, _, _, w2⟩ := open_int Try.underlying3 (hval 2 3 v2 rfl rfl) h2
  have e2 : -9223372036854775808 ≤ x2 ∧ x2 ≤ 9223372036854775807 := by simpa [Lit.wf, IntKind.min, IntKind.max, IntKind.signed, IntKind.bits] using w2
  clear hA0 hval0 hsz0
  refine (core x0 x1 x2 W e0.1 e0.2 e1.1 e1.2 e2.1 e2.2).mono fun e W' ⟨he, bel⟩ => ?_
  subst he
  exact ⟨_, rfl, _, _, _, [], _, [], hW', trodAll_mk1 (shut_bool Try.underlying4 _), (trodAll_cons_mk (Below.trod laidOut (by kernel_rfl) (of_decide_eq_true (by kernel_rfl)) k0 bel lt0) (trodAll_cons_mk (Below.trod laidOut (by kernel_rfl) (of_decide_eq_true (by kernel_rfl)) k1 bel lt1) (trodAll_cons_mk (Below.trod laidOut (by kernel_rfl) (of_decide_eq_true (by kernel_rfl)) k2 bel lt2) trodAll_mk0))), rfl, bel.frame _, fun h => by cases h⟩

theorem over : Rows.clockPartsRow.holds Try.pinned (OpenSpec.ofChange Rows.clockPartsSpec) :=
  OpenClaim.holds_of_wide 3 Try.f3 rfl rfl rfl rfl rfl rfl rfl ⟨rfl, rfl, rfl, rfl, rfl⟩ rfl rfl rfl rfl rfl (by kernel_rfl) Try.func3 (by kernel_rfl)
    (of_decide_eq_true (by kernel_rfl)) (by unfold Func.isWrapper; first | (rw [if_pos (by decide +kernel)]; kernel_rfl) | (rw [if_neg (by decide +kernel)]; exact ⟨rfl, rfl⟩))
    (fun os started H enc _ => lifted os started H enc)

end clockParts

/-- The statement. -/
theorem clockParts_holds : Rows.ClockPartsSaid := clockParts.over
#print axioms clockParts_holds
end Go.Proofs.Ytmkimkffglidhaa
