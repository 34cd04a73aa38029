/-
  The law ClockOrder of layer 9 answers true for every two pairs of a boot and a count: their tags are there just if both numbers may be, stand in the order of their boots and then of their counts, are the same just if the pairs are, and have their parts again; no condition.
-/
import Derived.Test.YtmkimkffglidhaaRows
import Derived.WalkKit
import Derived.ProofKit
import Derived.OpenShut
import Derived.ShutString
import Derived.ChangeOld
import Derived.Below
import Derived.SizedLaws
import Derived.ChangeSame
import Derived.ChangeMaps5
import Derived.Test.YtmkimkffglidhaaCkD
import Derived.Test.YtmkimkffglidhaaOp9
namespace Go.Proofs.Ytmkimkffglidhaa
namespace clockOrder
open Go.ChangeShapes Go.WideShapes Go.ChangeAt Go.RowKit
set_option linter.unusedVariables false
attribute [local go_sem ↓] Go.wp_at_zero Go.wp_at_succ

theorem own : ownKnob Try.prog.godebug = none := by kernel_rfl
theorem laidOut : laidOutB Try.prog = true := by kernel_rfl

theorem core (x y x' y' : Nat) (w : World) (hx : x < 65536) (hy : y < 65536) (hx' : x' < 65536) (hy' : y' < 65536) :
    Calls Try.prog 6 #[.agg #[.int .u16 (x : Int), .int .u16 (y : Int)], .agg #[.int .u16 (x' : Int), .int .u16 (y' : Int)]] w fun e w' => e = .returned (.bool true) ∧ Below w.heap.size w w' := by
  have J : ∀ x y : Nat, x < 65536 → y < 65536 → ∃ (ok : Bool) (t : Int), (∀ w, Calls Try.prog 8 #[.int .i64 x, .int .i64 y] w fun e w' => e = .returned (.tuple #[.int .i64 t, .bool ok]) ∧ w = w') ∧ (ok = true ↔ (1 ≤ x ∧ x ≤ 32767 ∧ 1 ≤ y)) := by
    intro x y hx hy
    by_cases h : 1 ≤ x ∧ x ≤ 32767 ∧ 1 ≤ y
    · exact ⟨true, _, fun w => join_yes x y w (by omega) (by omega) (by omega) (by omega), by simp; omega⟩
    · exact ⟨false, _, fun w => join_no x y w (by omega), by simp; omega⟩
  obtain ⟨ok, t, cJ, hok⟩ := J x y hx hy
  obtain ⟨is, t', cK, his⟩ := J x' y' hx' hy'
  by_cases hno : ok = true ∧ is = true
  · have a := hok.1 hno.1
    have b := his.1 hno.2
    clear hok his cJ cK hno J
    by_cases h1 : x < x'
    · exact coreA x y x' y' w (by omega) (by omega) (by omega) (by omega) h1
    by_cases h2 : x' < x
    · exact coreB x y x' y' w (by omega) (by omega) (by omega) (by omega) h2
    by_cases h3 : y < y'
    · exact coreC x y x' y' w (by omega) (by omega) (by omega) (by omega) (by omega)
    by_cases h4 : y' < y
    · exact coreD x y x' y' w (by omega) (by omega) (by omega) (by omega) (by omega)
    exact coreE x y x' y' w (by omega) (by omega) (by omega) (by omega) (by omega)
  · exact coreN x y x' y' w ok is t t' cJ cK hx hy hx' hy' hok his hno


set_option maxRecDepth 100000 in
theorem lifted (os : Os) (started : os.Started) (H : Type) (enc : TypeId × Value → H) :
    ReturnsInHanded {} Try.checked os 6 .any (Rows.clockOrderSpec.pre6 enc Try.prog Try.f6 Rows.clockOrderRow.domain false) (Rows.clockOrderSpec.post enc Try.prog Try.f6 false true false false) := by
  refine returnsInHanded_of_change_sized (C := Try.checked) own started (by kernel_rfl) Try.func6
    (ChangeSpec.witness6 (enc := enc) (C := Try.checked) false ⟨#[], #[.agg #[.int .u16 0, .int .u16 0], .agg #[.int .u16 0, .int .u16 0]], []⟩ 8 (by kernel_rfl) (by kernel_rfl) (by kernel_rfl) (by kernel_rfl)) ?_
  intro W base args ds gs before hval0 hW hcnd hsz0 _
  have hval : ∀ (j : Nat) t v, Try.f6.params[j]? = some t → args[j]? = some v → Value.okWide Try.prog W .any base t v := hval0
  have hsz : (DataW.weightsEach Try.prog (Try.f6.params.toList ++ Rows.clockOrderSpec.plain.varTypes Try.prog) (ds ++ gs)).all (· ≤ reachBytes) = true := hsz0
  have hW' := hW
  obtain ⟨p, q, hA0, hV, rfl, hfz, hnd⟩ := hW
  have hA : DataW.TrodAll enc Try.prog W 0 (fun _ => true) true Try.f6.params.toList args.toList ds p := hA0
  rw [Try.params6] at hA hval hsz
  obtain ⟨v0, vs0, d0, ds0, p0, q0, hargs, rfl, rfl, h0, r0⟩ := trodAll_cons hA
  obtain ⟨v1, vs1, d1, ds1, p1, q1, rfl, rfl, rfl, h1, r1⟩ := trodAll_cons r0
  obtain ⟨rfl, rfl, rfl⟩ := trodAll_nil r1
  obtain rfl : args = #[v0, v1] := by cases args; simp_all
  obtain ⟨rfl, rfl⟩ := trodVars_none hV
  have k0 := h0
  have lt0 : ∀ x ∈ p0, x.block < W.heap.size := by obtain ⟨m, hm⟩ := k0; exact DataW.trod_lt m _ _ _ hm
  obtain ⟨x0, y0, e0, g0, rfl⟩ := open_pair16 (hval 0 39 v0 rfl rfl) h0
  have k1 := h1
  have lt1 : ∀ x ∈ p1, x.block < W.heap.size := by obtain ⟨m, hm⟩ := k1; exact DataW.trod_lt m _ _ _ hm
  obtain ⟨x1, y1, e1, g1, rfl⟩ := open_pair16 (hval 1 39 v1 rfl rfl) h1
  clear hA0 hval0 hsz0
  refine (core x0 y0 x1 y1 W e0 g0 e1 g1).mono fun e W' ⟨he, bel⟩ => ?_
  subst he
  exact ⟨_, rfl, _, _, _, [], _, [], hW', trodAll_mk1 (shut_bool Try.underlying4 _), (trodAll_cons_mk (Below.trod laidOut (by kernel_rfl) (of_decide_eq_true (by kernel_rfl)) k0 bel lt0) (trodAll_cons_mk (Below.trod laidOut (by kernel_rfl) (of_decide_eq_true (by kernel_rfl)) k1 bel lt1) trodAll_mk0)), rfl, bel.frame _, fun h => by cases h⟩

theorem over : Rows.clockOrderRow.holds Try.pinned (OpenSpec.ofChange Rows.clockOrderSpec) :=
  OpenClaim.holds_of_wide 6 Try.f6 rfl rfl rfl rfl rfl rfl rfl ⟨rfl, rfl, rfl, rfl, rfl⟩ rfl rfl rfl rfl rfl (by kernel_rfl) Try.func6 (by kernel_rfl)
    (of_decide_eq_true (by kernel_rfl)) (by unfold Func.isWrapper; first | (rw [if_pos (by decide +kernel)]; kernel_rfl) | (rw [if_neg (by decide +kernel)]; exact ⟨rfl, rfl⟩))
    (fun os started H enc _ => lifted os started H enc)

end clockOrder

/-- The statement. -/
theorem clockOrder_holds : Rows.ClockOrderSaid := clockOrder.over
#print axioms clockOrder_holds
end Go.Proofs.Ytmkimkffglidhaa
