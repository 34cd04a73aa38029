/-
  The closed law ClockEnds of layer 9 answers true: the clock of boot 3 gives 65535 tags and none further, and Last still tells the last one; no condition.
-/
import Derived.Test.YtmkimkffglidhaaRows
import Derived.WalkKit
import Derived.ProofKit
import Derived.OpenShut
import Derived.ShutString
import Derived.ChangeOld
import Derived.Below
import Derived.SizedLaws
import Derived.ChangeSame
import Derived.ChangeMaps5
import Derived.Test.YtmkimkffglidhaaCkB
namespace Go.Proofs.Ytmkimkffglidhaa
namespace clockEnds
open Go.ChangeShapes Go.WideShapes Go.ChangeAt Go.RowKit
set_option linter.unusedVariables false
attribute [local go_sem ↓] Go.wp_at_zero Go.wp_at_succ

theorem own : ownKnob Try.prog.godebug = none := by kernel_rfl
theorem laidOut : laidOutB Try.prog = true := by kernel_rfl

set_option maxRecDepth 100000 in
set_option maxHeartbeats 8000000 in
theorem core (w : World) :
    Calls Try.prog 5 #[] w fun e w' => e = .returned (.bool true) ∧ Below w.heap.size w w' := by
  have cA := awake_any w
  go_enter Try.func5, Try.ntmps5
  go_wp2_with fail
  go_at_call 7
  refine cA.mono ?_
  rintro e w1 ⟨rfl, b1⟩
  clear cA
  have c1 := new_yes 3 w1 (by omega) (by omega)
  go_wp2_with fail
  go_at_call 12
  refine c1.mono ?_
  rintro e w2 ⟨rfl, hz⟩
  clear c1
  have q2 : Ck w2 w1.heap.size 3 0 := by rw [← hz]; exact Ck.made _ _
  have b2 : Below w1.heap.size w1 w2 := by rw [← hz]; exact bal _ _
  clear hz
  generalize hw1 : w1.heap.size = n1 at *
  have HB1 : Hid (Below w.heap.size w w1) := b1
  have HN : Hid (w1.heap.size = n1) := hw1
  clear b1 hw1
  go_wp2_with fail
  go_loopw [3] (fun i wr => ∃ j : Nat, 1 ≤ j ∧ j ≤ 65536 ∧ i = .int .i64 j ∧ Ck wr n1 3 ((j : Int) - 1) ∧ Below n1 w1 wr) (fun i _ => 65536 - (intOf i).toNat)
  case atStart => exact ⟨1, by omega, by omega, rfl, q2, b2⟩
  case round =>
    obtain ⟨j, hj1, hj2, rfl, q, b⟩ := hrel
    clear q2 b2
    by_cases hlt : j ≤ 65535
    · have il : (j : Int) ≤ 65535 := by omega
      have c1 := next_on n1 n1 3 ((j : Int) - 1) w1 wr q (Nat.le_refl _) b (by omega) (by omega) (by omega) (by omega)
      rw [show (3 : Int) * 65536 + ((j : Int) - 1 + 1) = 196608 + j by omega, show (j : Int) - 1 + 1 = j by omega] at c1
      clear q b
      go_wp2_with fail
      go_at_call 14
      refine c1.mono ?_
      rintro e w6 ⟨rfl, q6, b6⟩
      clear c1
      go_wp2
      go_round
      case rel => exact ⟨j + 1, by omega, by omega, by go_num, by rw [show ((j + 1 : Nat) : Int) - 1 = j by omega]; exact q6, b6⟩
      case measure => simp [intOf]; omega
    · have e : j = 65536 := by omega
      subst e
      have q' : Ck wr n1 3 65535 := q
      clear q hlt hj1 hj2
      have cN : ∀ w, Ck w n1 3 65535 → Below n1 w1 w → Calls Try.prog 14 #[.pointer (some ⟨n1, 0, none⟩)] w fun e w' => e = .returned (.tuple #[.int .i64 0, .bool false]) ∧ Ck w' n1 3 65535 ∧ Below n1 w1 w' := by
        intro w q b
        refine (next_no n1 3 w q).mono ?_
        rintro e w' ⟨rfl, n, rfl⟩
        exact ⟨rfl, q.drewN n, bld b n⟩
      have c1 := cN _ q' b
      have HC : Hid (∀ w, Ck w n1 3 65535 → Below n1 w1 w → Calls Try.prog 14 #[.pointer (some ⟨n1, 0, none⟩)] w fun e w' => e = .returned (.tuple #[.int .i64 0, .bool false]) ∧ Ck w' n1 3 65535 ∧ Below n1 w1 w') := cN
      clear cN q' b
      go_wp2_with fail
      go_at_call 14
      refine c1.mono ?_
      rintro e w6 ⟨rfl, q6, b6⟩
      clear c1
      have c1 := HC.out _ q6 b6
      clear q6 b6
      go_wp2_with fail
      go_at_call 14
      refine c1.mono ?_
      rintro e w7 ⟨rfl, q7, b7⟩
      clear c1
      have c1 := last_on n1 n1 3 65535 w1 w7 q7 b7 (by omega) (by omega) (by omega) (by omega)
      clear q7 b7
      go_wp2_with fail
      go_at_call 15
      refine c1.mono ?_
      rintro e w8 ⟨rfl, q8, b8⟩
      clear c1
      go_wp2
      go_ret
      exact ⟨rfl, hop HB1.out (by rw [HN.out]; exact b8)⟩


set_option maxRecDepth 100000 in
theorem lifted (os : Os) (started : os.Started) (H : Type) (enc : TypeId × Value → H) :
    ReturnsInHanded {} Try.checked os 5 .any (Rows.clockEndsSpec.pre6 enc Try.prog Try.f5 Rows.clockEndsRow.domain false) (Rows.clockEndsSpec.post enc Try.prog Try.f5 false true false false) := by
  refine returnsInHanded_of_change_sized (C := Try.checked) own started (by kernel_rfl) Try.func5
    (ChangeSpec.witness6 (enc := enc) (C := Try.checked) false ⟨#[], #[], []⟩ 8 (by kernel_rfl) (by kernel_rfl) (by kernel_rfl) (by kernel_rfl)) ?_
  intro W base args ds gs before hval0 hW hcnd hsz0 _
  have hval : ∀ (j : Nat) t v, Try.f5.params[j]? = some t → args[j]? = some v → Value.okWide Try.prog W .any base t v := hval0
  have hsz : (DataW.weightsEach Try.prog (Try.f5.params.toList ++ Rows.clockEndsSpec.plain.varTypes Try.prog) (ds ++ gs)).all (· ≤ reachBytes) = true := hsz0
  have hW' := hW
  obtain ⟨p, q, hA0, hV, rfl, hfz, hnd⟩ := hW
  have hA : DataW.TrodAll enc Try.prog W 0 (fun _ => true) true Try.f5.params.toList args.toList ds p := hA0
  rw [Try.params5] at hA hval hsz
  obtain ⟨hargs, rfl, rfl⟩ := trodAll_nil hA
  obtain rfl : args = #[] := by cases args; simp_all
  obtain ⟨rfl, rfl⟩ := trodVars_none hV
  clear hA0 hval0 hsz0
  refine (core  W ).mono fun e W' ⟨he, bel⟩ => ?_
  subst he
  exact ⟨_, rfl, _, _, _, [], _, [], hW', trodAll_mk1 (shut_bool Try.underlying4 _), trodAll_mk0, rfl, bel.frame _, fun h => by cases h⟩

theorem over : Rows.clockEndsRow.holds Try.pinned (OpenSpec.ofChange Rows.clockEndsSpec) :=
  OpenClaim.holds_of_wide 5 Try.f5 rfl rfl rfl rfl rfl rfl rfl ⟨rfl, rfl, rfl, rfl, rfl⟩ rfl rfl rfl rfl rfl (by kernel_rfl) Try.func5 (by kernel_rfl)
    (of_decide_eq_true (by kernel_rfl)) (by unfold Func.isWrapper; first | (rw [if_pos (by decide +kernel)]; kernel_rfl) | (rw [if_neg (by decide +kernel)]; exact ⟨rfl, rfl⟩))
    (fun os started H enc _ => lifted os started H enc)

end clockEnds

/-- The statement. -/
theorem clockEnds_holds : Rows.ClockEndsSaid := clockEnds.over
#print axioms clockEnds_holds
end Go.Proofs.Ytmkimkffglidhaa
