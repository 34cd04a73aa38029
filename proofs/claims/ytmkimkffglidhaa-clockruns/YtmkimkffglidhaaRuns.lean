/-
  The law ClockRuns of layer 9 answers true for every boot and every count: a clock's Next gives the document's tags one by one, Last tells each, and all are below the first tag of the next boot; no condition.
-/
import Derived.Test.YtmkimkffglidhaaRows
import Derived.WalkKit
import Derived.ProofKit
import Derived.OpenShut
import Derived.ShutString
import Derived.ChangeOld
import Derived.Below
import Derived.SizedLaws
import Derived.ChangeSame
import Derived.ChangeMaps5
import Derived.Test.YtmkimkffglidhaaCkB
namespace Go.Proofs.Ytmkimkffglidhaa
namespace clockRuns
open Go.ChangeShapes Go.WideShapes Go.ChangeAt Go.RowKit
set_option linter.unusedVariables false
attribute [local go_sem ↓] Go.wp_at_zero Go.wp_at_succ

theorem own : ownKnob Try.prog.godebug = none := by kernel_rfl
theorem laidOut : laidOutB Try.prog = true := by kernel_rfl

set_option maxRecDepth 100000 in
set_option maxHeartbeats 8000000 in
theorem core (x y : Nat) (w : World) (hx : x < 65536) (hy : y < 256) :
    Calls Try.prog 4 #[.int .u16 (x : Int), .int .u8 (y : Int)] w fun e w' => e = .returned (.bool true) ∧ Below w.heap.size w w' := by
  have cA := awake_any w
  obtain ⟨k, hk⟩ : ∃ k : Int, 1 + ((x : Nat) : Int) % 32766 = k := ⟨_, rfl⟩
  have k1 : 1 ≤ k := by omega
  have k2 : k ≤ 32766 := by omega
  go_enter Try.func4, Try.ntmps4
  go_wp2_with fail
  go_at_call 7
  refine cA.mono ?_
  rintro e w1 ⟨rfl, b1⟩
  clear cA
  have c1 := new_yes k w1 (by omega) (by omega)
  go_wp2_with fail
  go_at_call 12
  refine c1.mono ?_
  rintro e w2 ⟨rfl, hz⟩
  clear c1 hk
  have q2 : Ck w2 w1.heap.size k 0 := by rw [← hz]; exact Ck.made _ _
  have b2 : Below w1.heap.size w1 w2 := by rw [← hz]; exact bal _ _
  have s2 : w1.heap.size < w2.heap.size := by rw [← hz]; simp
  clear hz
  have c1 := new_yes (k + 1) w2 (by omega) (by omega)
  go_wp2_with fail
  go_at_call 12
  refine c1.mono ?_
  rintro e w3 ⟨rfl, hz⟩
  clear c1
  have q3 : Ck w3 w1.heap.size k 0 := by rw [← hz]; exact q2.keep (bal _ _)
  have r3 : Ck w3 w2.heap.size (k + 1) 0 := by rw [← hz]; exact Ck.made _ _
  have b3 : Below w1.heap.size w1 w3 := by rw [← hz]; exact hop b2 (bal _ _)
  clear hz q2 b2
  have hne : w1.heap.size ≠ w2.heap.size := by omega
  have c1 : Calls Try.prog 14 #[.pointer (some ⟨w2.heap.size, 0, none⟩)] w3 fun e w' => e = .returned (.tuple #[.int .i64 ((k + 1) * 65536 + (0 + 1)), .bool true]) ∧ Ck w' w1.heap.size k 0 ∧ Below w1.heap.size w1 w' := by
    refine (next_yes _ _ 0 w3 r3 (by omega) (by omega) (by omega) (by omega)).mono ?_
    rintro e w' ⟨rfl, n, rfl⟩
    exact ⟨rfl, q3.other hne n _, (bld b3 n).setCell (p := ⟨w2.heap.size, 1, none⟩) (by show w1.heap.size ≤ w2.heap.size; omega) _⟩
  clear q3 r3 b3
  generalize w2.heap.size = n2 at *
  generalize hw1 : w1.heap.size = n1 at *
  have HB1 : Hid (Below w.heap.size w w1) := b1
  have HN : Hid (w1.heap.size = n1) := hw1
  clear b1 hw1 s2 hne
  obtain ⟨f, hf⟩ : ∃ f, (k + 1) * 65536 + (0 + 1) = f := ⟨_, rfl⟩
  rw [hf] at c1
  have hf' : f = k * 65536 + 65537 := by omega
  have HF : Hid (f = k * 65536 + 65537) := hf'
  clear hf hf'
  go_wp2_with fail
  go_at_call 14
  refine c1.mono ?_
  rintro e w4 ⟨rfl, q4, b4⟩
  clear c1
  have c1 : Calls Try.prog 15 #[.pointer (some ⟨n1, 0, none⟩)] w4 fun e w' => e = .returned (.int .i64 0) ∧ Ck w' n1 k 0 ∧ Below n1 w1 w' := by
    refine (last_no n1 k w4 q4).mono ?_
    rintro e w' ⟨rfl, n, rfl⟩
    exact ⟨rfl, q4.drewN n, bld b4 n⟩
  clear q4 b4
  go_wp2_with fail
  go_at_call 15
  refine c1.mono ?_
  rintro e w5 ⟨rfl, q5, b5⟩
  clear c1
  go_wp2_with fail
  go_loopw [12] (fun i wr => ∃ j : Nat, 1 ≤ j ∧ j ≤ y + 1 ∧ i = .int .i64 j ∧ Ck wr n1 k ((j : Int) - 1) ∧ Below n1 w1 wr) (fun i _ => y + 1 - (intOf i).toNat)
  case atStart => exact ⟨1, by omega, by omega, rfl, q5, b5⟩
  case round =>
    obtain ⟨j, hj1, hj2, rfl, q, b⟩ := hrel
    clear q5 b5
    by_cases hlt : j ≤ y
    · have il : (j : Int) ≤ (y : Int) := by omega
      have c1 := next_on n1 n1 k ((j : Int) - 1) w1 wr q (Nat.le_refl _) b k1 (by omega) (by omega) (by omega)
      rw [show (j : Int) - 1 + 1 = j by omega] at c1
      clear q b
      obtain ⟨t, ht⟩ : ∃ t, k * 65536 + (j : Int) = t := ⟨_, rfl⟩
      have c2 : ∀ w, Calls Try.prog 9 #[.int .i64 k, .int .i64 j] w fun e w' => e = .returned (.tuple #[.int .i64 t, .bool true]) ∧ w = w' := fun w => by
        rw [← ht]; exact rjoin_yes k j w k1 (by omega) (by omega) (by omega)
      rw [ht] at c1
      have hft : decide (f ≤ t) = false := decide_eq_false (by rw [HF.out]; omega)
      have HT : Hid (k * 65536 + (j : Int) = t) := ht
      clear ht
      go_wp2_with fail
      go_at_call 14
      refine c1.mono ?_
      rintro e w6 ⟨rfl, q6, b6⟩
      clear c1
      have c3 := last_on n1 n1 k (j : Int) w1 w6 q6 b6 k1 (by omega) (by omega) (by omega)
      rw [HT.out] at c3
      clear q6 b6
      go_wp2_with fail
      go_at_call 9
      refine (c2 _).mono ?_
      rintro e w7 ⟨rfl, rfl⟩
      clear c2
      go_wp2_with fail
      go_at_call 15
      refine c3.mono ?_
      rintro e w8 ⟨rfl, q8, b8⟩
      clear c3
      go_wp2
      go_round
      case rel => exact ⟨j + 1, by omega, by omega, by go_num, by rw [show ((j + 1 : Nat) : Int) - 1 = j by omega]; exact q8, b8⟩
      case measure => simp [intOf]; omega
    · have il : decide ((j : Int) ≤ (y : Int)) = false := decide_eq_false (by omega)
      clear q
      go_wp2
      go_ret
      exact ⟨rfl, hop HB1.out (by rw [HN.out]; exact b)⟩


set_option maxRecDepth 100000 in
theorem lifted (os : Os) (started : os.Started) (H : Type) (enc : TypeId × Value → H) :
    ReturnsInHanded {} Try.checked os 4 .any (Rows.clockRunsSpec.pre6 enc Try.prog Try.f4 Rows.clockRunsRow.domain false) (Rows.clockRunsSpec.post enc Try.prog Try.f4 false true false false) := by
  refine returnsInHanded_of_change_sized (C := Try.checked) own started (by kernel_rfl) Try.func4
    (ChangeSpec.witness6 (enc := enc) (C := Try.checked) false ⟨#[], #[.int .u16 0, .int .u8 0], []⟩ 8 (by kernel_rfl) (by kernel_rfl) (by kernel_rfl) (by kernel_rfl)) ?_
  intro W base args ds gs before hval0 hW hcnd hsz0 _
  have hval : ∀ (j : Nat) t v, Try.f4.params[j]? = some t → args[j]? = some v → Value.okWide Try.prog W .any base t v := hval0
  have hsz : (DataW.weightsEach Try.prog (Try.f4.params.toList ++ Rows.clockRunsSpec.plain.varTypes Try.prog) (ds ++ gs)).all (· ≤ reachBytes) = true := hsz0
  have hW' := hW
  obtain ⟨p, q, hA0, hV, rfl, hfz, hnd⟩ := hW
  have hA : DataW.TrodAll enc Try.prog W 0 (fun _ => true) true Try.f4.params.toList args.toList ds p := hA0
  rw [Try.params4] at hA hval hsz
  obtain ⟨v0, vs0, d0, ds0, p0, q0, hargs, rfl, rfl, h0, r0⟩ := trodAll_cons hA
  obtain ⟨v1, vs1, d1, ds1, p1, q1, rfl, rfl, rfl, h1, r1⟩ := trodAll_cons r0
  obtain ⟨rfl, rfl, rfl⟩ := trodAll_nil r1
  obtain rfl : args = #[v0, v1] := by cases args; simp_all
  obtain ⟨rfl, rfl⟩ := trodVars_none hV
  have k0 := h0
  have lt0 : ∀ x ∈ p0, x.block < W.heap.size := by obtain ⟨m, hm⟩ := k0; exact DataW.trod_lt m _ _ _ hm
  obtain ⟨y0, rfl, _, _, w0⟩ := open_int Try.underlying35 (hval 0 35 v0 rfl rfl) h0
  have e0 : 0 ≤ y0 ∧ y0 ≤ 65535 := by simpa [Lit.wf, IntKind.min, IntKind.max, IntKind.signed, IntKind.bits] using w0
  obtain ⟨x0, rfl⟩ : ∃ x : Nat, y0 = (x : Int) := ⟨y0.toNat, by omega⟩
  have k1 := h1
  have lt1 : ∀ x ∈ p1, x.block < W.heap.size := by obtain ⟨m, hm⟩ := k1; exact DataW.trod_lt m _ _ _ hm
  obtain ⟨y1, rfl, _, _, w1⟩ := open_int Try.underlying5 (hval 1 5 v1 rfl rfl) h1
  have e1 : 0 ≤ y1 ∧ y1 ≤ 255 := by simpa [Lit.wf, IntKind.min, IntKind.max, IntKind.signed, IntKind.bits] using w1
  obtain ⟨x1, rfl⟩ : ∃ x : Nat, y1 = (x : Int) := ⟨y1.toNat, by omega⟩
  clear hA0 hval0 hsz0
  refine (core x0 x1 W (by omega) (by omega)).mono fun e W' ⟨he, bel⟩ => ?_
  subst he
  exact ⟨_, rfl, _, _, _, [], _, [], hW', trodAll_mk1 (shut_bool Try.underlying4 _), (trodAll_cons_mk (Below.trod laidOut (by kernel_rfl) (of_decide_eq_true (by kernel_rfl)) k0 bel lt0) (trodAll_cons_mk (Below.trod laidOut (by kernel_rfl) (of_decide_eq_true (by kernel_rfl)) k1 bel lt1) trodAll_mk0)), rfl, bel.frame _, fun h => by cases h⟩

theorem over : Rows.clockRunsRow.holds Try.pinned (OpenSpec.ofChange Rows.clockRunsSpec) :=
  OpenClaim.holds_of_wide 4 Try.f4 rfl rfl rfl rfl rfl rfl rfl ⟨rfl, rfl, rfl, rfl, rfl⟩ rfl rfl rfl rfl rfl (by kernel_rfl) Try.func4 (by kernel_rfl)
    (of_decide_eq_true (by kernel_rfl)) (by unfold Func.isWrapper; first | (rw [if_pos (by decide +kernel)]; kernel_rfl) | (rw [if_neg (by decide +kernel)]; exact ⟨rfl, rfl⟩))
    (fun os started H enc _ => lifted os started H enc)

end clockRuns

/-- The statement. -/
theorem clockRuns_holds : Rows.ClockRunsSaid := clockRuns.over
#print axioms clockRuns_holds
end Go.Proofs.Ytmkimkffglidhaa
