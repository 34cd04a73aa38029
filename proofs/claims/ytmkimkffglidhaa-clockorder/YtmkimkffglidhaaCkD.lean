/-
  ClockOrder where one of the tags is not there.
-/
import Derived.Test.YtmkimkffglidhaaCkB
import Derived.Test.YtmkimkffglidhaaOp9
import Derived.Test.YtmkimkffglidhaaCkC
namespace Go.Proofs.Ytmkimkffglidhaa
open Go.ChangeShapes Go.WideShapes Go.ChangeAt Go.RowKit
set_option linter.unusedVariables false
attribute [local go_sem ↓] Go.wp_at_zero Go.wp_at_succ

set_option maxRecDepth 100000 in
set_option maxHeartbeats 16000000 in
theorem coreN (x y x' y' : Nat) (w : World) (ok is : Bool) (t t' : Int)
    (cJ : ∀ w, Calls Try.prog 8 #[.int .i64 x, .int .i64 y] w fun e w' => e = .returned (.tuple #[.int .i64 t, .bool ok]) ∧ w = w')
    (cK : ∀ w, Calls Try.prog 8 #[.int .i64 x', .int .i64 y'] w fun e w' => e = .returned (.tuple #[.int .i64 t', .bool is]) ∧ w = w')
    (x2 : x < 65536) (y2 : y < 65536) (z2 : x' < 65536) (u2 : y' < 65536)
    (hok : ok = true ↔ (1 ≤ x ∧ x ≤ 32767 ∧ 1 ≤ y)) (his : is = true ↔ (1 ≤ x' ∧ x' ≤ 32767 ∧ 1 ≤ y')) (hno : ¬ (ok = true ∧ is = true)) :
    Calls Try.prog 6 #[.agg #[.int .u16 (x : Int), .int .u16 (y : Int)], .agg #[.int .u16 (x' : Int), .int .u16 (y' : Int)]] w fun e w' => e = .returned (.bool true) ∧ Below w.heap.size w w' := by
  obtain ⟨Z, hZ⟩ : ∃ Z, w.alloc (.cells #[.int .u16 (x : Int), .int .u16 (y : Int)] 39) = Z := ⟨_, rfl⟩
  obtain ⟨X, hX⟩ : ∃ X, Z.alloc (.cells #[.int .u16 (x' : Int), .int .u16 (y' : Int)] 39) = X := ⟨_, rfl⟩
  have HB : Hid (Below w.heap.size w X) := by unfold Hid; rw [← hX, ← hZ]; exact hop (bal _ _) (bal _ _)
  have HP : Hid (Pr X w.heap.size x y) := by unfold Hid; rw [← hX, ← hZ]; exact (Pr.made _ _ _).keep (bal _ _)
  have HQ : Hid (Pr X Z.heap.size x' y') := by unfold Hid; rw [← hX]; exact Pr.made _ _ _
  have cA := awake_any X
  have HO : Hid (ok = true ↔ (1 ≤ x ∧ x ≤ 32767 ∧ 1 ≤ y)) := hok
  have HI : Hid (is = true ↔ (1 ≤ x' ∧ x' ≤ 32767 ∧ 1 ≤ y')) := his
  have HN : Hid (¬ (ok = true ∧ is = true)) := hno
  clear hok his hno
  go_enter Try.func6, Try.ntmps6
  go_wp2_with fail
  go_at_call 7
  refine cA.mono ?_
  rintro e w1 ⟨rfl, b⟩
  clear cA hX hZ
  have p0 := (HP.out.keep b).c0
  have p1 := (HP.out.keep b).c1
  have q0 := (HQ.out.keep b).c0
  have q1 := (HQ.out.keep b).c1
  have HB1 : Hid (Below w.heap.size w w1) := hop HB.out b
  clear b
  generalize w.heap.size = n1 at p0 p1 ⊢
  generalize Z.heap.size = n2 at q0 q1 ⊢
  go_wp2_with fail
  go_at_call 8
  refine (cJ _).mono ?_
  rintro e w2 ⟨rfl, rfl⟩
  clear cJ
  go_wp2_with fail
  go_at_call 8
  refine (cK _).mono ?_
  rintro e w2 ⟨rfl, rfl⟩
  clear cK
  have G1 : ∃ b, decide ((1 : Int) ≤ (y : Int)) = b ∧ (b = true ↔ 1 ≤ y) := ⟨_, rfl, by simp; omega⟩
  have G2 : ∃ b, decide ((1 : Int) ≤ (y' : Int)) = b ∧ (b = true ↔ 1 ≤ y') := ⟨_, rfl, by simp; omega⟩
  obtain ⟨b1, f1, g1⟩ := G1
  obtain ⟨b2, f2, g2⟩ := G2
  have HG1 : Hid (b1 = true ↔ 1 ≤ y) := g1
  have HG2 : Hid (b2 = true ↔ 1 ≤ y') := g2
  clear g1 g2
  cases b1 <;> cases b2
  all_goals
    cases ok <;> cases is
    all_goals
      first
        | exact absurd ⟨rfl, rfl⟩ HN.out
        | (have o := HO.out; have i := HI.out; have k := HG1.out; have l := HG2.out; simp only [true_iff, Bool.false_eq_true, false_iff] at o i k l; exfalso; omega)
        | (clear HN
           go_wp2
           all_goals first | (exfalso; have o := HO.out; have i := HI.out; have k := HG1.out; have l := HG2.out; simp only [true_iff, Bool.false_eq_true, false_iff] at o i k l; omega) | (go_ret; exact ⟨rfl, HB1.out⟩))
end Go.Proofs.Ytmkimkffglidhaa
