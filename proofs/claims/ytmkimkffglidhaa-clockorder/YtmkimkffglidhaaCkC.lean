/-
  Two pairs compared; ClockOrder where both tags are there.
-/
import Derived.Test.YtmkimkffglidhaaCkB
import Derived.Test.YtmkimkffglidhaaOp9
import Derived.ChangeKeysEq
namespace Go.Proofs.Ytmkimkffglidhaa
open Go.ChangeShapes Go.WideShapes Go.ChangeAt Go.RowKit
set_option linter.unusedVariables false
attribute [local go_sem ↓] Go.wp_at_zero Go.wp_at_succ
/-- A pair in a block of its own. -/
def Pr (w : World) (p : Nat) (x y : Nat) : Prop := w.heap[p]? = some (.cells #[.int .u16 (x : Int), .int .u16 (y : Int)] 39)
theorem Pr.c0 {w : World} {p x y : Nat} (h : Pr w p x y) : w.cell? ⟨p, 0, none⟩ = some (.int .u16 (x : Int)) := by
  unfold Pr at h; simp [World.cell?, h]
theorem Pr.c1 {w : World} {p x y : Nat} (h : Pr w p x y) : w.cell? ⟨p, 1, none⟩ = some (.int .u16 (y : Int)) := by
  unfold Pr at h; simp [World.cell?, h]
theorem Pr.keep {w w' : World} {p x y : Nat} (h : Pr w p x y) (k : Below w.heap.size w w') : Pr w' p x y := by
  unfold Pr at *
  rw [k.block p (by
    by_cases hp : p < w.heap.size
    · exact hp
    · rw [Array.getElem?_eq_none (by omega)] at h; cases h)]; exact h
theorem Pr.made (w : World) (x y : Nat) : Pr (w.alloc (.cells #[.int .u16 (x : Int), .int .u16 (y : Int)] 39)) w.heap.size x y := heap_alloc_new _ _
theorem run_pair (x y x' y' : Nat) (f : Bool) (hf : f = decide (x = x' ∧ y = y')) (w : World) : Sem.run Try.prog (binOp .eql 39 (.agg #[.int .u16 (x : Int), .int .u16 (y : Int)]) (.agg #[.int .u16 (x' : Int), .int .u16 (y' : Int)])) w = .ok (.bool f) w := by
  obtain ⟨i, hi⟩ : ∃ i, Try.prog.info? 35 = some i := Option.isSome_iff_exists.1 (by kernel_rfl)
  have key := run_equalIn_array (P := Try.prog) (w := w) 9999 (t := 39) (e := 35) (n := 2) #[.int .u16 (x : Int), .int .u16 (y : Int)] #[.int .u16 (x' : Int), .int .u16 (y' : Int)] Try.underlying39 hi
  rw [cells35] at key
  have e2 : List.range 2 = [0, 1] := rfl
  have k : (Op.equalIn 10000 39 (.agg #[.int .u16 (x : Int), .int .u16 (y : Int)]) (.agg #[.int .u16 (x' : Int), .int .u16 (y' : Int)])).run Try.prog w = .ok f w := by
    rw [show (10000 : Nat) = 9999 + 1 from rfl, key, e2, hf]
    by_cases h0 : x = x'
    · by_cases h1 : y = y'
      · simp [Op.eqItems, go_sem, h0, h1]
      · have : ¬ (y : Int) = (y' : Int) := by omega
        simp [Op.eqItems, go_sem, h0, h1]
        exact this
    · have : ¬ (x : Int) = (x' : Int) := by omega
      simp [Op.eqItems, go_sem, h0]
      exact fun q => absurd q this
  simp [go_sem, k]

set_option maxRecDepth 100000 in
set_option maxHeartbeats 8000000 in
theorem coreA (x y x' y' : Nat) (w : World) (hx : 1 ≤ x ∧ x ≤ 32767) (hy : 1 ≤ y ∧ y < 65536) (hx' : 1 ≤ x' ∧ x' ≤ 32767) (hy' : 1 ≤ y' ∧ y' < 65536) (hc : x < x') :
    Calls Try.prog 6 #[.agg #[.int .u16 (x : Int), .int .u16 (y : Int)], .agg #[.int .u16 (x' : Int), .int .u16 (y' : Int)]] w fun e w' => e = .returned (.bool true) ∧ Below w.heap.size w w' := by
  obtain ⟨t, ht⟩ : ∃ t : Int, (x : Int) * 65536 + y = t := ⟨_, rfl⟩
  obtain ⟨t', ht'⟩ : ∃ t : Int, (x' : Int) * 65536 + y' = t := ⟨_, rfl⟩
  have cJ : ∀ w, Calls Try.prog 8 #[.int .i64 x, .int .i64 y] w fun e w' => e = .returned (.tuple #[.int .i64 t, .bool true]) ∧ w = w' := fun w => by rw [← ht]; exact join_yes x y w (by omega) (by omega) (by omega) (by omega)
  have cK : ∀ w, Calls Try.prog 8 #[.int .i64 x', .int .i64 y'] w fun e w' => e = .returned (.tuple #[.int .i64 t', .bool true]) ∧ w = w' := fun w => by rw [← ht']; exact join_yes x' y' w (by omega) (by omega) (by omega) (by omega)
  have cP := fun w => parts_yes x y t w (by omega) (by omega) (by omega) (by omega) ht.symm
  have rP := fun w => run_pair x y x' y' false (by rw [decide_eq_false (by omega)]) w
  have t1 : 0 < t := by omega
  have t2 : t ≤ 2147483647 := by omega
  have f1 : (x : Int) < (x' : Int) := by omega
  have f2 : t < t' := by omega
  have f3 : (t == t') = false := by simp; omega
  have HC : Hid (x < x') := hc
  clear ht ht' hc
  obtain ⟨Z, hZ⟩ : ∃ Z, w.alloc (.cells #[.int .u16 (x : Int), .int .u16 (y : Int)] 39) = Z := ⟨_, rfl⟩
  obtain ⟨X, hX⟩ : ∃ X, Z.alloc (.cells #[.int .u16 (x' : Int), .int .u16 (y' : Int)] 39) = X := ⟨_, rfl⟩
  have HB : Hid (Below w.heap.size w X) := by unfold Hid; rw [← hX, ← hZ]; exact hop (bal _ _) (bal _ _)
  have HP : Hid (Pr X w.heap.size x y) := by unfold Hid; rw [← hX, ← hZ]; exact (Pr.made _ _ _).keep (bal _ _)
  have HQ : Hid (Pr X Z.heap.size x' y') := by unfold Hid; rw [← hX]; exact Pr.made _ _ _
  have cA := awake_any X
  obtain ⟨x1, x2⟩ := hx
  obtain ⟨y1, y2⟩ := hy
  obtain ⟨z1, z2⟩ := hx'
  obtain ⟨u1, u2⟩ := hy'
  clear x1 y1 z1 u1
  go_enter Try.func6, Try.ntmps6
  go_wp2_with fail
  go_at_call 7
  refine cA.mono ?_
  rintro e w1 ⟨rfl, b1⟩
  clear cA hX hZ
  have p0 := (HP.out.keep b1).c0
  have p1 := (HP.out.keep b1).c1
  have q0 := (HQ.out.keep b1).c0
  have q1 := (HQ.out.keep b1).c1
  have HB1 : Hid (Below w.heap.size w w1) := hop HB.out b1
  clear b1
  generalize w.heap.size = n1 at p0 p1 ⊢
  generalize Z.heap.size = n2 at q0 q1 ⊢
  go_wp2_with fail
  go_at_call 8
  refine (cJ _).mono ?_
  rintro e w2 ⟨rfl, rfl⟩
  clear cJ
  go_wp2_with fail
  go_at_call 8
  refine (cK _).mono ?_
  rintro e w2 ⟨rfl, rfl⟩
  clear cK
  go_wp2_with fail
  go_at_call 10
  refine (cP _).mono ?_
  rintro e w2 ⟨rfl, rfl⟩
  clear cP
  go_wp2
  all_goals first | (exfalso; have hc := HC.out; omega) | (go_ret; exact ⟨rfl, HB1.out⟩)
set_option maxRecDepth 100000 in
set_option maxHeartbeats 8000000 in
theorem coreB (x y x' y' : Nat) (w : World) (hx : 1 ≤ x ∧ x ≤ 32767) (hy : 1 ≤ y ∧ y < 65536) (hx' : 1 ≤ x' ∧ x' ≤ 32767) (hy' : 1 ≤ y' ∧ y' < 65536) (hc : x' < x) :
    Calls Try.prog 6 #[.agg #[.int .u16 (x : Int), .int .u16 (y : Int)], .agg #[.int .u16 (x' : Int), .int .u16 (y' : Int)]] w fun e w' => e = .returned (.bool true) ∧ Below w.heap.size w w' := by
  obtain ⟨t, ht⟩ : ∃ t : Int, (x : Int) * 65536 + y = t := ⟨_, rfl⟩
  obtain ⟨t', ht'⟩ : ∃ t : Int, (x' : Int) * 65536 + y' = t := ⟨_, rfl⟩
  have cJ : ∀ w, Calls Try.prog 8 #[.int .i64 x, .int .i64 y] w fun e w' => e = .returned (.tuple #[.int .i64 t, .bool true]) ∧ w = w' := fun w => by rw [← ht]; exact join_yes x y w (by omega) (by omega) (by omega) (by omega)
  have cK : ∀ w, Calls Try.prog 8 #[.int .i64 x', .int .i64 y'] w fun e w' => e = .returned (.tuple #[.int .i64 t', .bool true]) ∧ w = w' := fun w => by rw [← ht']; exact join_yes x' y' w (by omega) (by omega) (by omega) (by omega)
  have cP := fun w => parts_yes x y t w (by omega) (by omega) (by omega) (by omega) ht.symm
  have rP := fun w => run_pair x y x' y' false (by rw [decide_eq_false (by omega)]) w
  have t1 : 0 < t := by omega
  have t2 : t ≤ 2147483647 := by omega
  have f1 : decide ((x : Int) < (x' : Int)) = false := by exact decide_eq_false (by omega)
  have f2 : ((x : Int) == (x' : Int)) = false := by simp; omega
  have f3 : decide (t < t') = false := by exact decide_eq_false (by omega)
  have f4 : (t == t') = false := by simp; omega
  have HC : Hid (x' < x) := hc
  clear ht ht' hc
  obtain ⟨Z, hZ⟩ : ∃ Z, w.alloc (.cells #[.int .u16 (x : Int), .int .u16 (y : Int)] 39) = Z := ⟨_, rfl⟩
  obtain ⟨X, hX⟩ : ∃ X, Z.alloc (.cells #[.int .u16 (x' : Int), .int .u16 (y' : Int)] 39) = X := ⟨_, rfl⟩
  have HB : Hid (Below w.heap.size w X) := by unfold Hid; rw [← hX, ← hZ]; exact hop (bal _ _) (bal _ _)
  have HP : Hid (Pr X w.heap.size x y) := by unfold Hid; rw [← hX, ← hZ]; exact (Pr.made _ _ _).keep (bal _ _)
  have HQ : Hid (Pr X Z.heap.size x' y') := by unfold Hid; rw [← hX]; exact Pr.made _ _ _
  have cA := awake_any X
  obtain ⟨x1, x2⟩ := hx
  obtain ⟨y1, y2⟩ := hy
  obtain ⟨z1, z2⟩ := hx'
  obtain ⟨u1, u2⟩ := hy'
  clear x1 y1 z1 u1
  go_enter Try.func6, Try.ntmps6
  go_wp2_with fail
  go_at_call 7
  refine cA.mono ?_
  rintro e w1 ⟨rfl, b1⟩
  clear cA hX hZ
  have p0 := (HP.out.keep b1).c0
  have p1 := (HP.out.keep b1).c1
  have q0 := (HQ.out.keep b1).c0
  have q1 := (HQ.out.keep b1).c1
  have HB1 : Hid (Below w.heap.size w w1) := hop HB.out b1
  clear b1
  generalize w.heap.size = n1 at p0 p1 ⊢
  generalize Z.heap.size = n2 at q0 q1 ⊢
  go_wp2_with fail
  go_at_call 8
  refine (cJ _).mono ?_
  rintro e w2 ⟨rfl, rfl⟩
  clear cJ
  go_wp2_with fail
  go_at_call 8
  refine (cK _).mono ?_
  rintro e w2 ⟨rfl, rfl⟩
  clear cK
  go_wp2_with fail
  go_at_call 10
  refine (cP _).mono ?_
  rintro e w2 ⟨rfl, rfl⟩
  clear cP
  go_wp2
  all_goals first | (exfalso; have hc := HC.out; omega) | (go_ret; exact ⟨rfl, HB1.out⟩)
set_option maxRecDepth 100000 in
set_option maxHeartbeats 8000000 in
theorem coreC (x y x' y' : Nat) (w : World) (hx : 1 ≤ x ∧ x ≤ 32767) (hy : 1 ≤ y ∧ y < 65536) (hx' : 1 ≤ x' ∧ x' ≤ 32767) (hy' : 1 ≤ y' ∧ y' < 65536) (hc : x = x' ∧ y < y') :
    Calls Try.prog 6 #[.agg #[.int .u16 (x : Int), .int .u16 (y : Int)], .agg #[.int .u16 (x' : Int), .int .u16 (y' : Int)]] w fun e w' => e = .returned (.bool true) ∧ Below w.heap.size w w' := by
  obtain ⟨t, ht⟩ : ∃ t : Int, (x : Int) * 65536 + y = t := ⟨_, rfl⟩
  obtain ⟨t', ht'⟩ : ∃ t : Int, (x' : Int) * 65536 + y' = t := ⟨_, rfl⟩
  have cJ : ∀ w, Calls Try.prog 8 #[.int .i64 x, .int .i64 y] w fun e w' => e = .returned (.tuple #[.int .i64 t, .bool true]) ∧ w = w' := fun w => by rw [← ht]; exact join_yes x y w (by omega) (by omega) (by omega) (by omega)
  have cK : ∀ w, Calls Try.prog 8 #[.int .i64 x', .int .i64 y'] w fun e w' => e = .returned (.tuple #[.int .i64 t', .bool true]) ∧ w = w' := fun w => by rw [← ht']; exact join_yes x' y' w (by omega) (by omega) (by omega) (by omega)
  have cP := fun w => parts_yes x y t w (by omega) (by omega) (by omega) (by omega) ht.symm
  have rP := fun w => run_pair x y x' y' false (by rw [decide_eq_false (by omega)]) w
  have t1 : 0 < t := by omega
  have t2 : t ≤ 2147483647 := by omega
  have f1 : decide ((x : Int) < (x' : Int)) = false := by exact decide_eq_false (by omega)
  have f2 : ((x : Int) == (x' : Int)) = true := by simp; omega
  have f3 : (y : Int) < (y' : Int) := by omega
  have f4 : t < t' := by omega
  have f5 : (t == t') = false := by simp; omega
  have HC : Hid (x = x' ∧ y < y') := hc
  clear ht ht' hc
  obtain ⟨Z, hZ⟩ : ∃ Z, w.alloc (.cells #[.int .u16 (x : Int), .int .u16 (y : Int)] 39) = Z := ⟨_, rfl⟩
  obtain ⟨X, hX⟩ : ∃ X, Z.alloc (.cells #[.int .u16 (x' : Int), .int .u16 (y' : Int)] 39) = X := ⟨_, rfl⟩
  have HB : Hid (Below w.heap.size w X) := by unfold Hid; rw [← hX, ← hZ]; exact hop (bal _ _) (bal _ _)
  have HP : Hid (Pr X w.heap.size x y) := by unfold Hid; rw [← hX, ← hZ]; exact (Pr.made _ _ _).keep (bal _ _)
  have HQ : Hid (Pr X Z.heap.size x' y') := by unfold Hid; rw [← hX]; exact Pr.made _ _ _
  have cA := awake_any X
  obtain ⟨x1, x2⟩ := hx
  obtain ⟨y1, y2⟩ := hy
  obtain ⟨z1, z2⟩ := hx'
  obtain ⟨u1, u2⟩ := hy'
  clear x1 y1 z1 u1
  go_enter Try.func6, Try.ntmps6
  go_wp2_with fail
  go_at_call 7
  refine cA.mono ?_
  rintro e w1 ⟨rfl, b1⟩
  clear cA hX hZ
  have p0 := (HP.out.keep b1).c0
  have p1 := (HP.out.keep b1).c1
  have q0 := (HQ.out.keep b1).c0
  have q1 := (HQ.out.keep b1).c1
  have HB1 : Hid (Below w.heap.size w w1) := hop HB.out b1
  clear b1
  generalize w.heap.size = n1 at p0 p1 ⊢
  generalize Z.heap.size = n2 at q0 q1 ⊢
  go_wp2_with fail
  go_at_call 8
  refine (cJ _).mono ?_
  rintro e w2 ⟨rfl, rfl⟩
  clear cJ
  go_wp2_with fail
  go_at_call 8
  refine (cK _).mono ?_
  rintro e w2 ⟨rfl, rfl⟩
  clear cK
  go_wp2_with fail
  go_at_call 10
  refine (cP _).mono ?_
  rintro e w2 ⟨rfl, rfl⟩
  clear cP
  go_wp2
  all_goals first | (exfalso; have hc := HC.out; omega) | (go_ret; exact ⟨rfl, HB1.out⟩)
set_option maxRecDepth 100000 in
set_option maxHeartbeats 8000000 in
theorem coreD (x y x' y' : Nat) (w : World) (hx : 1 ≤ x ∧ x ≤ 32767) (hy : 1 ≤ y ∧ y < 65536) (hx' : 1 ≤ x' ∧ x' ≤ 32767) (hy' : 1 ≤ y' ∧ y' < 65536) (hc : x = x' ∧ y' < y) :
    Calls Try.prog 6 #[.agg #[.int .u16 (x : Int), .int .u16 (y : Int)], .agg #[.int .u16 (x' : Int), .int .u16 (y' : Int)]] w fun e w' => e = .returned (.bool true) ∧ Below w.heap.size w w' := by
  obtain ⟨t, ht⟩ : ∃ t : Int, (x : Int) * 65536 + y = t := ⟨_, rfl⟩
  obtain ⟨t', ht'⟩ : ∃ t : Int, (x' : Int) * 65536 + y' = t := ⟨_, rfl⟩
  have cJ : ∀ w, Calls Try.prog 8 #[.int .i64 x, .int .i64 y] w fun e w' => e = .returned (.tuple #[.int .i64 t, .bool true]) ∧ w = w' := fun w => by rw [← ht]; exact join_yes x y w (by omega) (by omega) (by omega) (by omega)
  have cK : ∀ w, Calls Try.prog 8 #[.int .i64 x', .int .i64 y'] w fun e w' => e = .returned (.tuple #[.int .i64 t', .bool true]) ∧ w = w' := fun w => by rw [← ht']; exact join_yes x' y' w (by omega) (by omega) (by omega) (by omega)
  have cP := fun w => parts_yes x y t w (by omega) (by omega) (by omega) (by omega) ht.symm
  have rP := fun w => run_pair x y x' y' false (by rw [decide_eq_false (by omega)]) w
  have t1 : 0 < t := by omega
  have t2 : t ≤ 2147483647 := by omega
  have f1 : decide ((x : Int) < (x' : Int)) = false := by exact decide_eq_false (by omega)
  have f2 : ((x : Int) == (x' : Int)) = true := by simp; omega
  have f3 : decide ((y : Int) < (y' : Int)) = false := by exact decide_eq_false (by omega)
  have f4 : decide (t < t') = false := by exact decide_eq_false (by omega)
  have f5 : (t == t') = false := by simp; omega
  have HC : Hid (x = x' ∧ y' < y) := hc
  clear ht ht' hc
  obtain ⟨Z, hZ⟩ : ∃ Z, w.alloc (.cells #[.int .u16 (x : Int), .int .u16 (y : Int)] 39) = Z := ⟨_, rfl⟩
  obtain ⟨X, hX⟩ : ∃ X, Z.alloc (.cells #[.int .u16 (x' : Int), .int .u16 (y' : Int)] 39) = X := ⟨_, rfl⟩
  have HB : Hid (Below w.heap.size w X) := by unfold Hid; rw [← hX, ← hZ]; exact hop (bal _ _) (bal _ _)
  have HP : Hid (Pr X w.heap.size x y) := by unfold Hid; rw [← hX, ← hZ]; exact (Pr.made _ _ _).keep (bal _ _)
  have HQ : Hid (Pr X Z.heap.size x' y') := by unfold Hid; rw [← hX]; exact Pr.made _ _ _
  have cA := awake_any X
  obtain ⟨x1, x2⟩ := hx
  obtain ⟨y1, y2⟩ := hy
  obtain ⟨z1, z2⟩ := hx'
  obtain ⟨u1, u2⟩ := hy'
  clear x1 y1 z1 u1
  go_enter Try.func6, Try.ntmps6
  go_wp2_with fail
  go_at_call 7
  refine cA.mono ?_
  rintro e w1 ⟨rfl, b1⟩
  clear cA hX hZ
  have p0 := (HP.out.keep b1).c0
  have p1 := (HP.out.keep b1).c1
  have q0 := (HQ.out.keep b1).c0
  have q1 := (HQ.out.keep b1).c1
  have HB1 : Hid (Below w.heap.size w w1) := hop HB.out b1
  clear b1
  generalize w.heap.size = n1 at p0 p1 ⊢
  generalize Z.heap.size = n2 at q0 q1 ⊢
  go_wp2_with fail
  go_at_call 8
  refine (cJ _).mono ?_
  rintro e w2 ⟨rfl, rfl⟩
  clear cJ
  go_wp2_with fail
  go_at_call 8
  refine (cK _).mono ?_
  rintro e w2 ⟨rfl, rfl⟩
  clear cK
  go_wp2_with fail
  go_at_call 10
  refine (cP _).mono ?_
  rintro e w2 ⟨rfl, rfl⟩
  clear cP
  go_wp2
  all_goals first | (exfalso; have hc := HC.out; omega) | (go_ret; exact ⟨rfl, HB1.out⟩)
set_option maxRecDepth 100000 in
set_option maxHeartbeats 8000000 in
theorem coreE (x y x' y' : Nat) (w : World) (hx : 1 ≤ x ∧ x ≤ 32767) (hy : 1 ≤ y ∧ y < 65536) (hx' : 1 ≤ x' ∧ x' ≤ 32767) (hy' : 1 ≤ y' ∧ y' < 65536) (hc : x = x' ∧ y = y') :
    Calls Try.prog 6 #[.agg #[.int .u16 (x : Int), .int .u16 (y : Int)], .agg #[.int .u16 (x' : Int), .int .u16 (y' : Int)]] w fun e w' => e = .returned (.bool true) ∧ Below w.heap.size w w' := by
  obtain ⟨t, ht⟩ : ∃ t : Int, (x : Int) * 65536 + y = t := ⟨_, rfl⟩
  obtain ⟨t', ht'⟩ : ∃ t : Int, (x' : Int) * 65536 + y' = t := ⟨_, rfl⟩
  have cJ : ∀ w, Calls Try.prog 8 #[.int .i64 x, .int .i64 y] w fun e w' => e = .returned (.tuple #[.int .i64 t, .bool true]) ∧ w = w' := fun w => by rw [← ht]; exact join_yes x y w (by omega) (by omega) (by omega) (by omega)
  have cK : ∀ w, Calls Try.prog 8 #[.int .i64 x', .int .i64 y'] w fun e w' => e = .returned (.tuple #[.int .i64 t', .bool true]) ∧ w = w' := fun w => by rw [← ht']; exact join_yes x' y' w (by omega) (by omega) (by omega) (by omega)
  have cP := fun w => parts_yes x y t w (by omega) (by omega) (by omega) (by omega) ht.symm
  have rP := fun w => run_pair x y x' y' true (by rw [decide_eq_true hc]) w
  have t1 : 0 < t := by omega
  have t2 : t ≤ 2147483647 := by omega
  have f1 : decide ((x : Int) < (x' : Int)) = false := by exact decide_eq_false (by omega)
  have f2 : ((x : Int) == (x' : Int)) = true := by simp; omega
  have f3 : decide ((y : Int) < (y' : Int)) = false := by exact decide_eq_false (by omega)
  have f4 : decide (t < t') = false := by exact decide_eq_false (by omega)
  have f5 : (t == t') = true := by simp; omega
  have HC : Hid (x = x' ∧ y = y') := hc
  clear ht ht' hc
  obtain ⟨Z, hZ⟩ : ∃ Z, w.alloc (.cells #[.int .u16 (x : Int), .int .u16 (y : Int)] 39) = Z := ⟨_, rfl⟩
  obtain ⟨X, hX⟩ : ∃ X, Z.alloc (.cells #[.int .u16 (x' : Int), .int .u16 (y' : Int)] 39) = X := ⟨_, rfl⟩
  have HB : Hid (Below w.heap.size w X) := by unfold Hid; rw [← hX, ← hZ]; exact hop (bal _ _) (bal _ _)
  have HP : Hid (Pr X w.heap.size x y) := by unfold Hid; rw [← hX, ← hZ]; exact (Pr.made _ _ _).keep (bal _ _)
  have HQ : Hid (Pr X Z.heap.size x' y') := by unfold Hid; rw [← hX]; exact Pr.made _ _ _
  have cA := awake_any X
  obtain ⟨x1, x2⟩ := hx
  obtain ⟨y1, y2⟩ := hy
  obtain ⟨z1, z2⟩ := hx'
  obtain ⟨u1, u2⟩ := hy'
  clear x1 y1 z1 u1
  go_enter Try.func6, Try.ntmps6
  go_wp2_with fail
  go_at_call 7
  refine cA.mono ?_
  rintro e w1 ⟨rfl, b1⟩
  clear cA hX hZ
  have p0 := (HP.out.keep b1).c0
  have p1 := (HP.out.keep b1).c1
  have q0 := (HQ.out.keep b1).c0
  have q1 := (HQ.out.keep b1).c1
  have HB1 : Hid (Below w.heap.size w w1) := hop HB.out b1
  clear b1
  generalize w.heap.size = n1 at p0 p1 ⊢
  generalize Z.heap.size = n2 at q0 q1 ⊢
  go_wp2_with fail
  go_at_call 8
  refine (cJ _).mono ?_
  rintro e w2 ⟨rfl, rfl⟩
  clear cJ
  go_wp2_with fail
  go_at_call 8
  refine (cK _).mono ?_
  rintro e w2 ⟨rfl, rfl⟩
  clear cK
  go_wp2_with fail
  go_at_call 10
  refine (cP _).mono ?_
  rintro e w2 ⟨rfl, rfl⟩
  clear cP
  go_wp2
  all_goals first | (exfalso; have hc := HC.out; omega) | (go_ret; exact ⟨rfl, HB1.out⟩)
end Go.Proofs.Ytmkimkffglidhaa
