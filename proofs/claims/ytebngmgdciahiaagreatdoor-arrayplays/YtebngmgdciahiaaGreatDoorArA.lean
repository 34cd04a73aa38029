/-
  An array of the program in memory: N, Shape, Quorum, Disk.
-/
import Derived.Test.YtebngmgdciahiaaGreatDoorArV
set_option maxRecDepth 100000
namespace Go.Proofs.YtebngmgdciahiaaGreatDoor
open Go.RowKit
open _root_.Go.Proofs.YtebngmgdciahiaaGreatDoor.Nm _root_.Go.Proofs.YtebngmgdciahiaaGreatDoor.Dk
attribute [local go_sem ↓] Go.wp_at_zero Go.wp_at_succ
set_option linter.unusedVariables false

/-- A disk as an interface value. -/
def dkv (p : Nat) : Value := .iface 61 (.pointer (some ⟨p, 0, none⟩))
/-- The array's own block. -/
def axO (k m bl c g cap : Nat) : Obj := .cells #[.int .i64 (k : Int), .int .i64 (m : Int), .int .i64 (bl : Int), .pointer (some ⟨c, 0, none⟩), .slice (some ⟨g, 0, none⟩) (k + m) cap] 100 (0, 0)
/-- The program's array at b. -/
structure AX (w : World) (b k m bl : Nat) (P : Nat → Pc) : Prop where
  ex : ∃ c g cap cur, w.heap[b]? = some (axO k m bl c g cap) ∧ w.heap[g]? = some (.cells cur 82 (0, 0)) ∧ (∀ i, i < k + m → cur[i]? = some (dkv (P i).p)) ∧ k + m ≤ cap
  k1 : 1 ≤ k
  m1 : 1 ≤ m
  n : k + m ≤ 255
  b1 : bl ≤ 4096
theorem AX.keep {w w' : World} {b k m bl : Nat} {P : Nat → Pc} (h : AX w b k m bl P) (hb : Below w.heap.size w w') : AX w' b k m bl P := by
  obtain ⟨c, g, cap, cur, h1, h2, h3, h4⟩ := h.ex
  exact ⟨⟨c, g, cap, cur, (hb.block b (Array.getElem?_eq_some_iff.1 h1).1).trans h1, (hb.block g (Array.getElem?_eq_some_iff.1 h2).1).trans h2, h3, h4⟩, h.k1, h.m1, h.n, h.b1⟩
/-- Where the rig says so. -/
structure Hs (R : Rg) (b k m bl : Nat) : Prop where
  ex : ∃ c g cap cur, R.K b = some (axO k m bl c g cap) ∧ R.K g = some (.cells cur 82 (0, 0)) ∧ (∀ i, i < k + m → cur[i]? = some (dkv (R.P i).p)) ∧ k + m ≤ cap
  k1 : 1 ≤ k
  m1 : 1 ≤ m
  n : k + m ≤ 255
  b1 : bl ≤ 4096
  N : R.n = k + m
theorem Ar.ax {w0 w : World} {R : Rg} {q g : Option Nat} {S T : Nat → St} {z z2 : Option Fz} (h : Ar w0 w R q g S T z z2) {b k m bl : Nat} (a : Hs R b k m bl) : AX w b k m bl R.P := by
  obtain ⟨c, g, cap, cur, h1, h2, h3, h4⟩ := a.ex
  exact ⟨⟨c, g, cap, cur, h.kept h1, h.kept h2, h3, h4⟩, a.k1, a.m1, a.n, a.b1⟩
section
variable {w : World} {b k m bl : Nat} {P : Nat → Pc}
set_option maxHeartbeats 2000000 in
theorem an_any (h : AX w b k m bl P) : Calls Tryz.prog 21 #[.pointer (some ⟨b, 0, none⟩)] w fun e w' => e = .returned (.int .i64 ((k + m : Nat) : Int)) ∧ w' = w := by
  obtain ⟨c, g, cap, cur, h1, h2, h3, h4⟩ := h.ex
  have c4 := cell_of_row w b 4 _ _ _ h1
  simp only [List.getElem?_toArray, List.getElem?_cons_zero, List.getElem?_cons_succ] at c4
  obtain ⟨n, hn⟩ : ∃ n, k + m = n := ⟨_, rfl⟩
  rw [hn] at c4 ⊢
  clear h h1 h2 h3 h4 hn
  go_enter Tryz.func21, Tryz.ntmps21
  go_wp2
  go_ret
  exact ⟨rfl, rfl⟩
set_option maxHeartbeats 2000000 in
theorem an_nil (w : World) : Calls Tryz.prog 21 #[.pointer none] w fun e w' => e = .returned (.int .i64 0) ∧ w' = w := by
  go_enter Tryz.func21, Tryz.ntmps21
  go_wp2
  go_ret
  exact ⟨rfl, rfl⟩
set_option maxHeartbeats 2000000 in
theorem shape_any (h : AX w b k m bl P) : Calls Tryz.prog 22 #[.pointer (some ⟨b, 0, none⟩)] w fun e w' => e = .returned (.agg #[.int .i64 (k : Int), .int .i64 (m : Int), .int .i64 (bl : Int)]) ∧ Below w.heap.size w w' := by
  obtain ⟨c, g, cap, cur, h1, h2, h3, h4⟩ := h.ex
  have c0 := cell_of_row w b 0 _ _ _ h1
  have c1 := cell_of_row w b 1 _ _ _ h1
  have c2 := cell_of_row w b 2 _ _ _ h1
  simp only [List.getElem?_toArray, List.getElem?_cons_zero, List.getElem?_cons_succ] at c0 c1 c2
  have hlt : b < w.heap.size := (Array.getElem?_eq_some_iff.1 h1).1
  have bW := fun o => bal w o
  have HB : Hid (∀ o, Below w.heap.size w (w.alloc o)) := bW
  clear h h1 h2 h3 h4 bW
  go_enter Tryz.func22, Tryz.ntmps22
  go_wp2
  exact bodyPost_ret (v := .agg #[.int .i64 (k : Int), .int .i64 (m : Int), .int .i64 (bl : Int)]) (results_cell_row (ty := 23) (t := 23) (fr := (0, 0)) rfl _ _ w.heap.size _ _ rfl (heap_alloc_new _ _) Tryz.underlying23 rfl (by kernel_rfl)) rfl ⟨rfl, HB.out _⟩
set_option maxHeartbeats 2000000 in
theorem disk_yes (h : AX w b k m bl P) {i : Nat} (hi : i < k + m) : Calls Tryz.prog 33 #[.pointer (some ⟨b, 0, none⟩), .int .i64 (i : Int)] w fun e w' => e = .returned (.tuple #[dkv (P i).p, .bool true]) ∧ w' = w := by
  have cN := an_any h
  obtain ⟨c, g, cap, cur, h1, h2, h3, h4⟩ := h.ex
  have c4 := cell_of_row w b 4 _ _ _ h1
  simp only [List.getElem?_toArray, List.getElem?_cons_zero, List.getElem?_cons_succ] at c4
  have ci := cell_of_row w g i _ _ _ h2
  rw [h3 i hi] at ci
  obtain ⟨n, hn⟩ : ∃ n, k + m = n := ⟨_, rfl⟩
  rw [hn] at c4 cN hi
  have g1 : decide ((i : Int) < 0) = false := decide_eq_false (by omega)
  have g2 : decide ((n : Int) ≤ (i : Int)) = false := decide_eq_false (by omega)
  have g3 : (i : Int) < (n : Int) := by omega
  obtain ⟨dv, hdv⟩ : ∃ dv, dkv (P i).p = dv := ⟨_, rfl⟩
  rw [hdv] at ci ⊢
  clear h h1 h2 h3 h4 hn hdv
  go_enter Tryz.func33, Tryz.ntmps33
  go_wp2_with fail
  go_at_call 21
  refine cN.mono ?_
  rintro e w' ⟨rfl, rfl⟩
  go_wp2
  go_ret2
  exact ⟨rfl, rfl⟩
set_option maxHeartbeats 2000000 in
theorem disk_no (h : AX w b k m bl P) {i : Int} (hi : i < 0 ∨ ((k + m : Nat) : Int) ≤ i) : Calls Tryz.prog 33 #[.pointer (some ⟨b, 0, none⟩), .int .i64 i] w fun e w' => e = .returned (.tuple #[.nilIface, .bool false]) ∧ w' = w := by
  have cN := an_any h
  clear h
  obtain ⟨n, hn⟩ : ∃ n, k + m = n := ⟨_, rfl⟩
  rw [hn] at cN hi
  clear hn
  by_cases h0 : i < 0
  · have g1 : decide (i < 0) = true := decide_eq_true h0
    clear cN hi
    go_enter Tryz.func33, Tryz.ntmps33
    go_wp2
    go_ret2
    exact ⟨rfl, rfl⟩
  · have g1 : decide (i < 0) = false := decide_eq_false h0
    have g2 : decide ((n : Int) ≤ i) = true := decide_eq_true (by omega)
    clear hi h0
    go_enter Tryz.func33, Tryz.ntmps33
    go_wp2_with fail
    go_at_call 21
    refine cN.mono ?_
    rintro e w' ⟨rfl, rfl⟩
    go_wp2
    go_ret2
    exact ⟨rfl, rfl⟩
end
end Go.Proofs.YtebngmgdciahiaaGreatDoor
