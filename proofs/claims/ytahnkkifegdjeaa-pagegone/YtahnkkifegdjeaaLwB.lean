/-
  What the law's helper same answers, and the document's SameAnswer; an answer as the document has it.
-/
import Derived.Test.YtahnkkifegdjeaaLwE
import Derived.Test.YtahnkkifegdjeaaLwA
import Derived.Test.YtahnkkifegdjeaaRfQ
namespace Go.Proofs.Ytahnkkifegdjeaa
open Go.RowKit Go.Shelf Go.Sort Nq
attribute [local go_sem ↓] Go.wp_at_zero Go.wp_at_succ
set_option linter.unusedVariables false

set_option maxRecDepth 100000 in
set_option maxHeartbeats 2000000 in
/-- Two rows of the same entries are the same. -/
theorem same_any (a b : Option Addr) (c d : Nat) (L : List En) (w : World) (hA : Es w a L) (hB : Es w b L) (hn : L.length ≤ maxLen) :
    Calls Try.prog 18 #[.slice a L.length c, .slice b L.length d] w fun r w' => r = .returned (.bool true) ∧ ∃ q, w' = w.drewN q := by
  unfold maxLen at hn
  have HA : Aside (Es w a L) := hA
  have HB : Aside (Es w b L) := hB
  have g0 : ((L.length : Int) != (L.length : Int)) = false := by simp
  clear hA hB
  go_enter Try.func18, Try.ntmps18
  go_wp2
  go_loopw [5] (fun s5 wr => ∃ i : Nat, s5 = .int .i64 i ∧ i ≤ L.length ∧ ∃ q, wr = w.drewN q) (fun s5 _ => L.length - (intOf s5).toNat)
  case atStart => exact ⟨0, rfl, Nat.zero_le _, 0, rfl⟩
  case round =>
    obtain ⟨i, rfl, hi, q, rfl⟩ := hrel
    by_cases hlt : i < L.length
    · obtain ⟨b1, o1, rfl, hc⟩ := HA.out (by omega)
      obtain ⟨b2, o2, rfl, hd⟩ := HB.out (by omega)
      obtain ⟨c0, c1, c2, c3, c4, c5⟩ := hc i hlt
      obtain ⟨d0, d1, d2, d3, d4, d5⟩ := hd i hlt
      have hiz : (i : Int) < (L.length : Int) := by omega
      clear hc hd
      generalize L[i]! = e at *
      have hne := fun w => run_neE e e w
      rw [decide_eq_true (rfl : e = e)] at hne
      unfold ev at hne
      go_wp2_with fail
      go_quiet (fail)
      go_wp2
      go_round
      case rel => exact ⟨i + 1, by go_num, by omega, _, rfl⟩
      case measure => simp [intOf]; omega
    · have hiz : ¬ (i : Int) < (L.length : Int) := by omega
      go_wp2
      go_ret
      exact ⟨rfl, _, rfl⟩

structure NAt (w : World) (b : Nat) (v : Value) (m : Bool) (k : ByteArray) (i : Int) : Prop where
  c0 : w.cell? ⟨b, 0, none⟩ = some v
  c1 : w.cell? ⟨b, 1, none⟩ = some (.bool m)
  c2 : w.cell? ⟨b, 2, none⟩ = some (.string k)
  c3 : w.cell? ⟨b, 3, none⟩ = some (.int .i64 i)
theorem NAt.keep {w w' : World} {b : Nat} {v : Value} {m : Bool} {k : ByteArray} {i : Int} (h : NAt w b v m k i) (hb : Below w.heap.size w w') : NAt w' b v m k i :=
  ⟨(hb.cell (p := ⟨b, 0, none⟩) (block_lt_of_cell h.c0)).trans h.c0, (hb.cell (p := ⟨b, 1, none⟩) (block_lt_of_cell h.c1)).trans h.c1, (hb.cell (p := ⟨b, 2, none⟩) (block_lt_of_cell h.c2)).trans h.c2, (hb.cell (p := ⟨b, 3, none⟩) (block_lt_of_cell h.c3)).trans h.c3⟩
theorem box_an (w : World) (t : TypeId) (v : Value) (m : Bool) (k : ByteArray) (i : Int) : ∃ W, w.alloc (.cells #[v, .bool m, .string k, .int .i64 i] t) = W ∧ NAt W w.heap.size v m k i ∧ Below w.heap.size w W :=
  ⟨_, rfl, ⟨by rw [World.cell?_alloc_new]; rfl, by rw [World.cell?_alloc_new]; rfl, by rw [World.cell?_alloc_new]; rfl, by rw [World.cell?_alloc_new]; rfl⟩, bal _ _⟩

set_option maxRecDepth 100000 in
set_option maxHeartbeats 4000000 in
/-- Two answers of the same are the same. -/
theorem samean_any (a b : Option Addr) (c d : Nat) (L : List En) (m : Bool) (k : ByteArray) (x : Int) (w : World) (hA : Es w a L) (hB : Es w b L) (hn : L.length ≤ maxLen) :
    Calls Try.prog 16 #[anv (.slice a L.length c) m k x, anv (.slice b L.length d) m k x] w fun r w' => r = .returned (.bool true) ∧ Below w.heap.size w w' := by
  unfold maxLen at hn
  obtain ⟨W1, hw1, h1, b1⟩ := box_an w 34 (.slice a L.length c) m k x
  obtain ⟨W2, hw2, h2, b2⟩ := box_an W1 34 (.slice b L.length d) m k x
  obtain ⟨c0, c1, c2, c3⟩ := h1.keep b2
  obtain ⟨d0, d1, d2, d3⟩ := h2
  have HW : Aside (Below w.heap.size w W2) := hop b1 b2
  have HA : Aside (Es W2 a L) := hA.keep (hop b1 b2)
  have HB : Aside (Es W2 b L) := hB.keep (hop b1 b2)
  have g0 : ((L.length : Int) != (L.length : Int)) = false := by simp
  have g1 : (k.toList == k.toList) = true := by simp
  have g2 : (x != x) = false := by simp
  have g3 : (m == m) = true := by simp
  unfold anv
  clear hA hB b1 b2 h1
  obtain ⟨p1, hp1⟩ : ∃ p, w.heap.size = p := ⟨_, rfl⟩
  obtain ⟨p2, hp2⟩ : ∃ p, W1.heap.size = p := ⟨_, rfl⟩
  rw [hp1] at c0 c1 c2 c3 HW
  rw [hp2] at d0 d1 d2 d3
  have HP : Aside (w.heap.size = p1) := hp1
  rw [hp1]
  go_enter Try.func16, Try.ntmps16
  go_wp2
  clear hw1 hw2 hp1 hp2
  go_loopw [5] (fun s5 wr => ∃ i : Nat, s5 = .int .i64 i ∧ i ≤ L.length ∧ ∃ q, wr = W2.drewN q) (fun s5 _ => L.length - (intOf s5).toNat)
  case atStart => exact ⟨0, rfl, Nat.zero_le _, 0, rfl⟩
  case round =>
    obtain ⟨i, rfl, hi, q, rfl⟩ := hrel
    by_cases hlt : i < L.length
    · obtain ⟨b1, o1, rfl, hc⟩ := HA.out (by omega)
      obtain ⟨b2, o2, rfl, hd⟩ := HB.out (by omega)
      obtain ⟨e0, e1, e2, e3, e4, e5⟩ := hc i hlt
      obtain ⟨f0, f1, f2, f3, f4, f5⟩ := hd i hlt
      have hiz : (i : Int) < (L.length : Int) := by omega
      clear hc hd
      generalize L[i]! = e at *
      have hne := fun w => run_neE e e w
      rw [decide_eq_true (rfl : e = e)] at hne
      unfold ev at hne
      go_wp2_with fail
      go_quiet (fail)
      go_wp2
      go_round
      case rel => exact ⟨i + 1, by go_num, by omega, _, rfl⟩
      case measure => simp [intOf]; omega
    · have hiz : ¬ (i : Int) < (L.length : Int) := by omega
      go_wp2
      go_ret
      exact ⟨rfl, bld HW.out _⟩
end Go.Proofs.Ytahnkkifegdjeaa
