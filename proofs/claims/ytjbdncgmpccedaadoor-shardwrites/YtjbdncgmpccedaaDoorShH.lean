/-
  Heads of shard files: which may be; what the document's MayHead answers.
-/
import Derived.Test.YtjbdncgmpccedaaDoorByt
import Derived.BigGuardPart
namespace Go.Proofs.YtjbdncgmpccedaaDoor
open Go.RowKit
attribute [local go_sem ↓] Go.wp_at_zero Go.wp_at_succ

/-- A head as six numbers, in a value. -/
def hv (K M I B S D : Int) : Value := .agg #[.int .i64 K, .int .i64 M, .int .i64 I, .int .i64 B, .int .i64 S, .int .i64 D]
/-- A head may be. -/
def MayH (K M I B S D : Int) : Prop := 1 ≤ K ∧ 1 ≤ M ∧ K ≤ 255 ∧ M ≤ 255 - K ∧ 0 ≤ I ∧ I < K + M ∧ 16 ≤ B ∧ B ≤ 4096 ∧ 0 ≤ S ∧ S ≤ 65536 ∧ 0 ≤ D ∧ D ≤ 2147483647

/-- A head in memory. -/
structure HdAt (w : World) (p : Nat) (K M I B S D : Int) : Prop where
  c0 : w.cell? ⟨p, 0, none⟩ = some (.int .i64 K)
  c1 : w.cell? ⟨p, 1, none⟩ = some (.int .i64 M)
  c2 : w.cell? ⟨p, 2, none⟩ = some (.int .i64 I)
  c3 : w.cell? ⟨p, 3, none⟩ = some (.int .i64 B)
  c4 : w.cell? ⟨p, 4, none⟩ = some (.int .i64 S)
  c5 : w.cell? ⟨p, 5, none⟩ = some (.int .i64 D)
theorem HdAt.keep {w w' : World} {p : Nat} {K M I B S D : Int} (h : HdAt w p K M I B S D) (hb : Below w.heap.size w w') : HdAt w' p K M I B S D :=
  ⟨(hb.cell (p := ⟨p, 0, none⟩) (block_lt_of_cell h.c0)).trans h.c0, (hb.cell (p := ⟨p, 1, none⟩) (block_lt_of_cell h.c1)).trans h.c1, (hb.cell (p := ⟨p, 2, none⟩) (block_lt_of_cell h.c2)).trans h.c2,
    (hb.cell (p := ⟨p, 3, none⟩) (block_lt_of_cell h.c3)).trans h.c3, (hb.cell (p := ⟨p, 4, none⟩) (block_lt_of_cell h.c4)).trans h.c4, (hb.cell (p := ⟨p, 5, none⟩) (block_lt_of_cell h.c5)).trans h.c5⟩
theorem box_head (w : World) (t : TypeId) (K M I B S D : Int) : ∃ W, w.alloc (.cells #[.int .i64 K, .int .i64 M, .int .i64 I, .int .i64 B, .int .i64 S, .int .i64 D] t) = W ∧ HdAt W w.heap.size K M I B S D ∧ Below w.heap.size w W :=
  ⟨_, rfl, ⟨by rw [World.cell?_alloc_new]; rfl, by rw [World.cell?_alloc_new]; rfl, by rw [World.cell?_alloc_new]; rfl, by rw [World.cell?_alloc_new]; rfl, by rw [World.cell?_alloc_new]; rfl, by rw [World.cell?_alloc_new]; rfl⟩, bal _ _⟩
end Go.Proofs.YtjbdncgmpccedaaDoor
