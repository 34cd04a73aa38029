/-
  Rows of numbers cut, and put together anew (law JournalAdds, its second loop).
-/
import Derived.Test.YtfgngecenbopnaaDoorJnZn
namespace Go.Proofs.YtfgngecenbopnaaDoor
open Go.RowKit Crc
set_option linter.unusedVariables false

theorem sliceI_l (a : Option Addr) (n c t : Nat) (ht : t ≤ n) (hc : n ≤ c) (w' : World) :
    Sem.run Tryd.prog (Instr.slice 27 (.slice a n c) (some (.int .i64 (t : Int))) none none) w' = .ok (.slice (if c = t then a else a.map (·.add (t * 1))) (n - t) (c - t)) w' := by
  rw [run_slice_l w' 27 a n c Tryd.underlying27 .i64 (t : Int) (by omega) (by omega)]
  have e : (sizeOf (Tryd.prog.elem 27)).run Tryd.prog w' = .ok 1 w' := by kernel_rfl
  rw [e]
  show Result.ok (sliced a _ _ c 1) w' = _
  unfold sliced
  rw [show ((t : Int)).toNat = t by omega]
theorem sliceI_h (a : Option Addr) (n c m : Nat) (hm : m ≤ n) (hc : n ≤ c) (w' : World) :
    Sem.run Tryd.prog (Instr.slice 27 (.slice a n c) none (some (.int .i64 (m : Int))) none) w' = .ok (.slice (if c = 0 then a else a.map (·.add (0 * 1))) m c) w' := by
  rw [run_slice_h w' 27 a n c Tryd.underlying27 .i64 (m : Int) (by omega) (by omega)]
  have e : (sizeOf (Tryd.prog.elem 27)).run Tryd.prog w' = .ok 1 w' := by kernel_rfl
  rw [e]
  show Result.ok (sliced a _ _ c 1) w' = _
  unfold sliced
  rw [show ((m : Int)).toNat = m by omega, Nat.sub_zero, Nat.sub_zero]
theorem IR.cut {w : World} {a : Option Addr} {n c : Nat} {L : Nat → Int} (h : IR w a n L) (t m : Nat) (hm : t + m ≤ n) (hc : n ≤ c) : IR w (if c = t then a else a.map (·.add (t * 1))) m (fun i => L (t + i)) := by
  intro h0
  obtain ⟨b, o, rfl, hv⟩ := h (by omega)
  refine ⟨b, o + t, ?_, fun i hi => ?_⟩
  · rw [if_neg (by omega)]; simp [add_plain]
  · have := hv (t + i) (by omega)
    rw [show o + t + i = o + (t + i) by omega]; exact this
/-- A row that lies elsewhere stays. -/
theorem IR.grown {w W : World} {b o n : Nat} {L : Nat → Int} {row : Option Nat} (h : IR w (some ⟨b, o, none⟩) n L) (gr : w.grownBy W row) (hb : row ≠ some b) : IR W (some ⟨b, o, none⟩) n L := by
  intro h0
  obtain ⟨b', o', e, hv⟩ := h h0
  cases e
  refine ⟨b, o, rfl, fun i hi => ?_⟩
  rw [World.cell?_of_block (w := w) (gr.block b (block_lt_of_cell (a := ⟨b, o + i, none⟩) (hv i hi)) (fun e => hb e.symm))]
  exact hv i hi
/-- A new row of none. -/
theorem IOwn.fresh (w : World) (base : Nat) (L : Nat → Int) (hb : base ≤ w.heap.size) : IOwn (w.alloc (.cells #[] 3)) base (.slice (some ⟨w.heap.size, 0, none⟩) 0 0) 0 L :=
  ⟨rfl, .inr ⟨w.heap.size, 0, #[], rfl, hb, heap_alloc_new _ _, Nat.le_refl _, by unfold maxLen; omega, rfl, rfl⟩⟩
/-- What is left of the numbers. -/
theorem ids_drop {G : Nat → Ver} {L : Nat → Int} {m d : Nat} (h : ∀ i, i < m → (G i).id = L i) (L0 : Nat → Int) : ∀ i, i < m - 1 → (dropF G d i).id = catI (0 + d) (catI 0 L0 L) (fun i => L (d + 1 + i)) i := by
  intro i hi
  unfold dropF catI
  by_cases e : i < d
  · rw [if_pos e, if_pos (by omega), if_neg (by omega), Nat.sub_zero]; exact h i (by omega)
  · rw [if_neg e, if_neg (by omega), h (i + 1) (by omega)]
    congr 1; omega
end Go.Proofs.YtfgngecenbopnaaDoor
