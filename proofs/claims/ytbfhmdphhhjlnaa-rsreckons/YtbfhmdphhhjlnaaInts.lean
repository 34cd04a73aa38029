/-
  Rows of numbers that are built by appending one after the other.
-/
import Derived.Test.YtbfhmdphhhjlnaaPick
namespace Go.Proofs.Ytbfhmdphhhjlnaa
open Go.RowKit Gf

theorem info3 : (Try.prog.info? 3).map (fun i => (i.zero, i.size, i.bytes)) = some (some (.int .i64 0), 1, 8) := by kernel_rfl

/-- v holds the numbers g 0 .. g (k - 1), in a block of its own from base on. -/
def OwnI (w : World) (base : Nat) (v : Value) (k : Nat) (g : Nat → Int) : Prop := w.ownsRow base 3 1 v k ((List.range k).map fun i => .int .i64 (g i))
theorem OwnI.start (w : World) (base : Nat) (g : Nat → Int) : OwnI w base (.slice none 0 0) 0 g := World.ownsRow_nil w base 3 1
theorem OwnI.congr {w : World} {base k : Nat} {v : Value} {g g' : Nat → Int} (h : OwnI w base v k g) (e : ∀ i, i < k → g i = g' i) : OwnI w base v k g' := by
  unfold OwnI at *
  have q : ((List.range k).map fun i => Value.int .i64 (g' i)) = ((List.range k).map fun i => Value.int .i64 (g i)) := by
    refine List.map_congr_left fun i hi => ?_
    rw [e i (List.mem_range.1 hi)]
  rw [q]; exact h
theorem OwnI.push {w : World} {base k : Nat} {v : Value} {g : Nat → Int} {x : Int} (h : OwnI w base v k g) (hb : base ≤ w.heap.size) (hx : x = g k) (hk : k + 1 ≤ 1000) :
    ∃ v' W, Sem.run Try.prog (Builtin.append_ #[63, 63] 63 #[v, .slice (some ⟨w.heap.size, 0, none⟩) 1 1]) (w.alloc (.cells #[.int .i64 x] 3)) = .ok v' W ∧ OwnI W base v' (k + 1) g ∧ Below base w W := by
  obtain ⟨i, hi, hzz⟩ := Option.map_eq_some_iff.1 info3
  simp only [Prod.mk.injEq] at hzz
  obtain ⟨hz, hs, hby⟩ := hzz
  obtain ⟨W1, hW1⟩ : ∃ W1, W1 = w.alloc (.cells #[.int .i64 x] 3) := ⟨_, rfl⟩
  have hb1 : Below w.heap.size w W1 := by rw [hW1]; exact (Below.refl _ _).alloc (Nat.le_refl _) _
  have own1 : W1.ownsRow base 3 1 v k ((List.range k).map fun i => .int .i64 (g i)) := World.ownsRow.kept (w := w) h (grown_of_below (row := none) hb1) (by cases v.ownBlock <;> simp)
  have cell1 : W1.cell? ⟨w.heap.size, 0, none⟩ = some (.int .i64 x) := by rw [hW1, World.cell?_alloc_new]; rfl
  have hs1 := hb1.size
  rw [← hW1]
  obtain ⟨v', W, hr, hown, hgrow, _⟩ := run_append_own (P := Try.prog) W1 base 63 63 3 i (.int .i64 0) 1 8 Try.underlying63 hi hz hs hby rfl (by omega) v k _ own1 ⟨w.heap.size, 0, none⟩ 1 1 [.int .i64 x] (by simp)
    (fun j u hu => by
      cases j with
      | zero => simp at hu; rw [← hu, add_plain]; exact cell1
      | succ j => simp at hu) (fun u hu => by simp at hu; rw [hu]; rfl) (by unfold maxLen; omega) (by omega) (by omega)
  refine ⟨v', W, hr, ?_, (hb1.mono hb).trans (Below.ofGrown own1 hgrow (by omega))⟩
  unfold OwnI
  rw [List.range_succ, List.map_append, List.map_singleton, ← hx]
  exact hown
theorem OwnI.form {w : World} {base k : Nat} {v : Value} {g : Nat → Int} (h : OwnI w base v k g) : ∃ a c, v = .slice a k c ∧ IRow w a k g := by
  unfold OwnI at h
  rcases h.2 with ⟨rfl, rfl⟩ | ⟨b, cap, cur, e, _⟩
  · exact ⟨none, 0, rfl, fun h => absurd h (by omega)⟩
  · subst e
    exact ⟨_, cap, rfl, fun _ => ⟨b, 0, rfl, fun i hi => by rw [Nat.zero_add, h.cellAt i (by omega)]; simp [hi]⟩⟩
theorem OwnI.keep {w w' : World} {base k : Nat} {v : Value} {g : Nat → Int} (h : OwnI w base v k g) (hb : Below w.heap.size w w') : OwnI w' base v k g :=
  World.ownsRow.kept (w := w) h (grown_of_below (row := none) hb) (by cases v.ownBlock <;> simp)
end Go.Proofs.Ytbfhmdphhhjlnaa
