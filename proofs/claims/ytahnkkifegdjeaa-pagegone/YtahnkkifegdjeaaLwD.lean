/-
  What the law's helper awake answers.
-/
import Derived.Test.YtahnkkifegdjeaaLwC
namespace Go.Proofs.Ytahnkkifegdjeaa
open Go.RowKit Go.Shelf Go.Sort Nq
attribute [local go_sem ↓] Go.wp_at_zero Go.wp_at_succ
set_option linter.unusedVariables false

theorem box_ab (w : World) : ∃ W, w.alloc (.cells #[.string ⟨#[98]⟩, .int .i64 0, .bool false, .int .i64 0, .int .u32 0, .bool true, .string ⟨#[97]⟩, .int .i64 0, .bool false, .int .i64 0, .int .u32 0, .bool true] 48) = W ∧ Es W (some ⟨w.heap.size, 0, none⟩) [eB, eA] ∧ Below w.heap.size w W := by
  refine ⟨_, rfl, fun _ => ⟨w.heap.size, 0, rfl, fun i hi => ?_⟩, bal _ _⟩
  have hi' : i < 2 := hi
  match i, hi' with
  | 0, _ => exact ⟨by rw [World.cell?_alloc_new]; rfl, by rw [World.cell?_alloc_new]; rfl, by rw [World.cell?_alloc_new]; rfl, by rw [World.cell?_alloc_new]; rfl, by rw [World.cell?_alloc_new]; rfl, by rw [World.cell?_alloc_new]; rfl⟩
  | 1, _ => exact ⟨by rw [World.cell?_alloc_new]; rfl, by rw [World.cell?_alloc_new]; rfl, by rw [World.cell?_alloc_new]; rfl, by rw [World.cell?_alloc_new]; rfl, by rw [World.cell?_alloc_new]; rfl, by rw [World.cell?_alloc_new]; rfl⟩
set_option maxRecDepth 100000 in
set_option maxHeartbeats 2000000 in
theorem awake_any (w : World) : Calls Try.prog 8 #[] w fun r w' => r = .returned (.bool true) ∧ Below w.heap.size w w' := by
  obtain ⟨W1, hw1, h1, b1⟩ := box_ab w
  have hc := objects_good (some ⟨w.heap.size, 0, none⟩) 2 [eB, eA] [eA, eB] q1 W1 h1 (by decide) rfl awk_sort awk_two (by decide) (by decide) (by decide)
  rw [awk_cut] at hc
  have HB : Hid (Below w.heap.size w W1) := b1
  change Calls Try.prog 11 #[.slice (some ⟨w.heap.size, 0, none⟩) 2 2, .agg #[.string ⟨#[]⟩, .string ⟨#[]⟩, .int .i64 0, .int .i64 1]] W1 _ at hc
  unfold anv at hc
  dsimp only at hc
  clear h1 b1
  go_enter Try.func8, Try.ntmps8
  go_wp2_with fail
  go_at_call 11
  refine hc.mono ?_
  rintro r w2 ⟨v, rfl, ho, k2⟩
  obtain ⟨a2, c2, rfl, es2, _, _, _⟩ := ho.es
  obtain ⟨b, o, rfl, he⟩ := es2 (by decide)
  obtain ⟨W3, hw3, h3, b3⟩ := box_an w2 28 (.slice (some ⟨b, o, none⟩) 1 c2) true ⟨#[97]⟩ 0
  obtain ⟨d0, d1, d2, d3⟩ := h3
  have e0 := ((he 0 (by decide)).keep b3).c0
  have e0' : W3.cell? ⟨b, o, none⟩ = some (.string ⟨#[97]⟩) := e0
  have HL : Hid (Below w.heap.size w W3) := hop (hop HB.out k2) b3
  have HW3 : Hid (w2.alloc (.cells #[.slice (some ⟨b, o, none⟩) 1 c2, .bool true, .string ⟨#[97]⟩, .int .i64 0] 28) = W3) := hw3
  have HD : Hid (NAt W3 w2.heap.size (.slice (some ⟨b, o, none⟩) 1 c2) true ⟨#[97]⟩ 0) := ⟨d0, d1, d2, d3⟩
  have HE0 : Hid (W3.cell? ⟨b, o, none⟩ = some (.string ⟨#[97]⟩)) := e0'
  clear ho es2 he k2 b3 e0 hw3 d0 d1 d2 d3 e0'
  go_upto_region 2 with fail
  rw [HW3.out]
  obtain ⟨d0, d1, d2, d3⟩ := HD.out
  have e0 := HE0.out
  go_wp2
  go_ret
  exact ⟨rfl, HL.out⟩
end Go.Proofs.Ytahnkkifegdjeaa
