/-
  The document's format.
-/
import Derived.Test.YtebngmgdciahiaaGreatDoorArX
import Derived.Deep.RegionHeldLaw
set_option maxRecDepth 100000
namespace Go.Proofs.YtebngmgdciahiaaGreatDoor
open Go.RowKit Crc
open _root_.Go.Proofs.YtebngmgdciahiaaGreatDoor.Nm _root_.Go.Proofs.YtebngmgdciahiaaGreatDoor.Dk
attribute [local go_sem ↓] Go.wp_at_zero Go.wp_at_succ
set_option linter.unusedVariables false
/-- A constant's bytes, with a block behind them. -/
theorem conv_const2 (w : World) (C : Array Value) (o : Obj) (n c : Nat) :
    Sem.run Tryz.prog (convert 27 27 (.slice (some ⟨w.heap.size, 0, none⟩) n c)) ((w.alloc (.cells C 5)).alloc o) = .ok (.slice (some ⟨w.heap.size, 0, none⟩) n c) ((w.alloc (.cells C 5 (C.size, C.size + 1))).alloc o) := by
  have hsh : ((w.alloc (.cells C 5)).alloc o).shape? w.heap.size = some (5, C.size) := by
    have : ((w.alloc (.cells C 5)).alloc o).heap[w.heap.size]? = some (.cells C 5) := by
      show ((w.heap.push (.cells C 5)).push o)[w.heap.size]? = _
      rw [Array.getElem?_push_lt (by simp)]
      simp
    unfold World.shape?
    rw [this]
  have hfr : ∀ (k : Nat), ((w.alloc (.cells C 5)).alloc o).freeze ⟨w.heap.size, k, none⟩ 1 = (w.alloc (.cells C 5 (k, k + 1))).alloc o := fun k => by
    have hm : ∀ (a : Array Obj) (x y : Obj) (f : Obj → Obj), ((a.push x).push y).modify a.size f = (a.push (f x)).push y := by
      intro a x y f
      apply Array.ext
      · simp
      · intro i h1 h2
        simp only [Array.getElem_modify, Array.getElem_push]
        by_cases h : a.size = i
        · subst h
          simp
        · by_cases h9 : i < a.size
          · simp [h, h9, Nat.lt_succ_of_lt h9]
          · have : i = a.size + 1 := by simp at h1; omega
            subst this
            simp
    unfold World.freeze
    rw [if_neg (by decide)]
    show ({ (w.alloc (.cells C 5)).alloc o with heap := ((w.heap.push (.cells C 5)).push o).modify w.heap.size _ } : World) = _
    rw [hm]
    rfl
  simp [convert, run_underlying Tryz.underlying27, run_underlying Tryz.underlying5, markStringish, hsh]
  exact hfr _
/-- The three bytes laid ahead of the four. -/
theorem fmt_rows2 (w : World) (k m i : Nat) : ∃ v W, Sem.run Tryz.prog (Builtin.append_ #[27, 27] 27 #[.slice (some ⟨w.heap.size + 1, 0, none⟩) 4 4, .slice (some ⟨w.heap.size, 0, none⟩) 3 3]) ((w.alloc (.cells #[.int .u8 ((k % 256 : Nat) : Int), .int .u8 ((m % 256 : Nat) : Int), .int .u8 ((i % 256 : Nat) : Int)] 5)).alloc (.cells #[.int .u8 83, .int .u8 66, .int .u8 70, .int .u8 49] 5 (4, 5))) = .ok v W ∧ (∃ a c, v = .slice (some a) 7 c ∧ Row W (some a) 7 (fmh k m i)) ∧ Own W w.heap.size v 7 (fmh k m i) ∧ Below w.heap.size w W := by
  have h3 := lfmt3 w k m i
  obtain ⟨w1, hw1⟩ : ∃ w1, w.alloc (.cells #[.int .u8 ((k % 256 : Nat) : Int), .int .u8 ((m % 256 : Nat) : Int), .int .u8 ((i % 256 : Nat) : Int)] 5) = w1 := ⟨_, rfl⟩
  have b1 : Below w.heap.size w w1 := by rw [← hw1]; exact bal _ _
  have hs1 : w1.heap.size = w.heap.size + 1 := by rw [← hw1]; simp
  rw [hw1] at h3 ⊢
  have h4 := lfmt4 w1
  obtain ⟨w2, hw2⟩ : ∃ w2, w1.alloc (.cells #[.int .u8 83, .int .u8 66, .int .u8 70, .int .u8 49] 5 (4, 5)) = w2 := ⟨_, rfl⟩
  have b2 : Below w1.heap.size w1 w2 := by rw [← hw2]; exact bal _ _
  rw [hw2, hs1] at h4
  rw [hw2]
  obtain ⟨v, W, hr, ho, hb⟩ := growB (c := 3) h4 (h3.keep b2) (by omega) (by omega) (by omega)
  have hlo := ho.row (by omega) (fmh_lt k m i)
  obtain ⟨g, c, e, hg, _, _, hrow⟩ := hlo
  have hB : Below w.heap.size w W := (b1.trans (b2.mono b1.size)).trans (hb.mono (Nat.le_trans b1.size b2.size))
  refine ⟨v, W, hr, ⟨⟨g, 0, none⟩, c, e, hrow⟩, ?_, hB⟩
  rcases ho with ⟨hl, e | ⟨g, cap, cur, e, hg, hh, hr⟩⟩
  · exact ⟨hl, .inl e⟩
  · exact ⟨hl, .inr ⟨g, cap, cur, e, Nat.le_trans (Nat.le_trans b1.size b2.size) hg, hh, hr⟩⟩
set_option maxHeartbeats 4000000 in
theorem rfmt_any {w : World} {b k m bl : Nat} {P : Nat → Pc} (h : VX w b k m bl P) (hn : k + m ≤ 255) (x : Int) :
    Calls Tryz.prog 32 #[.pointer (some ⟨b, 0, none⟩), .int .i64 x] w fun e w' => ∃ a c, e = .returned (.slice a 11 c) ∧ Hid (Inp w' a 11 c (fmtB k m (x % 256).toNat) ∧ Below w.heap.size w w') := by
  obtain ⟨g, cap, c0, c1, _, _⟩ := h.cells
  have vk := fun W => cv_u8 k (by omega) W
  have vm := fun W => cv_u8 m (by omega) W
  have vi := fun W => cv_u8i x W
  obtain ⟨i, hi⟩ : ∃ i, (x % 256).toNat = i := ⟨_, rfl⟩
  rw [hi] at vi ⊢
  have HS9 : Hid (w.drew.cell? ⟨b, 0, none⟩ = some (.int .i64 (k : Int)) ∧ w.drew.cell? ⟨b, 1, none⟩ = some (.int .i64 (m : Int))) := ⟨c0, c1⟩
  have cs1 : Sem.run Tryz.prog (convert 27 27 (.slice (some ⟨w.heap.size, 0, none⟩) 4 4)) ((w.alloc (.cells #[.int .u8 83, .int .u8 66, .int .u8 70, .int .u8 49] 5)).drew) = .ok (.slice (some ⟨w.heap.size, 0, none⟩) 4 4) ((w.alloc (.cells #[.int .u8 83, .int .u8 66, .int .u8 70, .int .u8 49] 5 (4, 5))).drew) := Lib.run_convert_bytes_const (P := Tryz.prog) w.drew 27 5 #[.int .u8 83, .int .u8 66, .int .u8 70, .int .u8 49] 4 4 Tryz.underlying27 Tryz.underlying5
  have cs2 : Sem.run Tryz.prog (convert 27 27 (.slice (some ⟨w.heap.size, 0, none⟩) 4 4)) (((w.alloc (.cells #[.int .u8 83, .int .u8 66, .int .u8 70, .int .u8 49] 5)).alloc (.cells #[.int .u8 ((k : Int) % 256), .int .u8 ((m : Int) % 256), .int .u8 ((i : Int) % 256)] 5)).drew) = .ok (.slice (some ⟨w.heap.size, 0, none⟩) 4 4) (((w.alloc (.cells #[.int .u8 83, .int .u8 66, .int .u8 70, .int .u8 49] 5 (4, 5))).alloc (.cells #[.int .u8 ((k : Int) % 256), .int .u8 ((m : Int) % 256), .int .u8 ((i : Int) % 256)] 5)).drew) := conv_const2 w.drew #[.int .u8 83, .int .u8 66, .int .u8 70, .int .u8 49] _ 4 4
  have cs3 : Sem.run Tryz.prog (convert 27 27 (.slice (some ⟨w.heap.size + 1, 0, none⟩) 4 4)) (((w.alloc (.cells #[.int .u8 ((k : Int) % 256), .int .u8 ((m : Int) % 256), .int .u8 ((i : Int) % 256)] 5)).alloc (.cells #[.int .u8 83, .int .u8 66, .int .u8 70, .int .u8 49] 5)).drew) = .ok (.slice (some ⟨w.heap.size + 1, 0, none⟩) 4 4) (((w.alloc (.cells #[.int .u8 ((k : Int) % 256), .int .u8 ((m : Int) % 256), .int .u8 ((i : Int) % 256)] 5)).alloc (.cells #[.int .u8 83, .int .u8 66, .int .u8 70, .int .u8 49] 5 (4, 5))).drew) := by
    have := Lib.run_convert_bytes_const (P := Tryz.prog) (w.drew.alloc (.cells #[.int .u8 ((k % 256 : Nat) : Int), .int .u8 ((m % 256 : Nat) : Int), .int .u8 ((i % 256 : Nat) : Int)] 5)) 27 5 #[.int .u8 83, .int .u8 66, .int .u8 70, .int .u8 49] 4 4 Tryz.underlying27 Tryz.underlying5
    rw [show (w.drew.alloc (.cells #[.int .u8 ((k % 256 : Nat) : Int), .int .u8 ((m % 256 : Nat) : Int), .int .u8 ((i % 256 : Nat) : Int)] 5)).heap.size = w.heap.size + 1 from Array.size_push _] at this
    exact this
  have bd : Below w.heap.size w w.drew := (Below.refl _ _).drew
  obtain ⟨v, W, hr, ⟨va, vc, rfl, hrow⟩, hown, hbel⟩ := fmt_rows w.drew k m i
  obtain ⟨u, U, hr2, ⟨ua, uc, rfl, hrow2⟩, hown2, hbel2⟩ := fmt_rows2 w.drew k m i
  have HA : Hid (Sem.run Tryz.prog (Builtin.append_ #[27, 27] 27 #[.slice (some ⟨w.heap.size, 0, none⟩) 4 4, .slice (some ⟨w.heap.size + 1, 0, none⟩) 3 3]) (((w.alloc (.cells #[.int .u8 83, .int .u8 66, .int .u8 70, .int .u8 49] 5 (4, 5))).alloc (.cells #[.int .u8 ((k % 256 : Nat) : Int), .int .u8 ((m % 256 : Nat) : Int), .int .u8 ((i % 256 : Nat) : Int)] 5)).drew) = .ok (.slice (some va) 7 vc) W) := hr
  have HC : Hid (Sem.run Tryz.prog (Builtin.append_ #[27, 27] 27 #[.slice (some ⟨w.heap.size + 1, 0, none⟩) 4 4, .slice (some ⟨w.heap.size, 0, none⟩) 3 3]) (((w.alloc (.cells #[.int .u8 ((k % 256 : Nat) : Int), .int .u8 ((m % 256 : Nat) : Int), .int .u8 ((i % 256 : Nat) : Int)] 5)).alloc (.cells #[.int .u8 83, .int .u8 66, .int .u8 70, .int .u8 49] 5 (4, 5))).drew) = .ok (.slice (some ua) 7 uc) U) := hr2
  have HO : Hid (Own W w.heap.size (.slice (some va) 7 vc) 7 (fmh k m i)) := hown
  have HO2 : Hid (Own U w.heap.size (.slice (some ua) 7 uc) 7 (fmh k m i)) := hown2
  have HRow : Hid (Row W (some va) 7 (fmh k m i)) := hrow
  have HRow2 : Hid (Row U (some ua) 7 (fmh k m i)) := hrow2
  have HBW : Hid (Below w.heap.size w W) := bd.trans hbel
  have HBW2 : Hid (Below w.heap.size w U) := bd.trans hbel2
  have HWc : Hid (W.cell? ⟨b, 0, none⟩ = some (.int .i64 (k : Int)) ∧ W.cell? ⟨b, 1, none⟩ = some (.int .i64 (m : Int))) := ⟨(HBW.out.cell (p := ⟨b, 0, none⟩) (block_lt_of_cell c0)).trans c0, (HBW.out.cell (p := ⟨b, 1, none⟩) (block_lt_of_cell c1)).trans c1⟩
  have HUc : Hid (U.cell? ⟨b, 0, none⟩ = some (.int .i64 (k : Int)) ∧ U.cell? ⟨b, 1, none⟩ = some (.int .i64 (m : Int))) := ⟨(HBW2.out.cell (p := ⟨b, 0, none⟩) (block_lt_of_cell c0)).trans c0, (HBW2.out.cell (p := ⟨b, 1, none⟩) (block_lt_of_cell c1)).trans c1⟩
  clear h hn hi hr hr2 hrow hrow2 hown hown2 hbel hbel2 bd
  go_enter Tryz.func32, Tryz.ntmps32
  go_wp2_with fail
  go_region_held_law (fun Y => Y.cell? ⟨b, 0, none⟩ = some (.int .i64 (k : Int)) ∧ Y.cell? ⟨b, 1, none⟩ = some (.int .i64 (m : Int)))
    (first | with_reducible exact HS9.out | with_reducible exact HWc.out | with_reducible exact HUc.out | exact ⟨cell_al HS9.out.1, cell_al HS9.out.2⟩ | exact ⟨cell_al (cell_al HS9.out.1), cell_al (cell_al HS9.out.2)⟩)
    (first
      | refine step_append_ran (by rfl) _ _ 27 (by rfl) (.slice (some ⟨w.heap.size, 0, none⟩) 4 4) (.slice (some ⟨w.heap.size + 1, 0, none⟩) 3 3) (.slice (some va) 7 vc) W (by rfl) (by rfl) (by first | exact HA.out | (dsimp only; exact HA.out)) ?_
      | refine step_append_ran (by rfl) _ _ 27 (by rfl) (.slice (some ⟨w.heap.size + 1, 0, none⟩) 4 4) (.slice (some ⟨w.heap.size, 0, none⟩) 3 3) (.slice (some ua) 7 uc) U (by rfl) (by rfl) (by first | exact HC.out | (dsimp only; exact HC.out)) ?_)
  all_goals clear HA HC HS9 HWc HUc cs1 cs2 cs3 c0 c1 vk vm vi
  all_goals first
   | (
    have cSum := rsum_any (some va) 7 vc (fmh k m i) W HRow.out (by unfold maxLen; omega)
    obtain ⟨sm, hsm⟩ : ∃ sm, sum 7 (fmh k m i) = sm := ⟨_, rfl⟩
    have hsl : sm < 4294967296 := by rw [← hsm]; exact more_lt (by omega) (fmh_lt k m i)
    rw [hsm] at cSum
    have cBy := rbytes_any sm W hsl
    have HM : Hid (sum 7 (fmh k m i) = sm) := hsm
    clear hsm hsl
    go_wp2_with fail
    go_at_call 55
    refine cSum.mono ?_
    rintro e w5 ⟨rfl, rfl⟩
    clear cSum
    go_wp2_with fail
    go_at_call 54
    refine cBy.mono ?_
    rintro e w6 ⟨v4, rfl, hmade, hb6⟩
    clear cBy
    obtain ⟨g4, c4, rfl, _, _, _, hrow4⟩ := hmade.row (by omega) (by4_lt sm)
    obtain ⟨v', W', r1, r2, r3, r4⟩ := appendB (c := c4) (HO.out.keep hb6) hrow4 (fun e => absurd e (by omega)) (by omega) (by have := HBW.out.size; have := hb6.size; omega)
    have hF : cat 7 (fmh k m i) (by4 sm) = fmf k m i := by unfold fmf; rw [HM.out]
    rw [hF] at r2
    obtain ⟨g, c, e, hg, hc1, hc2, hrow⟩ := r2.row (by omega) (fmf_lt k m i)
    subst e
    have HR9 : Hid (Sem.run Tryz.prog (Builtin.append_ #[27, 27] 27 #[.slice (some va) 7 vc, .slice (some ⟨g4, 0, none⟩) 4 c4]) w6 = .ok (.slice (some ⟨g, 0, none⟩) 11 c) W') := r1
    have HI : Hid (Inp W' (some ⟨g, 0, none⟩) 11 c (fmtB k m i) ∧ Below w.heap.size w W') := ⟨⟨⟨fmf k m i, fmf_lt k m i, hrow, rfl⟩, (fmtB_sz k m i).symm, fun e => by cases e⟩, (HBW.out.trans (hb6.mono HBW.out.size)).trans r4⟩
    clear hmade hb6 r1 r2 r3 r4 hF hg hc1 hc2 hrow hrow4
    go_wp2_with (at_builtin; refine wpList_append_ran (by rfl) _ _ 27 (by rfl) _ _ _ _ (by rfl) (by rfl) HR9.out ?_)
    go_wp2
    go_ret
    exact ⟨_, _, rfl, HI.out⟩
    )
   | (
    have cSum := rsum_any (some ua) 7 uc (fmh k m i) U HRow2.out (by unfold maxLen; omega)
    obtain ⟨sm, hsm⟩ : ∃ sm, sum 7 (fmh k m i) = sm := ⟨_, rfl⟩
    have hsl : sm < 4294967296 := by rw [← hsm]; exact more_lt (by omega) (fmh_lt k m i)
    rw [hsm] at cSum
    have cBy := rbytes_any sm U hsl
    have HM : Hid (sum 7 (fmh k m i) = sm) := hsm
    clear hsm hsl
    go_wp2_with fail
    go_at_call 55
    refine cSum.mono ?_
    rintro e w5 ⟨rfl, rfl⟩
    clear cSum
    go_wp2_with fail
    go_at_call 54
    refine cBy.mono ?_
    rintro e w6 ⟨v4, rfl, hmade, hb6⟩
    clear cBy
    obtain ⟨g4, c4, rfl, _, _, _, hrow4⟩ := hmade.row (by omega) (by4_lt sm)
    obtain ⟨v', W', r1, r2, r3, r4⟩ := appendB (c := c4) (HO2.out.keep hb6) hrow4 (fun e => absurd e (by omega)) (by omega) (by have := HBW2.out.size; have := hb6.size; omega)
    have hF : cat 7 (fmh k m i) (by4 sm) = fmf k m i := by unfold fmf; rw [HM.out]
    rw [hF] at r2
    obtain ⟨g, c, e, hg, hc1, hc2, hrow⟩ := r2.row (by omega) (fmf_lt k m i)
    subst e
    have HR9 : Hid (Sem.run Tryz.prog (Builtin.append_ #[27, 27] 27 #[.slice (some ua) 7 uc, .slice (some ⟨g4, 0, none⟩) 4 c4]) w6 = .ok (.slice (some ⟨g, 0, none⟩) 11 c) W') := r1
    have HI : Hid (Inp W' (some ⟨g, 0, none⟩) 11 c (fmtB k m i) ∧ Below w.heap.size w W') := ⟨⟨⟨fmf k m i, fmf_lt k m i, hrow, rfl⟩, (fmtB_sz k m i).symm, fun e => by cases e⟩, (HBW2.out.trans (hb6.mono HBW2.out.size)).trans r4⟩
    clear hmade hb6 r1 r2 r3 r4 hF hg hc1 hc2 hrow hrow4
    go_wp2_with (at_builtin; refine wpList_append_ran (by rfl) _ _ 27 (by rfl) _ _ _ _ (by rfl) (by rfl) HR9.out ?_)
    go_wp2
    go_ret
    exact ⟨_, _, rfl, HI.out⟩
    )
   | (trace_state; fail)
end Go.Proofs.YtebngmgdciahiaaGreatDoor
