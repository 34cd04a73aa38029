/-
  What gf.Table.MulAdd does: it answers a new row, dst with c times src added as far as both go, and changes nothing that was there.
-/
import Derived.Test.YtbfhmdphhhjlnaaMul
import Derived.Deep.OwnRows
import Derived.Laws.IdiomCopy
import Derived.Deep.RegionHeld3
import Derived.Deep.DrawnRows
namespace Go.Proofs.Ytbfhmdphhhjlnaa
open Go.RowKit Gf
attribute [local go_sem ↓] Go.wp_at_zero Go.wp_at_succ

theorem info5 : (Try.prog.info? 5).map (fun i => (i.zero, i.size, i.bytes)) = some (some (.int .u8 0), 1, 1) := by kernel_rfl
theorem size5 : (Try.prog.info? 5).map (·.size) = some 1 := by kernel_rfl

/-- A slice that begins at a holds in w the n bytes f 0, f 1 .. -/
structure Row (w : World) (a : Option Addr) (n : Nat) (f : Nat → Nat) : Prop where
  lt : ∀ i, f i < 256
  lies : 0 < n → ∃ b o, a = some ⟨b, o, none⟩ ∧ ∀ i, i < n → w.cell? ⟨b, o + i, none⟩ = some (.int .u8 ((f i : Nat) : Int))

theorem Tab.drew {w : World} {b : Nat} (h : Tab w b) : Tab w.drew b := ⟨h.exp, h.log, h.one⟩

theorem Row.keep {w w' : World} {a : Option Addr} {n : Nat} {f : Nat → Nat} (h : Row w a n f) (hb : Below w.heap.size w w') : Row w' a n f := by
  refine ⟨h.lt, fun hn => ?_⟩
  obtain ⟨b, o, e, hc⟩ := h.lies hn
  refine ⟨b, o, e, fun i hi => ?_⟩
  have hlt : b < w.heap.size := block_lt_of_cell (hc i hi)
  exact (hb.cell (p := ⟨b, o + i, none⟩) hlt).trans (hc i hi)

theorem below_setCells {B b : Nat} {a : World} (hb : B ≤ b) : ∀ (vs : List Value) (o : Nat) (w : World), Below B a w → Below B a (w.setCells b o vs)
  | [], _, _, h => h
  | v :: vs, o, w, h => below_setCells hb vs (o + 1) (w.setCell ⟨b, o, none⟩ v) (h.setCell hb v)

theorem size_setCells (b : Nat) : ∀ (vs : List Value) (o : Nat) (w : World), (w.setCells b o vs).heap.size = w.heap.size
  | [], _, _ => rfl
  | v :: vs, o, w => (size_setCells b vs (o + 1) (w.setCell ⟨b, o, none⟩ v)).trans (by simp [World.setCell])
theorem copied {w : World} {a : Option Addr} {n c : Nat} {f : Nat → Nat} (h : Row w a n f) :
    ∃ W, Sem.run Try.prog (Builtin.copy_ #[30, 30] 3 #[.slice (some ⟨w.heap.size, 0, none⟩) n n, .slice a n c]) (w.alloc (.cells (madeCells #[.int .u8 0] n) 5)) = .ok (goInt n) W ∧
      (∀ i, i < n → W.cell? ⟨w.heap.size, i, none⟩ = some (.int .u8 ((f i : Nat) : Int))) ∧ (∀ i, i < n → W.frozen? ⟨w.heap.size, i, none⟩ = false) ∧ Below w.heap.size w W ∧ W.heap.size = w.heap.size + 1 := by
  by_cases hn : n = 0
  · subst hn
    exact ⟨_, run_copy_none _ 30 30 3 5 _ _ 0 0 0 c Try.underlying30 size5 rfl, fun i hi => absurd hi (by omega), fun i hi => absurd hi (by omega), (Below.refl _ _).alloc (Nat.le_refl _) _, by simp⟩
  · obtain ⟨b, o, e, hc⟩ := h.lies (by omega)
    subst e
    have hb : b < w.heap.size := block_lt_of_cell (hc 0 (by omega))
    have hnew : ∀ i, i < n → (w.alloc (.cells (madeCells #[.int .u8 0] n) 5)).cell? ⟨w.heap.size, 0 + i, none⟩ = some (.int .u8 0) := by
      intro i hi
      rw [World.cell?_alloc_new, ← Array.getElem?_toList, toList_madeCells_one, List.getElem?_replicate, if_pos (by omega)]
    obtain ⟨cs, hcs⟩ : ∃ cs, cs = (List.range n).map fun i => Value.int .u8 ((f i : Nat) : Int) := ⟨_, rfl⟩
    have hl : cs.length = n := by rw [hcs]; simp
    have hat : ∀ j, j < n → cs[j]? = some (.int .u8 ((f j : Nat) : Int)) := fun j hj => by rw [hcs]; simp [hj]
    have hrun := run_copy_cells (P := Try.prog) (w.alloc (.cells (madeCells #[.int .u8 0] n) 5)) 30 30 3 5 w.heap.size 0 n n ⟨b, o, none⟩ n c cs Try.underlying30 size5 (by rw [hl]; exact (Nat.min_self n).symm)
      (fun j v hv => by
        have hj : j < n := by rw [← hl]; exact (List.getElem?_eq_some_iff.1 hv).1
        rw [hat j hj] at hv; injection hv with hv
        have e : (⟨b, o, none⟩ : Addr).add j = ⟨b, o + j, none⟩ := by unfold Addr.add; split <;> simp_all
        rw [e, ((Below.refl w.heap.size w).alloc (Nat.le_refl _) _).cell (p := ⟨b, o + j, none⟩) hb, hc j hj, hv])
      (fun j hj => by rw [hnew j (by omega)]; rfl) (fun j _ => World.frozen?_alloc_new _ _ _ _) (fun v hv => by rw [hcs] at hv; simp at hv; obtain ⟨_, _, rfl⟩ := hv; rfl)
    rw [hl] at hrun
    refine ⟨_, hrun, fun i hi => ?_, fun i hi => ?_, below_setCells (Nat.le_refl _) _ _ _ ((Below.refl _ _).alloc (Nat.le_refl _) _), ?_⟩
    · have := World.cell?_setCells_in w.heap.size cs 0 (w.alloc (.cells (madeCells #[.int .u8 0] n) 5)) (fun j hj => by rw [hnew j (by omega)]; rfl) i (by omega)
      rw [Nat.zero_add] at this
      rw [this, ← List.getElem?_eq_getElem, hat i hi]
    · rw [World.frozen?_setCells]; exact World.frozen?_alloc_new _ _ _ _
    · rw [size_setCells]; simp

set_option maxRecDepth 100000 in
set_option maxHeartbeats 400000 in
theorem mulAdd_any (b c n0 c0 n1 c1 : Nat) (a0 a1 : Option Addr) (f g : Nat → Nat) (w : World) (htab : Tab w b) (hc : c < 256) (h0 : Row w a0 n0 f) (h1 : Row w a1 n1 g) (l0 : n0 ≤ 140737488355328) (l1 : n1 ≤ 140737488355328) :
    Calls Try.prog 45 #[.pointer (some ⟨b, 0, none⟩), .slice a0 n0 c0, .slice a1 n1 c1, .int .u8 c] w fun e w' =>
      e = .returned (.slice (some ⟨w.heap.size, 0, none⟩) n0 n0) ∧ (∀ i, i < n0 → w'.cell? ⟨w.heap.size, i, none⟩ = some (.int .u8 ((if i < n1 then f i ^^^ M c (g i) else f i : Nat) : Int))) ∧ Below w.heap.size w w' := by
  have hone := htab.one
  have hmk := run_make_row' (P := Try.prog) 30 5 (.int .u8 0) 1 Try.underlying30 info5 rfl .i64 .i64 n0 (by omega) (by omega)
  obtain ⟨W, hcp, hcell, hsoft, hbel, hsize⟩ := copied (c := c0) h0
  go_enter Try.func45, Try.ntmps45
  go_wp2_with (go_at_call 61; refine (built_any _ _ hone).mono ?_; rintro e w' ⟨rfl, rfl⟩)
  all_goals clear hmk hcp hone
  all_goals
    go_loopw [25] (fun n wr => ∃ k : Nat, k ≤ n0 ∧ k ≤ n1 ∧ n = .int .i64 k ∧ (∀ i, i < n0 → wr.cell? ⟨w.heap.size, i, none⟩ = some (.int .u8 ((if i < k then f i ^^^ M c (g i) else f i : Nat) : Int))) ∧ (∀ i, i < n0 → wr.frozen? ⟨w.heap.size, i, none⟩ = false) ∧ Below w.heap.size w wr) (fun n _ => n0 - (intOf n).toNat)
    case atStart => exact ⟨0, by omega, by omega, rfl, fun i hi => by rw [hcell i hi, if_neg (by omega)], hsoft, hbel⟩
    case round =>
      obtain ⟨k, hk0, hk1, rfl, hcr, hsr, hbr⟩ := hrel
      clear hcell hsoft hbel hsize
      by_cases hlt : k < n0 ∧ k < n1
      · obtain ⟨hlt0, hlt1⟩ := hlt
        have ht := htab.keep hbr (block_lt_of_cell htab.one)
        have hg := h1.keep hbr
        obtain ⟨b1, o1, rfl, hgc⟩ := hg.lies (by omega)
        have hgk := hgc k hlt1
        have hfk := hcr k hlt0
        rw [if_neg (by omega)] at hfk
        have hsk := hsr k hlt0
        have lf := h0.lt k
        have lg := h1.lt k
        have cM := fun w (t : Tab w b) => tmul_any b c (g k) w t hc lg
        have lM := M_lt (g k) hc
        have cA := fun w => add_any (f k) (M c (g k)) w lf lM
        have lx := xor_lt lf lM
        have hi0 : (k : Int) < (n0 : Int) := by omega
        have hi1 : (k : Int) < (n1 : Int) := by omega
        clear hg hgc
        generalize hM : M c (g k) = m at *
        have HM : Hid (M c (g k) = m) := hM
        clear hM
        have HS : Hid (∀ n, ∀ i, i < n0 → ((wr.drewN n).setCell ⟨w.heap.size, k, none⟩ (.int .u8 ((f k ^^^ m : Nat) : Int))).cell? ⟨w.heap.size, i, none⟩ = some (.int .u8 ((if i < k + 1 then f i ^^^ M c (g i) else f i : Nat) : Int))) := by
          intro n i hi
          by_cases e : i = k
          · subst e
            rw [cell_same (w := wr.drewN n) (u := .int .u8 ((f i : Nat) : Int)) hfk, if_pos (by omega), HM.out]
          · rw [cell_other (by omega), show (wr.drewN n).cell? ⟨w.heap.size, i, none⟩ = wr.cell? ⟨w.heap.size, i, none⟩ from rfl, hcr i hi]
            by_cases l : i < k
            · rw [if_pos l, if_pos (by omega)]
            · rw [if_neg l, if_neg (by omega)]
        clear hcr
        go_wp2
        go_region_with (first | (go_at_call 63; refine (cM _ ?_).mono ?_; (first | exact ht.drew | exact ht.drewN _); rintro e w' ⟨rfl, n, rfl⟩) | (go_at_call 62; refine (cA _).mono ?_; rintro e w' ⟨rfl, rfl⟩))
        all_goals
          go_wp2
          go_round
          case rel => exact ⟨k + 1, by omega, by omega, by go_num, HS.out _, fun i hi => by rw [World.frozen?_setCell]; exact hsr i hi, (below_drewN hbr _).setCell (Nat.le_refl _) _⟩
          case measure => simp [intOf]; omega
      · have HE : Hid (∀ i, i < n0 → wr.cell? ⟨w.heap.size, i, none⟩ = some (.int .u8 ((if i < n1 then f i ^^^ M c (g i) else f i : Nat) : Int))) := by
          intro i hi
          rw [hcr i hi]
          by_cases e : i < n1
          · rw [if_pos e, if_pos (by omega)]
          · rw [if_neg e, if_neg (by omega)]
        clear hcr hsr
        go_wp2
        go_ret
        exact ⟨rfl, HE.out, hbr⟩
end Go.Proofs.Ytbfhmdphhhjlnaa
