/-
  Rows of entries of one s own that are written: what a swap leaves.
-/
import Derived.Test.YtahnkkifegdjeaaEnC
namespace Go.Proofs.Ytahnkkifegdjeaa
open Go.RowKit Go.Shelf Go.Sort Nq Pg
attribute [local go_sem ↓] Go.wp_at_zero Go.wp_at_succ
set_option linter.unusedVariables false

theorem EOwn.row {w : World} {B n cap : Nat} {a : Option Addr} {L : List En} (h : EOwn w B (.slice a n cap) L) (h0 : 0 < L.length) :
    ∃ g cur, a = some ⟨g, 0, none⟩ ∧ n = L.length ∧ B ≤ g ∧ w.heap[g]? = some (.cells cur 48 (0, 0)) ∧ n ≤ cap ∧ cap ≤ maxLen ∧ cur.size = cap * 6 ∧ cur.toList.take (n * 6) = ecs L := by
  rcases h.2 with ⟨e, e0⟩ | ⟨g, cap', cur, e, hg, hh, hnc, hm, hsz, ht⟩
  · omega
  · injection e with e1 e2 e3
    subst e1; subst e2; subst e3
    exact ⟨g, cur, rfl, rfl, hg, hh, hnc, hm, hsz, ht⟩
theorem row_holds {w : World} {g n : Nat} {cur : Array Value} {L : List En} (hh : w.heap[g]? = some (.cells cur 48 (0, 0))) (hn : n = L.length) (ht : cur.toList.take (n * 6) = ecs L) : HoldsK cellsE 6 w g 0 L.toArray := by
  intro j hj
  refine ⟨?_, frozen_of_row w g (0 + j) _ _ hh⟩
  have hj2 : j < n * 6 := by rw [size_flatK, List.size_toArray] at hj; omega
  have e : cur[j]? = (flatK cellsE 6 L.toArray)[j]? := by
    rw [← Array.getElem?_toList, ← Array.getElem?_toList, flat_ecs, ← ht, List.getElem?_take, if_pos hj2]
  rw [Nat.zero_add, cell_of_row w g _ cur _ _ hh, e, Array.getElem?_eq_getElem hj, getElem!_pos _ j hj]
  rfl
theorem EOwn.put {w : World} {B n cap : Nat} {g : Nat} {L : List En} (h : EOwn w B (.slice (some ⟨g, 0, none⟩) n cap) L) (h0 : 0 < L.length) (d : Array En) (hd : d.size = L.length) :
    EOwn (putRowK cellsE 6 w g 0 d) B (.slice (some ⟨g, 0, none⟩) n cap) d.toList := by
  obtain ⟨g', cur, e, hn, hg, hh, hnc, hm, hsz, ht⟩ := h.row h0
  injection e with e
  injection e with e
  subst e
  have hn2 : n = d.toList.length := by rw [Array.length_toList, hd]; exact hn
  refine ⟨ecs_length _, .inr ⟨g, cap, putCells id 0 (flatK cellsE 6 d) cur, by rw [hn2], hg, ?_, by omega, hm, by unfold putCells; rw [Array.size_mapIdx]; exact hsz, ?_⟩⟩
  · unfold putRowK putRow mapBlock
    show (w.heap.modify g _)[g]? = _
    rw [Array.getElem?_modify, if_pos rfl, hh]
    rfl
  · rw [← flat_ecs, Array.toArray_toList]
    apply List.ext_getElem?
    intro j
    have hl : d.toList.length = d.size := Array.length_toList
    rw [List.getElem?_take, Array.getElem?_toList, Array.getElem?_toList]
    unfold putCells
    rw [Array.getElem?_mapIdx]
    by_cases hj : j < d.size * 6
    · rw [if_pos (by omega), Array.getElem?_eq_getElem (by omega), Array.getElem?_eq_getElem (by rw [size_flatK]; exact hj)]
      simp only [Option.map_some]
      rw [if_pos (by rw [size_flatK]; omega), Nat.sub_zero, getElem!_pos _ j (by rw [size_flatK]; exact hj)]
      rfl
    · rw [if_neg (by omega), Array.getElem?_eq_none (by rw [size_flatK]; omega)]
theorem swp_world {w : World} {g : Nat} {d : Array En} (hH : HoldsK cellsE 6 w g 0 d) (i j : Nat) (hi : i < d.size) (hj : j < d.size) :
    (w.setCells g (0 + i * 6) (cellsE d[j]!)).setCells g (0 + j * 6) (cellsE d[i]!) = putRowK cellsE 6 w g 0 (Go.Sort.swp d i j) := by
  have e1 := putRowK_swp cellsE 6 cellsE_length w g 0 d i j hi hj
  have e2 := putRowK_self cellsE 6 w g 0 d hH
  rw [e2] at e1
  exact e1
theorem EOwn.holds {w : World} {B n cap g : Nat} {d : Array En} (h : EOwn w B (.slice (some ⟨g, 0, none⟩) n cap) d.toList) (h0 : 0 < d.size) : HoldsK cellsE 6 w g 0 d := by
  obtain ⟨g', cur, e, hn, hg, hh, hnc, hm, hsz, ht⟩ := h.row (by rw [Array.length_toList]; exact h0)
  injection e with e
  injection e with e
  subst e
  have hH := row_holds hh hn ht
  rw [Array.toArray_toList] at hH
  exact hH
/-- Two of them change places. -/
theorem EOwn.swapped {w : World} {B n cap : Nat} {g : Nat} {d : Array En} (h : EOwn w B (.slice (some ⟨g, 0, none⟩) n cap) d.toList) (i j : Nat) (hi : i < d.size) (hj : j < d.size) (W : World)
    (hW : (w.setCells g (0 + i * 6) (cellsE d[j]!)).setCells g (0 + j * 6) (cellsE d[i]!) = W) :
    EOwn W B (.slice (some ⟨g, 0, none⟩) n cap) (Go.Sort.swp d i j).toList := by
  have h0 : 0 < d.size := by omega
  rw [← hW, swp_world (h.holds h0) i j hi hj]
  exact h.put (by rw [Array.length_toList]; exact h0) (Go.Sort.swp d i j) (by rw [size_swp]; exact Array.length_toList.symm)
theorem below_cells {B : Nat} {w0 w : World} {g : Nat} (h : Below B w0 w) (hg : B ≤ g) (o : Nat) (vs : List Value) : Below B w0 (w.setCells g o vs) := by
  induction vs generalizing w o with
  | nil => exact h
  | cons v vs ih => exact ih (h.setCell (p := ⟨g, o, none⟩) hg v) (o + 1)
theorem swap_cells (w : World) (g q : Nat) (x y : En) :
    ((w.setCells g (q + 6) (cellsE y)).setCells g q (cellsE x)) = (((((((((((w.setCell ⟨g, q + 6, none⟩ (.string y.key)).setCell ⟨g, q + 6 + 1, none⟩ (.int .i64 y.id)).setCell ⟨g, q + 6 + 2, none⟩ (.bool y.mr)).setCell ⟨g, q + 6 + 3, none⟩ (.int .i64 y.sz)).setCell ⟨g, q + 6 + 4, none⟩ (.int .u32 (y.sm : Int))).setCell ⟨g, q + 6 + 5, none⟩ (.bool y.la)).setCell ⟨g, q, none⟩ (.string x.key)).setCell ⟨g, q + 1, none⟩ (.int .i64 x.id)).setCell ⟨g, q + 2, none⟩ (.bool x.mr)).setCell ⟨g, q + 3, none⟩ (.int .i64 x.sz)).setCell ⟨g, q + 4, none⟩ (.int .u32 (x.sm : Int))).setCell ⟨g, q + 5, none⟩ (.bool x.la) := by
  simp only [World.setCells, cellsE, Nat.add_assoc, Nat.reduceAdd]
theorem swoL : SWO ltE where
  irrefl := ltE_irrefl
  trans := ltE_trans
  ntrans := ltE_ntrans
theorem gtr_id (x y : En) : ltE x y = (ls (tx x.key) (tx y.key) || ((x.key.toList == y.key.toList) && decide (y.id < x.id))) := by unfold ltE; rw [key_beq]

theorem EOwn.eat {w : World} {B n cap g : Nat} {d : Array En} (h : EOwn w B (.slice (some ⟨g, 0, none⟩) n cap) d.toList) (i : Nat) (hi : i < d.size) : EAt w g (i * 6) d[i]! := by
  have hl : d.toList.length = d.size := Array.length_toList
  obtain ⟨g', cur, e, hn, hg, hh, hnc, hm, hsz, ht⟩ := h.row (by omega)
  injection e with e
  injection e with e
  subst e
  have := eat_of_row hh ht (by omega) (i := i) (by omega)
  rwa [show d.toList[i]! = d[i]! by rw [getElem!_pos d.toList i (by omega), getElem!_pos d i hi, Array.getElem_toList]] at this
theorem EOwn.soft {w : World} {B n cap g : Nat} {d : Array En} (h : EOwn w B (.slice (some ⟨g, 0, none⟩) n cap) d.toList) (h0 : 0 < d.size) (j : Nat) : w.frozen? ⟨g, j, none⟩ = false := by
  obtain ⟨g', cur, e, hn, hg, hh, _⟩ := h.row (by rw [Array.length_toList]; exact h0)
  injection e with e
  injection e with e
  subst e
  exact frozen_of_row w g j _ _ hh
theorem swp_perm (d : Array En) (i j : Nat) (hi : i < d.size) (hj : j < d.size) : (Go.Sort.swp d i j).toList.Perm d.toList := by
  have h := (swp_permIn d 0 d.size i j (Nat.zero_le _) hi (Nat.zero_le _) hj (Nat.le_refl _)).2.2
  have e1 : (Go.Sort.swp d i j).extract 0 d.size = Go.Sort.swp d i j := by rw [← size_swp d i j]; exact Array.extract_size
  rw [e1, Array.extract_size] at h
  exact h

end Go.Proofs.Ytahnkkifegdjeaa
