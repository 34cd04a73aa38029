/-
  A row of numbers of one's own; pages of all, and of those that stayed.
-/
import Derived.Test.YtahnkkifegdjeaaGnM
namespace Go.Proofs.Ytahnkkifegdjeaa
open Go.RowKit Go.Shelf Go.Sort Nq
set_option linter.unusedVariables false

theorem infoI : (Try.prog.info? 3).map (fun i => (i.zero, i.size, i.bytes)) = some (some (.int .i64 0), 1, 8) := by kernel_rfl
/-- A block of numbers. -/
def SB (w : World) (g m : Nat) (G : Nat → Int) : Prop := ∃ cur : Array Value, w.heap[g]? = some (.cells cur 3 (0, 0)) ∧ cur.size = m ∧ ∀ j, j < m → cur[j]? = some (.int .i64 (G j))
theorem SB.lt {w : World} {g m : Nat} {G : Nat → Int} (h : SB w g m G) : g < w.heap.size := by
  obtain ⟨cur, hh, _⟩ := h
  exact (Array.getElem?_eq_some_iff.1 hh).1
theorem SB.keep {w w' : World} {g m : Nat} {G : Nat → Int} (h : SB w g m G) (hb : Below w.heap.size w w') : SB w' g m G := by
  have hl := h.lt
  obtain ⟨cur, hh, k⟩ := h
  exact ⟨cur, (hb.block g hl).trans hh, k⟩
theorem SB.cell {w : World} {g m : Nat} {G : Nat → Int} (h : SB w g m G) {j : Nat} (hj : j < m) : w.cell? ⟨g, j, none⟩ = some (.int .i64 (G j)) ∧ w.frozen? ⟨g, j, none⟩ = false := by
  obtain ⟨cur, hh, hs, hc⟩ := h
  exact ⟨by rw [cell_of_row w g j cur _ _ hh]; exact hc j hj, frozen_of_row w g j _ _ hh⟩
theorem SB.put {w : World} {g m : Nat} {G : Nat → Int} (h : SB w g m G) (j : Nat) (x : Int) : SB (w.setCell ⟨g, j, none⟩ (.int .i64 x)) g m (fun k => if k = j then x else G k) := by
  obtain ⟨cur, hh, hs, hc⟩ := h
  refine ⟨cur.setIfInBounds j (.int .i64 x), heap_setCell_same w g j cur 3 _ hh, by simpa using hs, fun k hk => ?_⟩
  rw [Array.getElem?_setIfInBounds]
  by_cases e : j = k
  · subst e
    rw [if_pos rfl, if_pos (by omega)]
    show some _ = some (Value.int .i64 (if j = j then x else G j))
    rw [if_pos rfl]
  · rw [if_neg e, hc k hk]
    show some _ = some (Value.int .i64 (if k = j then x else G k))
    rw [if_neg (fun q => e q.symm)]
theorem SB.as {w : World} {g m : Nat} {G H : Nat → Int} (h : SB w g m G) (e : ∀ j, j < m → G j = H j) : SB w g m H := by
  obtain ⟨cur, hh, hs, hc⟩ := h
  exact ⟨cur, hh, hs, fun j hj => by rw [hc j hj, e j hj]⟩
theorem makeI (w : World) (n : Nat) (hn : n ≤ 1000000) : ∃ W, Sem.run Try.prog (Instr.makeSlice 51 (.int .i64 (n : Int)) (.int .i64 (n : Int))) w = .ok (.slice (some ⟨w.heap.size, 0, none⟩) n n) W ∧ SB W w.heap.size n (fun _ => 0) ∧ Below w.heap.size w W := by
  obtain ⟨i, hi, hzz⟩ := Option.map_eq_some_iff.1 infoI
  simp only [Prod.mk.injEq] at hzz
  obtain ⟨hz, hs, hby⟩ := hzz
  obtain ⟨W, hr, ho, hg⟩ := run_make_full (P := Try.prog) w w.heap.size 51 3 i (.int .i64 0) 1 Try.underlying51 hi hz hs .i64 .i64 n (by rw [hby]; omega) (by unfold maxLen; omega) (Nat.le_refl _)
  refine ⟨W, hr, ?_, (Below.refl _ _).grown hg (Nat.le_refl _) (fun k hk => by cases hk)⟩
  rcases ho.2 with ⟨e, _⟩ | ⟨g, cap, cur, e, _, hh, _, _, hsz, ht⟩
  · cases e
  · injection e with e1 e2 e3
    injection e1 with e1
    injection e1 with e1
    subst e1; subst e3
    refine ⟨cur, hh, by omega, fun j hj => ?_⟩
    have h1 : cur.toList.take (n * 1) = (madeCells (Value.int IntKind.i64 0).cells (n * 1)).toList := ht
    have h2 : (cur.toList.take (n * 1))[j]? = cur[j]? := by rw [List.getElem?_take, if_pos (by omega), Array.getElem?_toList]
    rw [← h2, h1]
    simp [madeCells, Value.cells, hj, Nat.mod_one]
theorem pgV_all (L : List En) (n : Nat) : pgV L ⟨noB, noB, 0, n⟩ = cutA (srt L) (n : Int) true := by
  have h := vX_start L noB n
  rw [vX_all, List.drop_zero] at h
  unfold pgV
  rw [h]
theorem all_last {L : List En} {n : Nat} (h : L.length ≤ n) : cutA (srt L) (n : Int) true = ⟨srt L, false, noB, 0⟩ :=
  cutA_less (decide_eq_false (by rw [srt_length]; omega))
theorem all_more {L : List En} {n : Nat} (hn : 0 < n) (h : n < L.length) : cutA (srt L) (n : Int) true = ⟨(srt L).take n, true, (srt L)[n - 1]!.key, (srt L)[n - 1]!.id⟩ := by
  have := page_more (srt L) 0 n true hn (by rw [srt_length]; omega)
  rw [List.drop_zero, Nat.zero_add, if_pos rfl] at this
  exact this
/-- The page of those that stayed, behind an entry. -/
theorem rest_is {L M : List En} (hs : FewP L) (hf : FairP L) (hm : M.Sublist L) (e : En) (he : e ∈ L) (a : Option Addr) (c : Nat) (w : World) (h : Es w a M) :
    PageIs 14 #[.slice a M.length c, av ⟨noB, e.key, e.id, 1000⟩] w ⟨(srt M).filter (ltE e), false, noB, 0⟩ 0 := by
  have hle : M.length ≤ L.length := hm.length_le
  have h200 : L.length ≤ 200 := hs.1
  have hd : Dis M := (fair_dis hf).sub hm
  have hk : tx e.key ≠ [] := (fairM hf).key e he
  have k := versions_good a c M (srt M) ⟨noB, e.key, e.id, 1000⟩ w h (by omega) (srt_length M) (fun M' q => srt_one hd q) (fun x hx => few_keys hs x (hm.subset (srt_mem.1 hx))) (by show (0 : Nat) ≤ maxLen; exact Nat.zero_le _) ⟨by show (1 : Int) ≤ 1000; decide, by show (1000 : Int) ≤ 1000; decide⟩
  dsimp only at k
  rw [show (fun y : En => pre (tx y.key) (tx noB) && bhd ⟨noB, e.key, e.id, 1000⟩ y) = ltE e from bhd_lt hk 1000] at k
  have hl2 : ((srt M).filter (ltE e)).length ≤ M.length := by rw [← srt_length M]; exact List.length_filter_le _ _
  rw [cutA_less (decide_eq_false (by omega))] at k
  exact pageIs_of k
/-- Counting on. -/
theorem count_on (A : List En) (x : En) (k : Nat) (hk : k < A.length) : (A.take (k + 1)).count x = (A.take k).count x + if A[k]! = x then 1 else 0 := by
  rw [List.take_succ_eq_append_getElem hk, List.count_append, ← getElem!_pos A k hk, List.count_singleton]
  by_cases e : A[k]! = x
  · simp [e]
  · rw [if_neg e, if_neg (fun q => e (eq_of_beq q))]
theorem gb_sb {a b : World} {g : Nat} (h : a.grownBy b (some g)) (j : Nat) (v : Value) : a.grownBy (b.setCell ⟨g, j, none⟩ v) (some g) := gb_set h j v
end Go.Proofs.Ytahnkkifegdjeaa
