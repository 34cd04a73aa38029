/-
  A file of a disk of the document is written anew in its place.
-/
import Derived.Test.YthkhkijdehbbmaaDkG
set_option maxRecDepth 100000
namespace Go.Proofs.Ythkhkijdehbbmaa
open Go.RowKit Dk Nm
attribute [local go_sem ↓] Go.wp_at_zero Go.wp_at_succ
set_option linter.unusedVariables false

/-- The world behind the store of a file. -/
def putF (w : World) (g o : Nat) (y : Fv) : World := ((w.setCell ⟨g, o, none⟩ (.string y.path)).setCell ⟨g, o + 1, none⟩ (.slice y.bv.1 y.bv.2.1 y.bv.2.2)).setCell ⟨g, o + 2, none⟩ (.bool y.sure)
theorem putF_upd (w : World) (g o : Nat) (y : Fv) : Upd (fun k => k = g) w (putF w g o y) :=
  Upd.put (M := fun k => k = g) (Upd.put (M := fun k => k = g) (Upd.put (M := fun k => k = g) (Upd.refl _ w) (p := ⟨g, o, none⟩) (.inl rfl) _) (p := ⟨g, o + 1, none⟩) (.inl rfl) _) (p := ⟨g, o + 2, none⟩) (.inl rfl) _
theorem FOwn.put {w : World} {base g c j : Nat} {L : List Fv} (h : FOwn w base (.slice (some ⟨g, 0, none⟩) L.length c) L) (hj : j < L.length) (y : Fv) :
    FOwn (putF w g (j * 3) y) base (.slice (some ⟨g, 0, none⟩) L.length c) (L.set j y) := by
  rcases h with ⟨hl, ⟨e, _⟩ | ⟨g', cap, cur, e, hg, hh, hnc, hm, hs, ht⟩⟩
  · cases e
  · injection e with e1 e2 e3
    injection e1 with e1
    injection e1 with e1
    subst e1; subst e3
    have h1 := heap_setCell_same w g (j * 3) _ _ (.string y.path) hh
    have h2 := heap_setCell_same _ g (j * 3 + 1) _ _ (.slice y.bv.1 y.bv.2.1 y.bv.2.2) h1
    have h3 := heap_setCell_same _ g (j * 3 + 2) _ _ (.bool y.sure) h2
    refine ⟨fcs_length _, .inr ⟨g, c, _, by rw [List.length_set], hg, h3, by rw [List.length_set]; exact hnc, hm, by simp only [Array.size_setIfInBounds]; exact hs, ?_⟩⟩
    have hcl : cur.toList.length = c * 3 := by rw [Array.length_toList]; exact hs
    refine fcs_ext ?_ fun i hi r hr => ?_
    · simp only [List.length_take, Array.toList_setIfInBounds, List.length_set, hcl]; omega
    · rw [List.length_set] at hi
      rw [List.getElem?_take, List.length_set, if_pos (by omega)]
      simp only [Array.toList_setIfInBounds, List.getElem?_set, List.length_set, hcl]
      have hcur : cur.toList[i * 3 + r]? = (cellsF L[i]!)[r]? := by
        rw [← fcs_at L i hi r hr, ← ht, List.getElem?_take, if_pos (by omega)]
      by_cases ei : i = j
      · subst ei
        have e2 : (L.set i y)[i]! = y := by
          rw [getElem!_pos _ i (by rw [List.length_set]; exact hi), List.getElem_set_self]
        rw [e2]
        match r, hr with
        | 0, _ => rw [if_neg (by omega), if_neg (by omega), if_pos (by omega), if_pos (by omega)]; rfl
        | 1, _ => rw [if_neg (by omega), if_pos rfl, if_pos (by omega)]; rfl
        | 2, _ => rw [if_pos rfl, if_pos (by omega)]; rfl
      · have e2 : (L.set j y)[i]! = L[i]! := by
          rw [getElem!_pos _ i (by rw [List.length_set]; exact hi), List.getElem_set_ne (fun q => ei q.symm), getElem!_pos L i hi]
        rw [e2, if_neg (by omega), if_neg (by omega), if_neg (by omega), hcur]
/-- A file in its place. -/
theorem DX.put {w : World} {p g : Nat} {c j : Nat} {L : List Fv} {q : Option Nat} {s : St} (h : DX w p (some ⟨g, 0, none⟩) c L q s) (hj : j < L.length) (hpg : p ≠ g) (y : Fv) (hy : BO w y) (hb : y.b.size ≤ 262144) (hp : y.path.size ≤ 600) :
    DX (putF w g (j * 3) y) p (some ⟨g, 0, none⟩) c (L.set j y) q { s with fs := s.fs.set j (fl y) } := by
  obtain ⟨g', cur, e, hh⟩ := h.block (by omega)
  injection e with e
  injection e with e
  subst e
  have u := putF_upd w g (j * 3) y
  have hB : ∀ x, BO w x → BO (putF w g (j * 3) y) x := fun x hx => hx.upd u fun g2 cur2 e2 k => by
    subst k
    rw [hh] at e2
    injection e2 with e2
    injection e2 with _ e2 _
    exact absurd e2 (by decide)
  have hf : s.fs.set j (fl y) = (L.set j y).map fl := by rw [h.f, List.map_set]
  refine ⟨?_, ?_, fun x hx => ?_, hf, ?_⟩
  · show (putF w g (j * 3) y).heap[p]? = _
    unfold putF
    rw [heap_setCell_other _ _ _ _ hpg, heap_setCell_other _ _ _ _ hpg, heap_setCell_other _ _ _ _ hpg, List.length_set]; exact h.o
  · have := h.l.put hj y
    rw [List.length_set]; exact this
  · rcases List.mem_or_eq_of_mem_set hx with k | k
    · exact hB x (h.b x k)
    · subst k; exact hB x hy
  · refine ⟨by show (s.fs.set j (fl y)).length ≤ _; rw [List.length_set]; exact h.wf.n, fun f hm => ?_, fun f hm => ?_, h.wf.m0, h.wf.m1, h.wf.b0, h.wf.b1⟩
    · rcases List.mem_or_eq_of_mem_set hm with k | k
      · exact h.wf.b f k
      · subst k; exact hb
    · rcases List.mem_or_eq_of_mem_set hm with k | k
      · exact h.wf.p f k
      · subst k; exact hp
end Go.Proofs.Ythkhkijdehbbmaa
