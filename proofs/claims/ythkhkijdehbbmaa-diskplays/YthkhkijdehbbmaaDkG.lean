/-
  A file of a disk of the document is marked as synced.
-/
import Derived.Test.YthkhkijdehbbmaaDkE
set_option maxRecDepth 100000
namespace Go.Proofs.Ythkhkijdehbbmaa
open Go.RowKit Dk Nm
attribute [local go_sem ↓] Go.wp_at_zero Go.wp_at_succ
set_option linter.unusedVariables false

theorem FOwn.sure {w : World} {base g c j : Nat} {L : List Fv} (h : FOwn w base (.slice (some ⟨g, 0, none⟩) L.length c) L) (hj : j < L.length) :
    FOwn (w.setCell ⟨g, j * 3 + 2, none⟩ (.bool true)) base (.slice (some ⟨g, 0, none⟩) L.length c) (L.set j { L[j]! with sure := true }) := by
  rcases h with ⟨hl, ⟨e, _⟩ | ⟨g', cap, cur, e, hg, hh, hnc, hm, hs, ht⟩⟩
  · cases e
  · injection e with e1 e2 e3
    injection e1 with e1
    injection e1 with e1
    subst e1; subst e3
    refine ⟨fcs_length _, .inr ⟨g, c, _, by rw [List.length_set], hg, heap_setCell_same w g (j * 3 + 2) _ _ (.bool true) hh, by rw [List.length_set]; exact hnc, hm, by rw [Array.size_setIfInBounds]; exact hs, ?_⟩⟩
    have hcl : cur.toList.length = c * 3 := by rw [Array.length_toList]; exact hs
    refine fcs_ext ?_ fun i hi r hr => ?_
    · rw [List.length_take, Array.toList_setIfInBounds, List.length_set, List.length_set, hcl]; omega
    · rw [List.length_set] at hi
      rw [List.getElem?_take, List.length_set, if_pos (by omega), Array.toList_setIfInBounds, List.getElem?_set]
      have hcur : cur.toList[i * 3 + r]? = (cellsF L[i]!)[r]? := by
        rw [← fcs_at L i hi r hr, ← ht, List.getElem?_take, if_pos (by omega)]
      by_cases ei : i = j
      · subst ei
        have e2 : (L.set i { L[i]! with sure := true })[i]! = { L[i]! with sure := true } := by
          rw [getElem!_pos _ i (by rw [List.length_set]; exact hi), List.getElem_set_self]
        rw [e2]
        match r, hr with
        | 0, _ => rw [if_neg (by omega), hcur]; rfl
        | 1, _ => rw [if_neg (by omega), hcur]; rfl
        | 2, _ => rw [if_pos rfl, if_pos (by omega)]; rfl
      · have e2 : (L.set j { L[j]! with sure := true })[i]! = L[i]! := by
          rw [getElem!_pos _ i (by rw [List.length_set]; exact hi), List.getElem_set_ne (fun q => ei q.symm), getElem!_pos L i hi]
        rw [e2, if_neg (by omega), hcur]
/-- The row's own block. -/
theorem DX.block {w : World} {p : Nat} {a : Option Addr} {c : Nat} {L : List Fv} {q : Option Nat} {s : St} (h : DX w p a c L q s) (h0 : 0 < L.length) : ∃ g cur, a = some ⟨g, 0, none⟩ ∧ w.heap[g]? = some (.cells cur 95 (0, 0)) := by
  rcases h.l.2 with ⟨_, e⟩ | ⟨g, cap, cur, e, _, hh, _⟩
  · omega
  · injection e with e1
    exact ⟨g, cur, e1, hh⟩
def setSure (l : List Fl) (j : Nat) : List Fl := l.modify j fun f => { f with sure := true }
theorem sure_map {L : List Fv} {j : Nat} (hj : j < L.length) : (L.set j { L[j]! with sure := true }).map fl = setSure (L.map fl) j := by
  unfold setSure
  apply List.ext_getElem?
  intro i
  rw [List.getElem?_map, List.getElem?_set, List.getElem?_modify, List.getElem?_map]
  by_cases e : j = i
  · subst e
    rw [if_pos rfl, if_pos hj, List.getElem?_eq_getElem hj, getElem!_pos L j hj]
    simp [fl]
  · rw [if_neg e]
    cases L[i]? <;> simp [e]
theorem DX.sure {w : World} {p g : Nat} {c j : Nat} {L : List Fv} {q : Option Nat} {s : St} (h : DX w p (some ⟨g, 0, none⟩) c L q s) (hj : j < L.length) (hpg : p ≠ g) :
    DX (w.setCell ⟨g, j * 3 + 2, none⟩ (.bool true)) p (some ⟨g, 0, none⟩) c (L.set j { L[j]! with sure := true }) q { s with fs := setSure s.fs j } := by
  obtain ⟨g', cur, e, hh⟩ := h.block (by omega)
  injection e with e
  injection e with e
  subst e
  have u : Upd (fun k => k = g) w (w.setCell ⟨g, j * 3 + 2, none⟩ (.bool true)) := Upd.put (M := fun k => k = g) (Upd.refl _ w) (p := ⟨g, j * 3 + 2, none⟩) (.inl rfl) _
  refine ⟨?_, ?_, fun x hx => ?_, ?_, ?_⟩
  · rw [heap_setCell_other _ _ _ _ hpg, List.length_set]; exact h.o
  · have := h.l.sure hj
    rw [List.length_set]; exact this
  · have hb : ∀ y ∈ L, BO (w.setCell ⟨g, j * 3 + 2, none⟩ (.bool true)) y := fun y hy => (h.b y hy).upd u fun g2 cur2 e2 k => by
      subst k
      rw [hh] at e2
      injection e2 with e2
      injection e2 with _ e2 _
      exact absurd e2 (by decide)
    rcases List.mem_or_eq_of_mem_set hx with k | k
    · exact hb x k
    · subst k
      exact hb L[j]! (by rw [getElem!_pos L j hj]; exact List.getElem_mem hj)
  · rw [sure_map hj, ← h.f]
  · have hm : ∀ f ∈ setSure s.fs j, ∃ f' ∈ s.fs, f.b = f'.b ∧ f.path = f'.path := fun f hf => by
      rw [h.f, ← sure_map hj] at hf
      obtain ⟨y, hy, rfl⟩ := List.mem_map.1 hf
      rcases List.mem_or_eq_of_mem_set hy with k | k
      · exact ⟨fl y, by rw [h.f]; exact List.mem_map_of_mem k, rfl, rfl⟩
      · subst k
        exact ⟨fl L[j]!, by rw [h.f]; exact List.mem_map_of_mem (by rw [getElem!_pos L j hj]; exact List.getElem_mem hj), rfl, rfl⟩
    refine ⟨by unfold setSure; rw [List.length_modify]; exact h.wf.n, fun f hf => ?_, fun f hf => ?_, h.wf.m0, h.wf.m1, h.wf.b0, h.wf.b1⟩
    · obtain ⟨f', h1, h2, _⟩ := hm f hf
      rw [h2]; exact h.wf.b f' h1
    · obtain ⟨f', h1, _, h3⟩ := hm f hf
      rw [h3]; exact h.wf.p f' h1
end Go.Proofs.Ythkhkijdehbbmaa
