/-
  A disk of the document in memory; where a path is; the bytes of all files.
-/
import Derived.Test.YthkhkijdehbbmabDkU
import Derived.Deep.RegionLaw
import Derived.Deep.RegionHeld3
import Derived.BigGuardPart
import Derived.BigQuiet
import Derived.Deep.DeepCutAuto
import Derived.Deep.Cut
set_option maxRecDepth 100000
namespace Go.Proofs.Ythkhkijdehbbmab
open Go.RowKit Dk Nm
attribute [local go_sem ↓] Go.wp_at_zero Go.wp_at_succ
set_option linter.unusedVariables false

def fl (x : Fv) : Fl := ⟨x.path, x.b, x.sure⟩
/-- A file's row of bytes. -/
def BO (w : World) (x : Fv) : Prop := x.bv.2.1 = x.b.size ∧ ∃ f : Nat → Nat, (∀ i, f i < 256) ∧ Own w 0 (.slice x.bv.1 x.bv.2.1 x.bv.2.2) x.b.size f ∧ str f x.b.size = x.b
/-- Where a path is, in the rows' own words. -/
theorem place_map {L : List Fv} {p : ByteArray} {i : Nat} (hi : i < L.length) (hb : ∀ j, j < i → ls (tx L[j]!.path) (tx p) = true) (h : ls (tx L[i]!.path) (tx p) = false) : place p (L.map fl) = i := by
  refine place_first p _ i (by rw [List.length_map]; exact hi) (fun j hj => ?_) ?_
  · rw [List.getElem_map]
    have := hb j hj
    rw [getElem!_pos L j (by omega)] at this
    exact this
  · rw [List.getElem_map]
    rw [getElem!_pos L i hi] at h
    exact h
theorem place_map_end {L : List Fv} {p : ByteArray} (hb : ∀ j, j < L.length → ls (tx L[j]!.path) (tx p) = true) : place p (L.map fl) = L.length := by
  have := place_end p (L.map fl) fun j hj => by
    rw [List.length_map] at hj
    rw [List.getElem_map]
    have := hb j hj
    rw [getElem!_pos L j hj] at this
    exact this
  rw [this, List.length_map]
theorem there_map {L : List Fv} {p : ByteArray} {i : Nat} (hi : i < L.length) (h : place p (L.map fl) = i) : there p (L.map fl) = decide (tx L[i]!.path = tx p) := by
  unfold there
  rw [h, List.getElem?_map, List.getElem?_eq_getElem hi]
  show decide (L[i].path = p) = _
  rw [getElem!_pos L i hi]
  exact decide_eq_decide.2 ⟨fun e => by rw [e], fun e => tx_inj e⟩
theorem there_end {L : List Fv} {p : ByteArray} (h : place p (L.map fl) = L.length) : there p (L.map fl) = false := by
  unfold there
  rw [h, List.getElem?_eq_none (by rw [List.length_map]; exact Nat.le_refl _)]

theorem used_map (L : List Fv) : used (L.map fl) = (L.map fun x => x.b.size).sum := by unfold used; rw [List.map_map]; rfl
theorem used_take {L : List Fv} {i : Nat} (hi : i < L.length) : used ((L.take (i + 1)).map fl) = used ((L.take i).map fl) + L[i]!.b.size := by
  rw [used_map, used_map, ← List.take_append_getElem hi, List.map_append, List.sum_append, getElem!_pos L i hi]
  simp
end Go.Proofs.Ythkhkijdehbbmab
