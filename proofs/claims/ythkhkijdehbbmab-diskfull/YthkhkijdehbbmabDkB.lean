/-
  What a disk of the document asks ahead of an operation.
-/
import Derived.Test.YthkhkijdehbbmabDkA
import Derived.StillTailTactics
import Derived.BigRegion
set_option maxRecDepth 100000
namespace Go.Proofs.Ythkhkijdehbbmab
open Go.RowKit Dk Nm
attribute [local go_sem ↓] Go.wp_at_zero Go.wp_at_succ
set_option linter.unusedVariables false

/-- A row of texts. -/
def Strs (w : World) (a : Option Addr) (ps : List ByteArray) : Prop := 0 < ps.length → ∃ b o, a = some ⟨b, o, none⟩ ∧ ∀ i, i < ps.length → w.cell? ⟨b, o + i, none⟩ = some (.string ps[i]!)
/-- The blocks that an operation of the disk at p may write. -/
def Mk (p : Nat) (q : Option Nat) : Nat → Prop := fun k => k = p ∨ q = some k
theorem BO.upd {M : Nat → Prop} {w w' : World} {x : Fv} (h : BO w x) (u : Upd M w w') (hm : ∀ g cur, w.heap[g]? = some (.cells cur 5 (0, 0)) → ¬ M g) : BO w' x := by
  obtain ⟨h1, f, h2, h3, h4⟩ := h
  exact ⟨h1, f, h2, own_upd h3 u hm, h4⟩
theorem okPath_iff {p : ByteArray} : okPath p = true ↔ 1 ≤ p.size ∧ p.size ≤ 600 := by unfold okPath; simp
theorem askD_off {s : St} {ps : List ByteArray} (h : s.off = true) : askD s ps = (10, s) := by unfold askD; rw [if_pos h]
theorem askD_bad {s : St} {ps : List ByteArray} (h : s.off = false) (b : 0 < s.bad) : askD s ps = (9, { s with bad := s.bad - 1 }) := by unfold askD; rw [if_neg (by rw [h]; decide), if_pos b]
theorem askD_ok {s : St} {ps : List ByteArray} (h : s.off = false) (b : ¬ 0 < s.bad) (k : ps.all okPath = true) : askD s ps = (0, s) := by unfold askD; rw [if_neg (by rw [h]; decide), if_neg b, if_pos k]
theorem askD_no {s : St} {ps : List ByteArray} (h : s.off = false) (b : ¬ 0 < s.bad) (k : ¬ ps.all okPath = true) : askD s ps = (1, s) := by unfold askD; rw [if_neg (by rw [h]; decide), if_neg b, if_neg k]
theorem all_ok {ps : List ByteArray} (h : ∀ i, i < ps.length → okPath ps[i]! = true) : ps.all okPath = true := by
  rw [List.all_eq_true]
  intro x hx
  obtain ⟨i, hi, e⟩ := List.getElem_of_mem hx
  have := h i hi
  rw [getElem!_pos ps i hi, e] at this
  exact this
theorem not_ok {ps : List ByteArray} {i : Nat} (hi : i < ps.length) (h : okPath ps[i]! = false) : ¬ ps.all okPath = true := by
  intro q
  have := List.all_eq_true.1 q ps[i]! (by rw [getElem!_pos ps i hi]; exact List.getElem_mem hi)
  rw [h] at this; cases this

end Go.Proofs.Ythkhkijdehbbmab
