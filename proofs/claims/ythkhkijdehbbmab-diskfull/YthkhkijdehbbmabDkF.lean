/-
  Files in memory: rows of them that are appended to, cut.
-/
import Derived.Test.YthkhkijdehbbmabByt
import Derived.Test.YthkhkijdehbbmabDkM
set_option maxRecDepth 100000
namespace Go.Proofs.Ythkhkijdehbbmab
open Go.RowKit
attribute [local go_sem ↓] Go.wp_at_zero Go.wp_at_succ
set_option linter.unusedVariables false

/-- A file in memory; b: what its row of bytes holds. -/
structure Fv where
  path : ByteArray
  bv : Option Addr × Nat × Nat
  sure : Bool
  b : ByteArray
  deriving Inhabited
def cellsF (e : Fv) : List Value := [.string e.path, .slice e.bv.1 e.bv.2.1 e.bv.2.2, .bool e.sure]
/-- It as a value. -/
def fv (e : Fv) : Value := .agg #[.string e.path, .slice e.bv.1 e.bv.2.1 e.bv.2.2, .bool e.sure]
theorem cellsF_length (e : Fv) : (cellsF e).length = 3 := rfl
theorem cellsF_one (e : Fv) : ∀ u ∈ cellsF e, u.oneCell' = true := by
  intro u h
  unfold cellsF at h
  simp at h
  rcases h with rfl | rfl | rfl <;> rfl
/-- Its cells. -/
structure FAt (w : World) (b o : Nat) (e : Fv) : Prop where
  c0 : w.cell? ⟨b, o, none⟩ = some (.string e.path)
  c1 : w.cell? ⟨b, o + 1, none⟩ = some (.slice e.bv.1 e.bv.2.1 e.bv.2.2)
  c2 : w.cell? ⟨b, o + 2, none⟩ = some (.bool e.sure)
theorem FAt.keep {w w' : World} {b o : Nat} {e : Fv} (h : FAt w b o e) (hb : Below w.heap.size w w') : FAt w' b o e :=
  ⟨(hb.cell (p := ⟨b, o, none⟩) (block_lt_of_cell h.c0)).trans h.c0, (hb.cell (p := ⟨b, o + 1, none⟩) (block_lt_of_cell h.c1)).trans h.c1, (hb.cell (p := ⟨b, o + 2, none⟩) (block_lt_of_cell h.c2)).trans h.c2⟩
/-- A slice that begins at a holds in w the row L. -/
def Fs (w : World) (a : Option Addr) (L : List Fv) : Prop := 0 < L.length → ∃ b o, a = some ⟨b, o, none⟩ ∧ ∀ i, i < L.length → FAt w b (o + i * 3) L[i]!
theorem Fs.keep {w w' : World} {a : Option Addr} {L : List Fv} (h : Fs w a L) (hb : Below w.heap.size w w') : Fs w' a L := fun hn => by
  obtain ⟨b, o, e, hc⟩ := h hn
  exact ⟨b, o, e, fun i hi => (hc i hi).keep hb⟩
theorem Fs.nil (w : World) (a : Option Addr) : Fs w a [] := fun h => absurd h (Nat.lt_irrefl _)
/-- The cells of the row. -/
def fcs (L : List Fv) : List Value := L.flatMap cellsF
theorem fcs_length (L : List Fv) : (fcs L).length = L.length * 3 := by
  induction L with
  | nil => rfl
  | cons e L ih => unfold fcs at *; rw [List.flatMap_cons, List.length_append, ih, cellsF_length, List.length_cons]; omega
theorem fcs_append (L M : List Fv) : fcs (L ++ M) = fcs L ++ fcs M := List.flatMap_append
theorem fcs_at (L : List Fv) (i : Nat) (hi : i < L.length) (r : Nat) (hr : r < 3) : (fcs L)[i * 3 + r]? = (cellsF L[i]!)[r]? := by
  induction L generalizing i with
  | nil => simp at hi
  | cons e L ih =>
    show (cellsF e ++ fcs L)[i * 3 + r]? = _
    cases i with
    | zero => rw [List.getElem?_append_left (by rw [cellsF_length]; omega)]; simp
    | succ i =>
      rw [List.getElem?_append_right (by rw [cellsF_length]; omega), cellsF_length, show (i + 1) * 3 + r - 3 = i * 3 + r by omega, ih i (by simpa using hi)]
      simp
theorem fcs_one {L : List Fv} : ∀ u ∈ fcs L, u.oneCell' = true := by
  intro u hu
  obtain ⟨e, _, h⟩ := List.mem_flatMap.1 hu
  exact cellsF_one e u h
theorem fcs_ext {X : List Value} {L : List Fv} (hl : X.length = L.length * 3) (h : ∀ i, i < L.length → ∀ r, r < 3 → X[i * 3 + r]? = (cellsF L[i]!)[r]?) : X = fcs L := by
  apply List.ext_getElem?
  intro j
  by_cases hj : j < L.length * 3
  · have e : j = j / 3 * 3 + j % 3 := by omega
    rw [e, h (j / 3) (by omega) (j % 3) (by omega), fcs_at L (j / 3) (by omega) (j % 3) (by omega)]
  · rw [List.getElem?_eq_none (by omega), List.getElem?_eq_none (by rw [fcs_length]; omega)]
theorem FAt.cells {w : World} {b o : Nat} {L : List Fv} (h : ∀ i, i < L.length → FAt w b (o + i * 3) L[i]!) (j : Nat) (u : Value) (hu : (fcs L)[j]? = some u) : w.cell? ⟨b, o + j, none⟩ = some u := by
  have hj : j < L.length * 3 := by rw [← fcs_length L]; exact (List.getElem?_eq_some_iff.1 hu).1
  obtain ⟨i, r, e, hi, hr⟩ : ∃ i r, j = i * 3 + r ∧ i < L.length ∧ r < 3 := ⟨j / 3, j % 3, by omega, by omega, by omega⟩
  subst e
  rw [fcs_at L i hi r hr] at hu
  obtain ⟨c0, c1, c2⟩ := h i hi
  rw [show o + (i * 3 + r) = o + i * 3 + r by omega, ← hu]
  match r, hr with
  | 0, _ => exact c0
  | 1, _ => exact c1
  | 2, _ => exact c2
end Go.Proofs.Ythkhkijdehbbmab
