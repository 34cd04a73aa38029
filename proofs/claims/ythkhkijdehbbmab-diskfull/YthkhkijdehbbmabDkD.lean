/-
  A disk of the document whose row is laid anew; a file taken away.
-/
import Derived.Test.YthkhkijdehbbmabDkC
set_option maxRecDepth 100000
namespace Go.Proofs.Ythkhkijdehbbmab
open Go.RowKit Dk Nm
attribute [local go_sem ↓] Go.wp_at_zero Go.wp_at_succ
set_option linter.unusedVariables false

theorem BO.keep {w w' : World} {x : Fv} (h : BO w x) (hb : Below w.heap.size w w') : BO w' x := by
  obtain ⟨h1, f, h2, h3, h4⟩ := h
  exact ⟨h1, f, h2, h3.keep hb, h4⟩
theorem cut_map (L : List Fv) (i : Nat) : (L.take i ++ L.drop (i + 1)).map fl = Dk.cut (L.map fl) i := by
  unfold Dk.cut
  rw [List.map_append, List.map_take, List.map_drop]
theorem wf_sub {s : St} {l : List Fl} (h : Wf s) (hl : l.length ≤ s.fs.length) (hs : ∀ f ∈ l, f ∈ s.fs) : Wf { s with fs := l } :=
  ⟨Nat.le_trans hl h.n, fun f hf => h.b f (hs f hf), fun f hf => h.p f (hs f hf), h.m0, h.m1, h.b0, h.b1⟩
end Go.Proofs.Ythkhkijdehbbmab
