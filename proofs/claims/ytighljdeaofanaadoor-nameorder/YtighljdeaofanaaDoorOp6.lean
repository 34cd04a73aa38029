/-
  Texts as they come in.
-/
import Derived.Test.YtighljdeaofanaaDoorByt
import Derived.ChangeSame
import Derived.ChangeMaps5
namespace Go.Proofs.YtighljdeaofanaaDoor
open Go.RowKit Go.ChangeShapes Go.WideShapes

theorem open_str {H : Type} {enc : TypeId × Value → H} {W : World} {r : Reach} {b0 base : Nat} {sp : Nat → Bool} {held : Bool} {v : Value} {d : DataW H} {p : List MemPlace} (hv : Value.okWide Tryd.prog W r b0 9 v) (h : DataW.Trod enc Tryd.prog W base sp held 9 v d p) :
    ∃ s : ByteArray, s.size ≤ maxLen ∧ v = .string s := by
  obtain ⟨s, e, _, _, hs⟩ := ChangeMaps.open_string Tryd.underlying9 hv h
  exact ⟨s, hs, e⟩
theorem cells28 : Tryd.prog.cellsOf 28 = 3 := by kernel_rfl
theorem cells9 : Tryd.prog.cellsOf 9 = 1 := by kernel_rfl
set_option maxRecDepth 100000 in
theorem open_three {H : Type} {enc : TypeId × Value → H} {W : World} {r : Reach} {b0 base : Nat} {sp : Nat → Bool} {held : Bool} {v : Value} {d : DataW H} {p : List MemPlace} (hv : Value.okWide Tryd.prog W r b0 28 v) (h : DataW.Trod enc Tryd.prog W base sp held 28 v d p) :
    ∃ a b c : ByteArray, a.size ≤ maxLen ∧ b.size ≤ maxLen ∧ c.size ≤ maxLen ∧ v = .agg #[.string a, .string b, .string c] := by
  simp only [Value.okWide, Tryd.underlying28] at hv
  obtain ⟨cs, rfl, hsz, _⟩ := hv
  rw [cells28] at hsz
  obtain ⟨l⟩ := cs
  match l, hsz with
  | [e0, e1, e2], _ =>
    obtain ⟨fuel, hf⟩ := h
    obtain ⟨xs, m, _, _, _, hlen, hel⟩ := DataW.trod_array Tryd.underlying28 hf
    have t0 := hel 0 (by omega)
    have t1 := hel 1 (by omega)
    have t2 := hel 2 (by omega)
    rw [cells9] at t0 t1 t2
    match xs, hlen with
    | [x0, x1, x2], _ =>
      simp [Value.cells] at t0 t1 t2
      obtain ⟨a, ea, _, wa⟩ := DataW.trod_string Tryd.underlying9 t0
      obtain ⟨b, eb, _, wb⟩ := DataW.trod_string Tryd.underlying9 t1
      obtain ⟨c, ec, _, wc⟩ := DataW.trod_string Tryd.underlying9 t2
      simp at ea eb ec
      subst ea eb ec
      exact ⟨a, b, c, wa, wb, wc, rfl⟩
end Go.Proofs.YtighljdeaofanaaDoor
