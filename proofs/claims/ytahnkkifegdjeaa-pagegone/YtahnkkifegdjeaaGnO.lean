/-
  Rows of truths as they come in.
-/
import Derived.Test.YtahnkkifegdjeaaOp8
namespace Go.Proofs.Ytahnkkifegdjeaa
open Go.RowKit Go.ChangeShapes Go.WideShapes
set_option linter.unusedVariables false

/-- A row of truths in memory. -/
def Bls (w : World) (a : Option Addr) (n : Nat) (F : Nat → Bool) : Prop := 0 < n → ∃ b o, a = some ⟨b, o, none⟩ ∧ ∀ i, i < n → w.cell? ⟨b, o + i, none⟩ = some (.bool (F i))
theorem Bls.keep {w w' : World} {a : Option Addr} {n : Nat} {F : Nat → Bool} (h : Bls w a n F) (hb : Below w.heap.size w w') : Bls w' a n F := fun hn => by
  obtain ⟨b, o, rfl, hc⟩ := h hn
  refine ⟨b, o, rfl, fun i hi => ?_⟩
  have h0 := hc i hi
  exact (World.cell?_of_block (w := w) (a := ⟨b, o + i, none⟩) (hb.block b (block_lt_of_cell h0))).trans h0
theorem cells1 {W : World} {a : Addr} {l : List Value} (h : W.cells? 0 a 1 = some l) : ∃ v0, l = [v0] ∧ W.cell? (a.add 0) = some v0 := by
  unfold World.cells? at h
  rw [if_pos (Nat.zero_le _)] at h
  have e : List.range 1 = [0] := rfl
  rw [e] at h
  simp only [List.mapM_cons, List.mapM_nil] at h
  cases h0 : W.cell? (a.add 0) with
  | none => simp [h0] at h
  | some v0 =>
    simp [h0] at h
    exact ⟨v0, h.symm, rfl⟩
set_option maxRecDepth 100000 in
theorem open_bls {H : Type} {enc : TypeId × Value → H} {W : World} {r : Reach} {b0 : Nat} {sp : Nat → Bool} {held : Bool} {v : Value} {d : DataW H} {p : List MemPlace} (hv : Value.okWide Try.prog W r b0 50 v) (h : DataW.Trod enc Try.prog W 0 sp held 50 v d p) :
    ∃ a n c F, v = .slice a n c ∧ Bls W a n F ∧ (a = none → n = 0 ∧ c = 0) ∧ n ≤ maxLen ∧ n ≤ c := by
  obtain ⟨a0, n0, c0, rfl⟩ := okWide_slice Try.underlying50 hv
  obtain ⟨fuel, hf⟩ := h
  rcases DataW.trod_slice Try.underlying50 hf with ⟨e, _⟩ | ⟨a, len, cap, elems, rest, n, _, e, _, _, hlc, hcm, hel, hcell, _⟩
  · simp [Value.cells] at e
    obtain ⟨rfl, rfl, rfl⟩ := e
    exact ⟨none, 0, 0, fun _ => false, rfl, fun h => absurd h (Nat.lt_irrefl _), fun _ => ⟨rfl, rfl⟩, Nat.zero_le _, Nat.le_refl _⟩
  · simp [Value.cells] at e
    obtain ⟨rfl, rfl, rfl⟩ := e
    rw [cells_b] at hcell
    have hx : ∀ i, i < n0 → ∃ u : Bool, W.cell? ((a.add (i * 1)).add 0) = some (.bool u) := fun i hi => by
      have hi' := hcell i hi
      rw [List.getElem?_eq_getElem (by omega)] at hi'
      obtain ⟨l, hl, ht⟩ := Option.bind_eq_some_iff.1 hi'
      obtain ⟨v0, rfl, k0⟩ := cells1 hl
      obtain ⟨u, eu, _⟩ := DataW.trod_bool Try.underlying4 ht
      simp at eu
      subst eu
      exact ⟨u, k0⟩
    refine ⟨some a, n0, c0, fun i => if h : i < n0 then Classical.choose (hx i h) else false, rfl, fun hp => ?_, (fun e => by cases e), by omega, by omega⟩
    obtain ⟨b, o, spot⟩ := a
    have hspot : spot = none := by
      have := Classical.choose_spec (hx 0 (by omega))
      simpa [Addr.add] using World.cell?_spot this
    subst hspot
    refine ⟨b, o, rfl, fun i hi => ?_⟩
    have hs := Classical.choose_spec (hx i hi)
    simp only [dif_pos hi]
    exact (congrArg W.cell? (by rw [add_plain, add_plain]; simp)).trans hs
end Go.Proofs.Ytahnkkifegdjeaa
