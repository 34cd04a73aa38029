/-
  A byte, and a row of bytes, that came in as an argument, opened.
-/
import Derived.Test.YtbfhmdphhhjlnaaRefMx
namespace Go.Proofs.Ytbfhmdphhhjlnaa
open Go.RowKit Gf Go.ChangeShapes Go.WideShapes

theorem open_u8 {H : Type} {enc : TypeId × Value → H} {W : World} {base base' : Nat} {sp : Nat → Bool} {held : Bool} {v : Value} {d : DataW H} {p : List MemPlace} (hv : Value.okWide Try.prog W .any base' 5 v) (h : DataW.Trod enc Try.prog W base sp held 5 v d p) :
    ∃ x : Nat, x < 256 ∧ v = .int .u8 (x : Int) := by
  obtain ⟨fuel, hf⟩ := h
  obtain ⟨a, ea, _, wa⟩ := DataW.trod_int Try.underlying5 hf
  have ba := bounds_u8 wa
  obtain ⟨n, rfl⟩ : ∃ n, v = .int .u8 n := by
    simp only [Value.okWide, Try.underlying5, Cell.okWide] at hv
    cases v <;> simp_all [Cell.ok]
  simp [Value.cells] at ea
  subst ea
  exact ⟨n.toNat, by omega, by rw [Int.toNat_of_nonneg ba.1]⟩

theorem open_row {H : Type} {enc : TypeId × Value → H} {W : World} {base : Nat} {held : Bool} {a : Option Addr} {len cap : Nat} {d : DataW H} {p : List MemPlace} (h : DataW.Trod enc Try.prog W base (fun _ => true) held 30 (.slice a len cap) d p) :
    ∃ f, Row W a len f ∧ (a = none → len = 0 ∧ cap = 0) ∧ len ≤ maxLen := by
  obtain ⟨fuel, hf⟩ := h
  rcases open_ints Try.underlying30 Try.underlying5 (by kernel_rfl) hf with ⟨hcs, _⟩ | ⟨x, l, c, zs, hcs, _, hl, hm, hz, _, hcell, hwz⟩
  · simp [Value.cells] at hcs
    obtain ⟨rfl, rfl, rfl⟩ := hcs
    exact ⟨fun _ => 0, ⟨fun _ => by omega, fun h => absurd h (by omega)⟩, fun _ => ⟨rfl, rfl⟩, by omega⟩
  · simp [Value.cells] at hcs
    obtain ⟨rfl, rfl, rfl⟩ := hcs
    have hb : ∀ j, 0 ≤ zs.getD j 0 ∧ zs.getD j 0 ≤ 255 := fun j => by
      have := range_u8 hwz j
      simpa [List.getD] using this
    simp only [if_true] at hz
    refine ⟨fun i => (zs.getD i 0).toNat, ⟨fun i => by have := hb i; omega, fun hn => ?_⟩, fun e => (by cases e), by omega⟩
    obtain ⟨b, o, rfl, hc⟩ := ints_at hcell (by omega)
    refine ⟨b, o, rfl, fun i hi => ?_⟩
    rw [hc i (by omega)]
    have q := hb i
    congr 2
    omega
end Go.Proofs.Ytbfhmdphhhjlnaa
