/-
  Rows of rows that came in as an argument, opened; and Mul in one sentence.
-/
import Derived.Test.YtbfhmdphhhjlnaaSys
import Derived.OpenShut
import Derived.Deep.Matrix
namespace Go.Proofs.Ytbfhmdphhhjlnaa
open Go.RowKit Gf Go.ChangeShapes Go.WideShapes

theorem cells27 : Try.prog.cellsOf 30 = 1 := by kernel_rfl
theorem cells5 : Try.prog.cellsOf 5 = 1 := by kernel_rfl

theorem vals_at {w : World} {a : Addr} {n : Nat} {V : Nat → Value} (h : ∀ i, i < n → w.cell? (a.add i) = some (V i)) (hp : 0 < n) :
    ∃ b o, a = ⟨b, o, none⟩ ∧ ∀ j, j < n → w.cell? ⟨b, o + j, none⟩ = some (V j) := by
  obtain ⟨b, o, spot⟩ := a
  have hspot : spot = none := by simpa [Addr.add] using World.cell?_spot (h 0 hp)
  subst hspot
  exact ⟨b, o, rfl, fun j hj => by rw [← add_plain]; exact h j hj⟩

theorem open_mat {H : Type} {enc : TypeId × Value → H} {W : World} {base : Nat} {held : Bool} {a : Option Addr} {len cap : Nat} {d : DataW H} {p : List MemPlace} (h : DataW.Trod enc Try.prog W base (fun _ => true) held 27 (.slice a len cap) d p) :
    ∃ A L C F, Mat W a len A L C F ∧ len ≤ maxLen := by
  obtain ⟨fuel, hf⟩ := h
  rcases Deep.open_int_rows Try.underlying27 Try.underlying30 Try.underlying5 cells27 cells5 hf with ⟨hcs, _⟩ | ⟨x, l, c, A, L, C, Z, hcs, _, hl, hm, _, hr⟩
  · simp [Value.cells] at hcs
    obtain ⟨rfl, rfl, rfl⟩ := hcs
    exact ⟨fun _ => none, fun _ => 0, fun _ => 0, fun _ _ => 0, ⟨fun h => absurd h (by omega), fun i hi => absurd hi (by omega), fun i hi => absurd hi (by omega), fun _ => by omega, fun _ _ => by omega⟩, by omega⟩
  · simp [Value.cells] at hcs
    obtain ⟨rfl, rfl, rfl⟩ := hcs
    refine ⟨A, fun i => if i < len then L i else 0, C, fun i j => if i < len then ((Z i).getD j 0).toNat else 0, ⟨fun hn => ?_, fun i hi => ?_, fun i hi e => ?_, fun i => ?_, fun i j => ?_⟩, by omega⟩
    · obtain ⟨b, o, rfl, hc⟩ := vals_at (V := fun i => .slice (A i) (L i) (C i)) (fun i hi => (hr i (by omega)).1) hn
      exact ⟨b, o, rfl, fun i hi => by rw [hc i hi, if_pos hi]⟩
    · obtain ⟨_, hlc, hcm, hz, hwf, hnil, hcell⟩ := hr i (by omega)
      rw [if_pos hi]
      have hb : ∀ j, 0 ≤ (Z i).getD j 0 ∧ (Z i).getD j 0 ≤ 255 := fun j => by
        have := range_u8 hwf j
        simpa [List.getD] using this
      refine ⟨fun j => by rw [if_pos hi]; have := hb j; omega, fun hn => ?_⟩
      cases hA : A i with
      | none => have := hnil hA; omega
      | some ad =>
        obtain ⟨b, o, rfl, hc⟩ := vals_at (V := fun j => .int .u8 ((Z i).getD j 0)) (fun j hj => (hcell ad hA).2 j (by omega)) hn
        refine ⟨b, o, rfl, fun j hj => ?_⟩
        rw [hc j hj, if_pos hi]
        have := hb j
        congr 2
        omega
    · obtain ⟨_, hlc, hcm, hz, hwf, hnil, hcell⟩ := hr i (by omega)
      rw [if_pos hi]
      have := hnil e
      omega
    · split
      · obtain ⟨_, hlc, hcm, _⟩ := hr i (by omega)
        unfold maxLen at *
        omega
      · omega
    · split
      · obtain ⟨_, hlc, hcm, hz, hwf, hnil, hcell⟩ := hr i (by omega)
        have := range_u8 hwf j
        have q : 0 ≤ (Z i).getD j 0 ∧ (Z i).getD j 0 ≤ 255 := by simpa [List.getD] using this
        omega
      · omega

/-- Mul, whatever is handed in. -/
theorem mxMul_any (a a' : Option Addr) (n m c c' : Nat) (A A' : Nat → Option Addr) (L L' C C' : Nat → Nat) (F G : Nat → Nat → Nat) (w : World) (h1 : Mat w a n A L C F) (h2 : Mat w a' m A' L' C' G) (hn : n ≤ maxLen) (hm : m ≤ maxLen) :
    Calls Try.prog 43 #[.slice a n c, .slice a' m c'] w fun e w' =>
      ((IsM n L ∧ IsM m L' ∧ L 0 = m ∧ ∃ h, e = .returned (.tuple #[.slice (some ⟨h, 0, none⟩) n n, .bool true]) ∧ Out w' h n (L' 0) (mm m F G)) ∨ (¬ (IsM n L ∧ IsM m L' ∧ L 0 = m) ∧ e = .returned (.tuple #[.slice none 0 0, .bool false]))) ∧ Below w.heap.size w w' := by
  by_cases hf : IsM n L ∧ IsM m L' ∧ L 0 = m
  · refine (mxMul_yes a a' n m c c' A A' L L' C C' F G w h1 h2 hf.1 hf.2.1 hf.2.2).mono ?_
    rintro e w' ⟨h, rfl, _, ho, hb⟩
    exact ⟨.inl ⟨hf.1, hf.2.1, hf.2.2, h, rfl, ho⟩, hb⟩
  · refine (mxMul_no a a' n m c c' A A' L L' C C' F G w h1 h2 hn hm hf).mono ?_
    rintro e w' ⟨rfl, rfl⟩
    exact ⟨.inr ⟨hf, rfl⟩, Below.refl _ _⟩
end Go.Proofs.Ytbfhmdphhhjlnaa
