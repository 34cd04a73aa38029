/-
  A shape, three bytes, two bytes, as they come in.
-/
import Derived.Test.YtebngmgdciahiaaGreatDoorArI
import Derived.ChangeSame
set_option maxRecDepth 100000
set_option linter.unusedVariables false
namespace Go.Proofs.YtebngmgdciahiaaGreatDoor
open Go.RowKit Go.ChangeShapes Go.WideShapes

theorem cellsSh : Tryz.prog.cellsOf 23 = 3 := by kernel_rfl
theorem cellsIn : Tryz.prog.cellsOf 3 = 1 := by kernel_rfl
theorem cellsBy : Tryz.prog.cellsOf 5 = 1 := by kernel_rfl
theorem bnd_i64 {n : Int} (h : (Lit.int .i64 n).wf = true) : -9223372036854775808 ≤ n ∧ n ≤ 9223372036854775807 := by
  simpa [Lit.wf, IntKind.min, IntKind.max, IntKind.signed, IntKind.bits] using h
theorem bnd_u8 {n : Int} (h : (Lit.int .u8 n).wf = true) : 0 ≤ n ∧ n ≤ 255 := by
  simpa [Lit.wf, IntKind.min, IntKind.max, IntKind.signed, IntKind.bits] using h
/-- A number of Go's int. -/
def I64 (x : Int) : Prop := -9223372036854775808 ≤ x ∧ x ≤ 9223372036854775807
theorem open_shape {H : Type} {enc : TypeId × Value → H} {W : World} {r : Reach} {b0 base : Nat} {sp : Nat → Bool} {held : Bool} {v : Value} {d : DataW H} {p : List MemPlace} (hv : Value.okWide Tryz.prog W r b0 23 v) (h : DataW.Trod enc Tryz.prog W base sp held 23 v d p) :
    ∃ K M B : Int, (I64 K ∧ I64 M ∧ I64 B) ∧ v = .agg #[.int .i64 K, .int .i64 M, .int .i64 B] := by
  simp only [Value.okWide, Tryz.underlying23] at hv
  obtain ⟨cs, rfl, hsz, _⟩ := hv
  rw [cellsSh] at hsz
  obtain ⟨l⟩ := cs
  match l, hsz with
  | [e0, e1, e2], _ =>
    obtain ⟨fuel, hf⟩ := h
    obtain ⟨xs, n, _, _, hl, hlen, hel⟩ := DataW.trod_struct Tryz.underlying23 hf
    match xs, hlen with
    | [x0, x1, x2], _ =>
      have t0 := hel 0 _ rfl
      have t1 := hel 1 _ rfl
      have t2 := hel 2 _ rfl
      simp [Value.cells, cellsIn] at t0 t1 t2
      obtain ⟨a0, ea0, _, wa0⟩ := DataW.trod_int Tryz.underlying3 t0
      obtain ⟨a1, ea1, _, wa1⟩ := DataW.trod_int Tryz.underlying3 t1
      obtain ⟨a2, ea2, _, wa2⟩ := DataW.trod_int Tryz.underlying3 t2
      simp at ea0 ea1 ea2
      subst ea0 ea1 ea2
      exact ⟨a0, a1, a2, ⟨bnd_i64 wa0, bnd_i64 wa1, bnd_i64 wa2⟩, rfl⟩
theorem cellsP8 : Tryz.prog.cellsOf 59 = 2 := by kernel_rfl
theorem open_pair8 {H : Type} {enc : TypeId × Value → H} {W : World} {r : Reach} {b0 base : Nat} {sp : Nat → Bool} {held : Bool} {v : Value} {d : DataW H} {p : List MemPlace} (hv : Value.okWide Tryz.prog W r b0 59 v) (h : DataW.Trod enc Tryz.prog W base sp held 59 v d p) :
    ∃ x y : Nat, (x < 256 ∧ y < 256) ∧ v = .agg #[.int .u8 (x : Int), .int .u8 (y : Int)] := by
  simp only [Value.okWide, Tryz.underlying59] at hv
  obtain ⟨cs, rfl, hsz, _⟩ := hv
  rw [cellsP8] at hsz
  obtain ⟨l⟩ := cs
  match l, hsz with
  | [e0, e1], _ =>
    obtain ⟨fuel, hf⟩ := h
    obtain ⟨xs, m, _, _, _, hlen, hel⟩ := DataW.trod_array Tryz.underlying59 hf
    have t0 := hel 0 (by omega)
    have t1 := hel 1 (by omega)
    rw [cellsBy] at t0 t1
    match xs, hlen with
    | [x0, x1], _ =>
      simp [Value.cells] at t0 t1
      obtain ⟨a, ea, _, wa⟩ := DataW.trod_int Tryz.underlying5 t0
      obtain ⟨b, eb, _, wb⟩ := DataW.trod_int Tryz.underlying5 t1
      simp at ea eb
      subst ea eb
      have ba := bnd_u8 wa
      have bb := bnd_u8 wb
      exact ⟨a.toNat, b.toNat, ⟨by omega, by omega⟩, by rw [Int.toNat_of_nonneg ba.1, Int.toNat_of_nonneg bb.1]⟩
end Go.Proofs.YtebngmgdciahiaaGreatDoor
