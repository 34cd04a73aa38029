/-
  A shape, three bytes, two bytes, as they come in.
-/
import Derived.Test.YtebngmgdciahiaaDoorArI
import Derived.ChangeSame
set_option maxRecDepth 100000
set_option linter.unusedVariables false
namespace Go.Proofs.YtebngmgdciahiaaDoor
open Go.RowKit Go.ChangeShapes Go.WideShapes

theorem cellsSh : Tryd.prog.cellsOf 24 = 3 := by kernel_rfl
theorem cellsIn : Tryd.prog.cellsOf 3 = 1 := by kernel_rfl
theorem cellsBy : Tryd.prog.cellsOf 5 = 1 := by kernel_rfl
theorem bnd_i64 {n : Int} (h : (Lit.int .i64 n).wf = true) : -9223372036854775808 ≤ n ∧ n ≤ 9223372036854775807 := by
  simpa [Lit.wf, IntKind.min, IntKind.max, IntKind.signed, IntKind.bits] using h
theorem bnd_u8 {n : Int} (h : (Lit.int .u8 n).wf = true) : 0 ≤ n ∧ n ≤ 255 := by
  simpa [Lit.wf, IntKind.min, IntKind.max, IntKind.signed, IntKind.bits] using h
/-- A number of Go's int. -/
def I64 (x : Int) : Prop := -9223372036854775808 ≤ x ∧ x ≤ 9223372036854775807
theorem open_shape {H : Type} {enc : TypeId × Value → H} {W : World} {r : Reach} {b0 base : Nat} {sp : Nat → Bool} {held : Bool} {v : Value} {d : DataW H} {p : List MemPlace} (hv : Value.okWide Tryd.prog W r b0 24 v) (h : DataW.Trod enc Tryd.prog W base sp held 24 v d p) :
    ∃ K M B : Int, (I64 K ∧ I64 M ∧ I64 B) ∧ v = .agg #[.int .i64 K, .int .i64 M, .int .i64 B] := by
  simp only [Value.okWide, Tryd.underlying24] at hv
  obtain ⟨cs, rfl, hsz, _⟩ := hv
  rw [cellsSh] at hsz
  obtain ⟨l⟩ := cs
  match l, hsz with
  | [e0, e1, e2], _ =>
    obtain ⟨fuel, hf⟩ := h
    obtain ⟨xs, n, _, _, hl, hlen, hel⟩ := DataW.trod_struct Tryd.underlying24 hf
    match xs, hlen with
    | [x0, x1, x2], _ =>
      have t0 := hel 0 _ rfl
      have t1 := hel 1 _ rfl
      have t2 := hel 2 _ rfl
      simp [Value.cells, cellsIn] at t0 t1 t2
      obtain ⟨a0, ea0, _, wa0⟩ := DataW.trod_int Tryd.underlying3 t0
      obtain ⟨a1, ea1, _, wa1⟩ := DataW.trod_int Tryd.underlying3 t1
      obtain ⟨a2, ea2, _, wa2⟩ := DataW.trod_int Tryd.underlying3 t2
      simp at ea0 ea1 ea2
      subst ea0 ea1 ea2
      exact ⟨a0, a1, a2, ⟨bnd_i64 wa0, bnd_i64 wa1, bnd_i64 wa2⟩, rfl⟩
theorem cellsT8 : Tryd.prog.cellsOf 51 = 3 := by kernel_rfl
theorem open_trip8 {H : Type} {enc : TypeId × Value → H} {W : World} {r : Reach} {b0 base : Nat} {sp : Nat → Bool} {held : Bool} {v : Value} {d : DataW H} {p : List MemPlace} (hv : Value.okWide Tryd.prog W r b0 51 v) (h : DataW.Trod enc Tryd.prog W base sp held 51 v d p) :
    ∃ x y z : Nat, (x < 256 ∧ y < 256 ∧ z < 256) ∧ v = .agg #[.int .u8 (x : Int), .int .u8 (y : Int), .int .u8 (z : Int)] := by
  simp only [Value.okWide, Tryd.underlying51] at hv
  obtain ⟨cs, rfl, hsz, _⟩ := hv
  rw [cellsT8] at hsz
  obtain ⟨l⟩ := cs
  match l, hsz with
  | [e0, e1, e2], _ =>
    obtain ⟨fuel, hf⟩ := h
    obtain ⟨xs, m, _, _, _, hlen, hel⟩ := DataW.trod_array Tryd.underlying51 hf
    have t0 := hel 0 (by omega)
    have t1 := hel 1 (by omega)
    have t2 := hel 2 (by omega)
    rw [cellsBy] at t0 t1 t2
    match xs, hlen with
    | [x0, x1, x2], _ =>
      simp [Value.cells] at t0 t1 t2
      obtain ⟨a, ea, _, wa⟩ := DataW.trod_int Tryd.underlying5 t0
      obtain ⟨b, eb, _, wb⟩ := DataW.trod_int Tryd.underlying5 t1
      obtain ⟨c, ec, _, wc⟩ := DataW.trod_int Tryd.underlying5 t2
      simp at ea eb ec
      subst ea eb ec
      have ba := bnd_u8 wa
      have bb := bnd_u8 wb
      have bc := bnd_u8 wc
      exact ⟨a.toNat, b.toNat, c.toNat, ⟨by omega, by omega, by omega⟩, by rw [Int.toNat_of_nonneg ba.1, Int.toNat_of_nonneg bb.1, Int.toNat_of_nonneg bc.1]⟩
end Go.Proofs.YtebngmgdciahiaaDoor
