/-
  A pair of numbers, a head, as they come in.
-/
import Derived.Test.YtjbdncgmpccedaaDoorByt
import Derived.ChangeSame
namespace Go.Proofs.YtjbdncgmpccedaaDoor
open Go.RowKit Go.ChangeShapes Go.WideShapes

theorem cells41 : Tryd.prog.cellsOf 41 = 2 := by kernel_rfl
theorem cells40 : Tryd.prog.cellsOf 40 = 1 := by kernel_rfl
theorem cells23 : Tryd.prog.cellsOf 23 = 6 := by kernel_rfl
theorem cells3 : Tryd.prog.cellsOf 3 = 1 := by kernel_rfl
theorem bounds_u32 {n : Int} (h : (Lit.int .u32 n).wf = true) : 0 ≤ n ∧ n ≤ 4294967295 := by
  simpa [Lit.wf, IntKind.min, IntKind.max, IntKind.signed, IntKind.bits] using h
theorem bounds_i64 {n : Int} (h : (Lit.int .i64 n).wf = true) : -9223372036854775808 ≤ n ∧ n ≤ 9223372036854775807 := by
  simpa [Lit.wf, IntKind.min, IntKind.max, IntKind.signed, IntKind.bits] using h
set_option maxRecDepth 100000 in
theorem open_pair32 {H : Type} {enc : TypeId × Value → H} {W : World} {r : Reach} {b0 base : Nat} {sp : Nat → Bool} {held : Bool} {v : Value} {d : DataW H} {p : List MemPlace} (hv : Value.okWide Tryd.prog W r b0 41 v) (h : DataW.Trod enc Tryd.prog W base sp held 41 v d p) :
    ∃ x y : Nat, x < 4294967296 ∧ y < 4294967296 ∧ v = .agg #[.int .u32 (x : Int), .int .u32 (y : Int)] := by
  simp only [Value.okWide, Tryd.underlying41] at hv
  obtain ⟨cs, rfl, hsz, _⟩ := hv
  rw [cells41] at hsz
  obtain ⟨l⟩ := cs
  match l, hsz with
  | [e0, e1], _ =>
    obtain ⟨fuel, hf⟩ := h
    obtain ⟨xs, m, _, _, _, hlen, hel⟩ := DataW.trod_array Tryd.underlying41 hf
    have t0 := hel 0 (by omega)
    have t1 := hel 1 (by omega)
    rw [cells40] at t0 t1
    match xs, hlen with
    | [x0, x1], _ =>
      simp [Value.cells] at t0 t1
      obtain ⟨a, ea, _, wa⟩ := DataW.trod_int Tryd.underlying40 t0
      obtain ⟨b, eb, _, wb⟩ := DataW.trod_int Tryd.underlying40 t1
      simp at ea eb
      subst ea eb
      have ba := bounds_u32 wa
      have bb := bounds_u32 wb
      exact ⟨a.toNat, b.toNat, by omega, by omega, by rw [Int.toNat_of_nonneg ba.1, Int.toNat_of_nonneg bb.1]⟩
/-- A number of Go's int. -/
def I64 (x : Int) : Prop := -9223372036854775808 ≤ x ∧ x ≤ 9223372036854775807
set_option maxRecDepth 100000 in
theorem open_head {H : Type} {enc : TypeId × Value → H} {W : World} {r : Reach} {b0 base : Nat} {sp : Nat → Bool} {held : Bool} {v : Value} {d : DataW H} {p : List MemPlace} (hv : Value.okWide Tryd.prog W r b0 23 v) (h : DataW.Trod enc Tryd.prog W base sp held 23 v d p) :
    ∃ K M I B S D : Int, (I64 K ∧ I64 M ∧ I64 I ∧ I64 B ∧ I64 S ∧ I64 D) ∧ v = .agg #[.int .i64 K, .int .i64 M, .int .i64 I, .int .i64 B, .int .i64 S, .int .i64 D] := by
  simp only [Value.okWide, Tryd.underlying23] at hv
  obtain ⟨cs, rfl, hsz, _⟩ := hv
  rw [cells23] at hsz
  obtain ⟨l⟩ := cs
  match l, hsz with
  | [e0, e1, e2, e3, e4, e5], _ =>
    obtain ⟨fuel, hf⟩ := h
    obtain ⟨xs, n, _, _, hl, hlen, hel⟩ := DataW.trod_struct Tryd.underlying23 hf
    match xs, hlen with
    | [x0, x1, x2, x3, x4, x5], _ =>
      have t0 := hel 0 _ rfl
      have t1 := hel 1 _ rfl
      have t2 := hel 2 _ rfl
      have t3 := hel 3 _ rfl
      have t4 := hel 4 _ rfl
      have t5 := hel 5 _ rfl
      simp [Value.cells, cells3] at t0 t1 t2 t3 t4 t5
      obtain ⟨a0, ea0, _, wa0⟩ := DataW.trod_int Tryd.underlying3 t0
      obtain ⟨a1, ea1, _, wa1⟩ := DataW.trod_int Tryd.underlying3 t1
      obtain ⟨a2, ea2, _, wa2⟩ := DataW.trod_int Tryd.underlying3 t2
      obtain ⟨a3, ea3, _, wa3⟩ := DataW.trod_int Tryd.underlying3 t3
      obtain ⟨a4, ea4, _, wa4⟩ := DataW.trod_int Tryd.underlying3 t4
      obtain ⟨a5, ea5, _, wa5⟩ := DataW.trod_int Tryd.underlying3 t5
      simp at ea0 ea1 ea2 ea3 ea4 ea5
      subst ea0 ea1 ea2 ea3 ea4 ea5
      exact ⟨a0, a1, a2, a3, a4, a5, ⟨bounds_i64 wa0, bounds_i64 wa1, bounds_i64 wa2, bounds_i64 wa3, bounds_i64 wa4, bounds_i64 wa5⟩, rfl⟩
end Go.Proofs.YtjbdncgmpccedaaDoor
