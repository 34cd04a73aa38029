/-
  Two numbers of sixteen bits that came in as one value are opened.
-/
import Derived.Test.YtmkimkffglidhaaCkB
import Derived.ProofKit
import Derived.OpenShut
import Derived.ChangeOld
import Derived.SizedLaws
import Derived.ShutString
import Derived.ChangeMaps5
import Derived.ChangeSame
namespace Go.Proofs.Ytmkimkffglidhaa
open Go.ChangeShapes Go.WideShapes Go.ChangeAt Go.RowKit
theorem cells39 : Try.prog.cellsOf 39 = 2 := by kernel_rfl
theorem cells35 : Try.prog.cellsOf 35 = 1 := by kernel_rfl
theorem open_pair16 {H : Type} {enc : TypeId × Value → H} {W : World} {r : Reach} {b0 base : Nat} {sp : Nat → Bool} {held : Bool} {v : Value} {d : DataW H} {p : List MemPlace} (hv : Value.okWide Try.prog W r b0 39 v) (h : DataW.Trod enc Try.prog W base sp held 39 v d p) :
    ∃ x y : Nat, x < 65536 ∧ y < 65536 ∧ v = .agg #[.int .u16 (x : Int), .int .u16 (y : Int)] := by
  simp only [Value.okWide, Try.underlying39] at hv
  obtain ⟨cs, rfl, hsz, _⟩ := hv
  rw [cells39] at hsz
  obtain ⟨l⟩ := cs
  match l, hsz with
  | [e0, e1], _ =>
    obtain ⟨fuel, hf⟩ := h
    obtain ⟨xs, m, _, _, _, hlen, hel⟩ := DataW.trod_array Try.underlying39 hf
    have t0 := hel 0 (by omega)
    have t1 := hel 1 (by omega)
    rw [cells35] at t0 t1
    match xs, hlen with
    | [x0, x1], _ =>
      simp [Value.cells] at t0 t1
      obtain ⟨a, ea, _, wa⟩ := DataW.trod_int Try.underlying35 t0
      obtain ⟨b, eb, _, wb⟩ := DataW.trod_int Try.underlying35 t1
      simp at ea eb
      subst ea eb
      have ba := bounds_u16 wa
      have bb := bounds_u16 wb
      exact ⟨a.toNat, b.toNat, by omega, by omega, by rw [Int.toNat_of_nonneg ba.1, Int.toNat_of_nonneg bb.1]⟩

end Go.Proofs.Ytmkimkffglidhaa
