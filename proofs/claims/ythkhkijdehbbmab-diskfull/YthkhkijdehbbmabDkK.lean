/-
  A file of a disk of the document is written anew in its place.
-/
import Derived.Test.YthkhkijdehbbmabDkG
set_option maxRecDepth 100000
namespace Go.Proofs.Ythkhkijdehbbmab
open Go.RowKit Dk Nm
attribute [local go_sem ↓] Go.wp_at_zero Go.wp_at_succ
set_option linter.unusedVariables false

/-- The world behind the store of a file. -/
def putF (w : World) (g o : Nat) (y : Fv) : World := ((w.setCell ⟨g, o, none⟩ (.string y.path)).setCell ⟨g, o + 1, none⟩ (.slice y.bv.1 y.bv.2.1 y.bv.2.2)).setCell ⟨g, o + 2, none⟩ (.bool y.sure)
theorem putF_upd (w : World) (g o : Nat) (y : Fv) : Upd (fun k => k = g) w (putF w g o y) :=
  Upd.put (M := fun k => k = g) (Upd.put (M := fun k => k = g) (Upd.put (M := fun k => k = g) (Upd.refl _ w) (p := ⟨g, o, none⟩) (.inl rfl) _) (p := ⟨g, o + 1, none⟩) (.inl rfl) _) (p := ⟨g, o + 2, none⟩) (.inl rfl) _
end Go.Proofs.Ythkhkijdehbbmab
