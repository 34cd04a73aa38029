/-
  A region that draws its order, whose operations only read and whose callees may make memory of their own: walked once, in the order of the text.
-/
import Derived.Test.YtfgngecenbopnaaDoorByt
import Derived.BigGuardPart
namespace Go.Proofs.YtfgngecenbopnaaDoor
open Go.RowKit

/-- A world in which all that was in w is as it was. -/
structure Grw (w : World) where
  to : World
  be : Below w.heap.size w to
theorem wp_region_grw {P : Program} {id : Nat} {Q : Exit → Act → World → Prop} {a : Act} {w : World} {l : List Oper} (hm : P.follows .mixedOrders = true) (hB : Region.lexB .any l.toArray = true)
    (h : wpQuiet P l.toArray (fun w' => ∃ p : Grw w, w' = p.to) (fun a' => ∀ w', (∃ p : Grw w, w' = p.to) → Q .normal a' w') l a) : (Code.region id l.toArray true).wp P Q a w :=
  wp_region_quiet (C := fun w' => ∃ p : Grw w, w' = p.to) hm hB ⟨⟨w.drew, (Below.refl _ _).drew⟩, rfl⟩ (by simpa using h)
theorem Calls.grw {P : Program} {f : FuncId} {args : Array Value} {w : World} {p : Grw w} {v : Value}
    (h : Calls P f args p.to fun e w' => e = .returned v ∧ Below p.to.heap.size p.to w') : Calls P f args p.to fun e w'' => e = .returned v ∧ ∃ q : Grw w, w'' = q.to :=
  h.mono fun _ w' ⟨he, hb⟩ => ⟨he, ⟨w', hop p.be hb⟩, rfl⟩
theorem Grw.cell {w : World} {a : Addr} {v : Value} (h : w.cell? a = some v) (p : Grw w) : p.to.cell? a = some v := (p.be.cell (p := a) (block_lt_of_cell h)).trans h
end Go.Proofs.YtfgngecenbopnaaDoor
