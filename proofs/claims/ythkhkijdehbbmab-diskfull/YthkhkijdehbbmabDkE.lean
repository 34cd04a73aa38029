/-
  Delete of a disk of the document.
-/
import Derived.Test.YthkhkijdehbbmabDkD
set_option maxRecDepth 100000
namespace Go.Proofs.Ythkhkijdehbbmab
open Go.RowKit Dk Nm
attribute [local go_sem ↓] Go.wp_at_zero Go.wp_at_succ
set_option linter.unusedVariables false

/-- The blocks that an operation of the disk at p may write, its row's own block besides. -/
def Mg (p : Nat) (q : Option Nat) (a : Option Addr) : Nat → Prop := fun k => k = p ∨ q = some k ∨ ∃ o, a = some ⟨k, o, none⟩
theorem Mg.of {p : Nat} {q : Option Nat} {a : Option Addr} {k : Nat} (h : Mk p q k) : Mg p q a k := by
  rcases h with h | h
  · exact .inl h
  · exact .inr (.inl h)
theorem Mg.of0 {p : Nat} {q : Option Nat} {a : Option Addr} {k : Nat} (h : Mk p none k) : Mg p q a k := by
  rcases h with h | h
  · exact .inl h
  · cases h
/-- What Delete answers, and leaves. -/
def delZ (z : Option Fz) (s : St) (x : ByteArray) : Int × St := if (askZ z s [x]).1 ≠ 0 then ((askZ z s [x]).1, (askZ z s [x]).2.2) else if there x s.fs = true then (0, { (askZ z s [x]).2.2 with fs := Dk.cut s.fs (place x s.fs) }) else (6, (askZ z s [x]).2.2)
end Go.Proofs.Ythkhkijdehbbmab
