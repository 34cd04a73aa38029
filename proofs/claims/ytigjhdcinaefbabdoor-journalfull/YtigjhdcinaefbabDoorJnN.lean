/-
  A journal that is stored into a variable.
-/
import Derived.Test.YtigjhdcinaefbabDoorJnA
namespace Go.Proofs.YtigjhdcinaefbabDoor
open Go.RowKit Crc
set_option linter.unusedVariables false

theorem Vs.setJ {X : World} {a : Option Addr} {n p : Nat} {F : Nat → Ver} {t : Int} {s : ByteArray} {x : Value} {ty : TypeId} (h : Vs X a n F) (hj : JB X p t s x ty) (j : Nat) (v : Value) : Vs (X.setCell ⟨p, j, none⟩ v) a n F := by
  refine ⟨h.ft, fun h0 => ?_⟩
  obtain ⟨b, o, e, hc⟩ := h.lies h0
  refine ⟨b, o, e, fun i hi => ?_⟩
  have := hc i hi
  have hne : b ≠ p := fun q => by
    have h2 := this.c3
    rw [q, cell_of_row _ _ _ _ _ _ hj] at h2
    rcases (by omega : o + i * 4 + 3 = 3 ∨ 3 < o + i * 4 + 3) with q3 | q3
    · rw [q3] at h2; simp at h2
    · simp at h2
  have ne : ∀ (off : Nat), (X.setCell ⟨p, j, none⟩ v).cell? ⟨b, off, none⟩ = X.cell? ⟨b, off, none⟩ := fun off => World.cell?_setCell_other _ _ _ _ (fun q => hne (by injection q with q; exact q.symm))
  exact ⟨by rw [ne]; exact this.c0, by rw [ne]; exact this.c1, by rw [ne]; exact this.c2, by rw [ne]; exact this.c3⟩
/-- A journal in a variable, with its versions. -/
structure JVar (X : World) (p : Nat) (t : Int) (s : ByteArray) (a : Option Addr) (n c : Nat) (F : Nat → Ver) (ty : TypeId) : Prop where
  j : JB X p t s (.slice a n c) ty
  vs : Vs X a n F
  z : a = none → n = 0 ∧ c = 0
  c : n ≤ c
theorem JVar.keep {X Y : World} {p : Nat} {t : Int} {s : ByteArray} {a : Option Addr} {n c : Nat} {F : Nat → Ver} {ty : TypeId} (h : JVar X p t s a n c F ty) (hb : Below X.heap.size X Y) : JVar Y p t s a n c F ty :=
  ⟨h.j.keep hb, h.vs.keep hb, h.z, h.c⟩
/-- It is written anew. -/
theorem store_jn {X : World} {p : Nat} {t t0 : Int} {s s0 : ByteArray} {a : Option Addr} {n c : Nat} {x0 : Value} {F : Nat → Ver} {ty : TypeId} (hj : JB X p t0 s0 x0 ty) (hv : Vs X a n F) (z : a = none → n = 0 ∧ c = 0) (hc : n ≤ c) :
    JVar (((X.setCell ⟨p, 0, none⟩ (.int .i64 t)).setCell ⟨p, 1, none⟩ (.string s)).setCell ⟨p, 2, none⟩ (.slice a n c)) p t s a n c F ty := by
  have h1 : JB (X.setCell ⟨p, 0, none⟩ (.int .i64 t)) p t s0 x0 ty := heap_setCell_same _ p 0 _ _ _ hj
  have h2 : JB ((X.setCell ⟨p, 0, none⟩ (.int .i64 t)).setCell ⟨p, 1, none⟩ (.string s)) p t s x0 ty := heap_setCell_same _ p 1 _ _ _ h1
  exact ⟨heap_setCell_same _ p 2 _ _ _ h2, ((hv.setJ hj 0 _).setJ h1 1 _).setJ h2 2 _, z, hc⟩
end Go.Proofs.YtigjhdcinaefbabDoor
