/-
  The journal in the variable of the law JournalAdds.
-/
import Derived.Test.YtfgngecenbopnaaDoorJnZm
import Derived.Deep.DeepCutAuto
import Derived.Deep.RegionLaw
import Derived.Deep.RegionHeld3
namespace Go.Proofs.YtfgngecenbopnaaDoor
open Go.RowKit Crc
set_option linter.unusedVariables false

def sX : ByteArray := { data := #[120] }
/-- The variable at p holds a journal of n versions, in a block of versions. -/
structure JV (X : World) (p : Nat) (a : Option Addr) (n c : Nat) (F : Nat → Ver) : Prop where
  j : JB X p 0 sX (.slice a n c) 26
  le : n ≤ c
  v : (a = none ∧ n = 0 ∧ c = 0) ∨ ∃ g, a = some ⟨g, 0, none⟩ ∧ VB X g n F
theorem JV.keep {X Y : World} {p : Nat} {a : Option Addr} {n c : Nat} {F : Nat → Ver} (h : JV X p a n c F) (hb : Below X.heap.size X Y) : JV Y p a n c F :=
  ⟨h.j.keep hb, h.le, h.v.imp id fun ⟨g, e, k⟩ => ⟨g, e, k.keep hb⟩⟩
theorem JV.vs {X : World} {p : Nat} {a : Option Addr} {n c : Nat} {F : Nat → Ver} (h : JV X p a n c F) (hf : ∀ i, (F i).fits) : Vs X a n F := by
  rcases h.v with ⟨rfl, rfl, rfl⟩ | ⟨g, rfl, k⟩
  · exact ⟨hf, fun h => absurd h (by omega)⟩
  · exact k.vs hf
theorem VB.grownI {w W : World} {base n m g : Nat} {v : Value} {L : Nat → Int} {F : Nat → Ver} (o : IOwn w base v n L) (gr : w.grownBy W v.ownBlock) (h : VB w g m F) : VB W g m F := by
  obtain ⟨cur, hh, e⟩ := h
  exact ⟨cur, IOwn.grown o gr (by decide) hh, e⟩
theorem JV.grown {w W : World} {base m : Nat} {v : Value} {L : Nat → Int} {p : Nat} {a : Option Addr} {n c : Nat} {F : Nat → Ver} (h : JV w p a n c F) (o : IOwn w base v m L) (gr : w.grownBy W v.ownBlock) : JV W p a n c F :=
  ⟨IOwn.grown o gr (by decide) h.j, h.le, h.v.imp id fun ⟨g, e, k⟩ => ⟨g, e, k.grownI o gr⟩⟩
theorem VB.ne {X : World} {p g n : Nat} {F : Nat → Ver} {t : Int} {s : ByteArray} {x : Value} (h : VB X g n F) (hj : JB X p t s x 26) : g ≠ p := fun e => by
  obtain ⟨cur, hh, _⟩ := h
  unfold JB at hj
  rw [e, hj] at hh
  injection hh with hh
  injection hh with _ hh _
  cases hh
theorem JB.noInts {X : World} {p : Nat} {t : Int} {s : ByteArray} {x : Value} (hj : JB X p t s x 26) : ∀ cur, X.heap[p]? ≠ some (.cells cur 3 (0, 0)) := fun cur h => by
  unfold JB at hj
  rw [hj] at h
  injection h with h
  injection h with _ h _
  cases h
/-- A journal is stored into the variable. -/
theorem jv_store {X : World} {p g n : Nat} {F : Nat → Ver} {t0 : Int} {s0 : ByteArray} {x0 : Value} (hj : JB X p t0 s0 x0 26) (hv : VB X g n F) :
    JV (((X.setCell ⟨p, 0, none⟩ (.int .i64 0)).setCell ⟨p, 1, none⟩ (.string sX)).setCell ⟨p, 2, none⟩ (.slice (some ⟨g, 0, none⟩) n n)) p (some ⟨g, 0, none⟩) n n F := by
  have hne := hv.ne hj
  have h1 : JB (X.setCell ⟨p, 0, none⟩ (.int .i64 0)) p 0 s0 x0 26 := heap_setCell_same _ p 0 _ _ _ hj
  have h2 : JB ((X.setCell ⟨p, 0, none⟩ (.int .i64 0)).setCell ⟨p, 1, none⟩ (.string sX)) p 0 sX x0 26 := heap_setCell_same _ p 1 _ _ _ h1
  exact ⟨heap_setCell_same _ p 2 _ _ _ h2, Nat.le_refl _, .inr ⟨g, rfl, ((hv.other hne _ _).other hne _ _).other hne _ _⟩⟩
theorem ints_store {X : World} {p base n : Nat} {v : Value} {L : Nat → Int} {t0 : Int} {s0 : ByteArray} {x0 : Value} (o : IOwn X base v n L) (hj : JB X p t0 s0 x0 26) (y : Value) :
    IOwn (((X.setCell ⟨p, 0, none⟩ (.int .i64 0)).setCell ⟨p, 1, none⟩ (.string sX)).setCell ⟨p, 2, none⟩ y) base v n L := by
  have h1 : JB (X.setCell ⟨p, 0, none⟩ (.int .i64 0)) p 0 s0 x0 26 := heap_setCell_same _ p 0 _ _ _ hj
  have h2 : JB ((X.setCell ⟨p, 0, none⟩ (.int .i64 0)).setCell ⟨p, 1, none⟩ (.string sX)) p 0 sX x0 26 := heap_setCell_same _ p 1 _ _ _ h1
  exact ((o.put hj.noInts).put h1.noInts).put h2.noInts
theorem litI (w : World) (x : Int) : IR (w.alloc (.cells #[.int .i64 x] 3)) (some ⟨w.heap.size, 0, none⟩) 1 (fun _ => x) := fun _ => ⟨_, 0, rfl, fun i hi => by
  have : i = 0 := by omega
  subst this
  rw [World.cell?_alloc_new]; rfl⟩
end Go.Proofs.YtfgngecenbopnaaDoor
