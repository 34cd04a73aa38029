/-
  A world in which nothing has turned but the blocks of a set, and what is new.
-/
import Derived.Test.YthkhkijdehbbmaaDkF
set_option maxRecDepth 100000
namespace Go.Proofs.Ythkhkijdehbbmaa
open Go.RowKit
set_option linter.unusedVariables false

/-- Outside M nothing has turned that was there. -/
structure Upd (M : Nat → Prop) (w w' : World) : Prop where
  os : w'.os = w.os
  tape : w'.tape = w.tape
  output : w'.output = w.output
  size : w.heap.size ≤ w'.heap.size
  block : ∀ k, k < w.heap.size → ¬ M k → w'.heap[k]? = w.heap[k]?
theorem Upd.refl (M : Nat → Prop) (w : World) : Upd M w w := ⟨rfl, rfl, rfl, Nat.le_refl _, fun _ _ _ => rfl⟩
theorem Upd.trans {M : Nat → Prop} {a b c : World} (h : Upd M a b) (k : Upd M b c) : Upd M a c :=
  ⟨k.os.trans h.os, k.tape.trans h.tape, k.output.trans h.output, Nat.le_trans h.size k.size, fun i hi hm => (k.block i (Nat.lt_of_lt_of_le hi h.size) hm).trans (h.block i hi hm)⟩
theorem Upd.mono {M N : Nat → Prop} {a b : World} (h : Upd M a b) (hs : ∀ k, k < a.heap.size → M k → N k) : Upd N a b :=
  ⟨h.os, h.tape, h.output, h.size, fun k hk hn => h.block k hk fun hm => hn (hs k hk hm)⟩
/-- What was written besides lay in blocks that were not there. -/
theorem Upd.then {M N : Nat → Prop} {a b c : World} (h : Upd M a b) (k : Upd N b c) (hs : ∀ i, i < a.heap.size → N i → M i) : Upd M a c :=
  ⟨k.os.trans h.os, k.tape.trans h.tape, k.output.trans h.output, Nat.le_trans h.size k.size, fun i hi hm => (k.block i (Nat.lt_of_lt_of_le hi h.size) fun q => hm (hs i hi q)).trans (h.block i hi hm)⟩
theorem Upd.of {M : Nat → Prop} {a b : World} (h : Below a.heap.size a b) : Upd M a b := ⟨h.os, h.tape, h.output, h.size, fun k hk _ => h.block k hk⟩
theorem Upd.after {M : Nat → Prop} {a b c : World} (h : Upd M a b) (k : Below b.heap.size b c) : Upd M a c := h.trans (Upd.of k)
theorem Upd.below {M : Nat → Prop} {B : Nat} {a b c : World} (h : Below B a b) (k : Upd M b c) (hm : ∀ i, M i → B ≤ i) (hB : B ≤ b.heap.size) : Below B a c :=
  h.trans ⟨k.os, k.tape, k.output, k.size, fun i hi => k.block i (by omega) fun q => by have := hm i q; omega⟩
theorem Upd.put {M : Nat → Prop} {a b : World} (h : Upd M a b) {p : Addr} (hp : M p.block ∨ a.heap.size ≤ p.block) (v : Value) : Upd M a (b.setCell p v) :=
  ⟨h.os, h.tape, h.output, by simp [World.setCell]; exact h.size, fun i hi hm => by
    rw [Below.heap_setCell _ _ _ _ (fun e => by subst e; rcases hp with q | q; exact hm q; omega)]
    exact h.block i hi hm⟩
theorem Upd.drewN {M : Nat → Prop} {a b : World} (h : Upd M a b) (n : Nat) : Upd M a (b.drewN n) := ⟨h.os, h.tape, h.output, h.size, h.block⟩
theorem Upd.drew {M : Nat → Prop} {a b : World} (h : Upd M a b) : Upd M a b.drew := ⟨h.os, h.tape, h.output, h.size, h.block⟩
theorem Upd.alloc {M : Nat → Prop} {a b : World} (h : Upd M a b) (o : Obj) : Upd M a (b.alloc o) := h.trans (Upd.of ((Below.refl _ _).alloc (Nat.le_refl _) _))
theorem Upd.cell {M : Nat → Prop} {a b : World} (h : Upd M a b) {p : Addr} (hl : p.block < a.heap.size) (hm : ¬ M p.block) : b.cell? p = a.cell? p := World.cell?_of_block (w := a) (h.block p.block hl hm)
/-- A row of one's own whose block is not among them stays. -/
theorem own_upd {M : Nat → Prop} {a b : World} {base : Nat} {e : TypeId} {sz : Nat} {v : Value} {n : Nat} {xs : List Value} (h : a.ownsRow base e sz v n xs) (k : Upd M a b) (hm : ∀ g cur, a.heap[g]? = some (.cells cur e (0, 0)) → ¬ M g) : b.ownsRow base e sz v n xs := by
  rcases h with ⟨hl, e0 | ⟨g, cap, cur, e0, hg, hh, hr⟩⟩
  · exact ⟨hl, .inl e0⟩
  · exact ⟨hl, .inr ⟨g, cap, cur, e0, hg, (k.block g (Array.getElem?_eq_some_iff.1 hh).1 (hm g cur hh)).trans hh, hr⟩⟩
theorem own_at {a b : World} {base : Nat} {e : TypeId} {sz g n c : Nat} {xs : List Value} (h : a.ownsRow base e sz (.slice (some ⟨g, 0, none⟩) n c) n xs) (k : b.heap[g]? = a.heap[g]?) : b.ownsRow base e sz (.slice (some ⟨g, 0, none⟩) n c) n xs := by
  rcases h with ⟨hl, ⟨e0, _⟩ | ⟨g', cap, cur, e0, hg, hh, hr⟩⟩
  · cases e0
  · injection e0 with e1 e2 e3
    injection e1 with e1
    injection e1 with e1
    subst e1; subst e3
    exact ⟨hl, .inr ⟨g, c, cur, rfl, hg, k.trans hh, hr⟩⟩
end Go.Proofs.Ythkhkijdehbbmaa
