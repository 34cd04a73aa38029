/-
  Both: a deed on both disks: what answers a number.
-/
import Derived.Test.YthkhkijdehbbmaaSdD
set_option maxRecDepth 100000
namespace Go.Proofs.Ythkhkijdehbbmaa
open Go.RowKit
open _root_.Go.Proofs.Ythkhkijdehbbmaa.Nm _root_.Go.Proofs.Ythkhkijdehbbmaa.Dk
attribute [local go_sem ↓] Go.wp_at_zero Go.wp_at_succ
set_option linter.unusedVariables false

/-- A deed in a block of its own. -/
def dObj (d n : Int) (x y : ByteArray) (va : Option Addr) (vn vc : Nat) : Obj := .cells #[.int .i64 d, .int .i64 n, .string x, .string y, .slice va vn vc] 54
/-- The cells of a deed's block that a call reads. -/
abbrev dC (W : World) (bx : Nat) (x y : ByteArray) (va : Option Addr) (vn vc : Nat) : Prop :=
  W.cell? ⟨bx, 2, none⟩ = some (.string x) ∧ W.cell? ⟨bx, 3, none⟩ = some (.string y) ∧ W.cell? ⟨bx, 4, none⟩ = some (.slice va vn vc)
theorem dC_of {W : World} {bx : Nat} {d n : Int} {x y : ByteArray} {va : Option Addr} {vn vc : Nat} (h : W.heap[bx]? = some (dObj d n x y va vn vc)) : dC W bx x y va vn vc :=
  ⟨cell_of_row W bx 2 _ _ _ h, cell_of_row W bx 3 _ _ _ h, cell_of_row W bx 4 _ _ _ h⟩
/-- Both disks, and a deed's block. -/
structure Bx (w0 w : World) (p m d : Nat) (q g : Option Nat) (s s' : St) (z z' : Option Fz) (bx : Nat) (o : Obj) : Prop where
  on : On w0 w p m q s z
  dx : Dx w0 w d g s' z'
  o : w.heap[bx]? = some o
section
variable {w0 w w' : World} {p m d : Nat} {q g : Option Nat} {s s' : St} {z z' : Option Fz} {bx : Nat} {dd n : Int} {x y : ByteArray} {va : Option Addr} {vn vc : Nat}
/-- Behind a call of the program. -/
theorem Bx.prog {s1 : St} {z1 : Option Fz} (h : Bx w0 w p m d q g s s' z z' bx (dObj dd n x y va vn vc)) (k : On w0 w' p m q s1 z1) (u : Upd (Ms p m q) w w') : Bx w0 w' p m d q g s1 s' z1 z' bx (dObj dd n x y va vn vc) := by
  refine ⟨k, h.dx.prog h.on u, (u.block bx (Array.getElem?_eq_some_iff.1 h.o).1 fun e => ?_).trans h.o⟩
  have ho := h.o
  obtain ⟨V, F, t⟩ := h.on.px
  rcases e with e | e | e
  · subst e
    rw [t.o] at ho
    injection ho with ho
    injection ho with _ ho _
    exact absurd ho (by decide)
  · subst e
    obtain ⟨es, clock, hb, _⟩ := t.m
    rw [hb] at ho
    injection ho with ho
    cases ho
  · subst e
    obtain ⟨cs, hk⟩ := h.on.fz.type
    rw [hk] at ho
    injection ho with ho
    injection ho with _ ho _
    exact absurd ho (by decide)
/-- Behind a call of the document. -/
theorem Bx.doc {s1 : St} {z1 : Option Fz} (h : Bx w0 w p m d q g s s' z z' bx (dObj dd n x y va vn vc)) (k : Dx w0 w' d g s1 z1) (u : DU w0 w w') : Bx w0 w' p m d q g s s1 z z1 bx (dObj dd n x y va vn vc) :=
  ⟨h.on.doc u, k, (u.block h.o (by intro t; rcases t with t | t | t <;> exact absurd t (by decide))).trans h.o⟩
theorem Bx.keep {o : Obj} (h : Bx w0 w p m d q g s s' z z' bx o) (b : Below w.heap.size w w') : Bx w0 w' p m d q g s s' z z' bx o :=
  ⟨h.on.keep b, h.dx.keep b, (b.block bx (Array.getElem?_eq_some_iff.1 h.o).1).trans h.o⟩
end
/-- What Both leaves. -/
def BothEnd (w0 : World) (p m d : Nat) (q g : Option Nat) (s : St) (z : Option Fz) (e : Ending) (w' : World) : Prop :=
  e = .returned (.bool true) ∧ ∃ s', Hid (On w0 w' p m q s' (tickO z) ∧ Dx w0 w' d g s' (tickO z) ∧ Nx s s')
/-- Two calls that answer the same number. -/
theorem both_two {w0 w : World} {p m d : Nat} {q g : Option Nat} {s s2 : St} {z : Option Fz} {bx : Nat} {dd n : Int} {x y : ByteArray} {va : Option Addr} {vn vc : Nat} {X : Int} {F1 F2 : Nat} {A1 A2 : Array Value}
    (h : Bx w0 w p m d q g s s z z bx (dObj dd n x y va vn vc)) (hn : Nx s s2)
    (k1 : Calls Try.prog F1 A1 w fun e w' => e = .returned (.int .i64 X) ∧ On w0 w' p m q s2 (tickO z) ∧ Upd (Ms p m q) w w')
    (k2 : ∀ w', Dx w0 w' d g s z → Below w0.heap.size w0 w' → Calls Try.prog F2 A2 w' fun e w'' => e = .returned (.int .i64 X) ∧ Dx w0 w'' d g s2 (tickO z) ∧ DU w0 w' w'') :
    Calls Try.prog F1 A1 w fun e w' => e = .returned (.int .i64 X) ∧ dC w' bx x y va vn vc ∧ Hid (Calls Try.prog F2 A2 w' fun e w'' => e = .returned (.int .i64 X) ∧ dC w'' bx x y va vn vc ∧ Hid (On w0 w'' p m q s2 (tickO z) ∧ Dx w0 w'' d g s2 (tickO z) ∧ Nx s s2)) := by
  refine k1.mono ?_
  rintro e w' ⟨rfl, j1, j2⟩
  have h1 := h.prog j1 j2
  refine ⟨rfl, dC_of h1.o, ?_⟩
  refine (k2 w' h1.dx h1.on.b).mono ?_
  rintro e w'' ⟨rfl, l1, l2⟩
  have h2 := h1.doc l1 l2
  exact ⟨rfl, dC_of h2.o, h2.on, h2.dx, hn⟩
set_option maxHeartbeats 8000000 in
theorem both1 (w0 w : World) (p m d : Nat) (q g : Option Nat) (s : St) (z : Option Fz) (fv : Value) (n : Int) (x y : ByteArray) (va : Option Addr) (vn vc : Nat) (b : ByteArray) (h : On w0 w p m q s z) (hd : Dx w0 w d g s z) (hb : Zb z) (hx : x.size ≤ maxLen) (hy : y.size ≤ maxLen) (hi : Inp w0 va vn vc b) (hvn : vn ≤ maxLen) :
    Calls Try.prog 26 #[.pointer (some ⟨p, 0, none⟩), fv, .pointer (some ⟨d, 0, none⟩), .agg #[.int .i64 1, .int .i64 n, .string x, .string y, .slice va vn vc]] w (BothEnd w0 p m d q g s z) := by
  obtain ⟨W, hW⟩ : ∃ W, w.alloc (.cells #[.int .i64 1, .int .i64 n, .string x, .string y, .slice va vn vc] 54) = W := ⟨_, rfl⟩
  have bW : Below w.heap.size w W := by rw [← hW]; exact bal _ _
  have hB : Bx w0 W p m d q g s s z z w.heap.size (dObj 1 n x y va vn vc) := ⟨h.keep bW, hd.keep bW, by rw [← hW]; exact heap_alloc_new _ _⟩
  have hB1 : Bx w0 W.drew p m d q g s s z z w.heap.size (dObj 1 n x y va vn vc) := hB.keep (Below.refl _ _).drew
  obtain ⟨X, hX⟩ : ∃ X, (wriZ z s x b).1 = X := ⟨_, rfl⟩
  have hz1 : (askZ z s [x]).2.1 = tickO z := ask_z s _
  have k1 := on_write hB1.on hb hx (hi.keep hB1.on.b) hvn
  have k2 := fun w' (a1 : Dx w0 w' d g s z) (a2 : Below w0.heap.size w0 w') => dx_write a1 hb hx (hi.keep a2) hvn
  rw [hX, hz1] at k1
  have k2' : ∀ w', Dx w0 w' d g s z → Below w0.heap.size w0 w' → Calls Try.prog 40 #[.pointer (some ⟨d, 0, none⟩), .string x, .slice va vn vc] w' fun e w'' => e = .returned (.int .i64 X) ∧ Dx w0 w'' d g (wriZ z s x b).2 (tickO z) ∧ DU w0 w' w'' := fun w' a1 a2 => by
    have := k2 w' a1 a2
    rw [hX, hz1] at this
    exact this
  have K0 := both_two hB1 (nx_wri z s x b) k1 k2'
  obtain ⟨s2, hs2⟩ : ∃ s2, (wriZ z s x b).2 = s2 := ⟨_, rfl⟩
  rw [hs2] at K0
  have K : Hid (Calls Try.prog 12 #[.pointer (some ⟨p, 0, none⟩), .string x, .slice va vn vc] W.drew fun e w' => e = .returned (.int .i64 X) ∧ dC w' w.heap.size x y va vn vc ∧ Hid (Calls Try.prog 40 #[.pointer (some ⟨d, 0, none⟩), .string x, .slice va vn vc] w' fun e w'' => e = .returned (.int .i64 X) ∧ dC w'' w.heap.size x y va vn vc ∧ Hid (On w0 w'' p m q s2 (tickO z) ∧ Dx w0 w'' d g s2 (tickO z) ∧ Nx s s2))) := K0
  have c0 := cell_of_row W w.heap.size 0 _ _ _ hB.o
  obtain ⟨d2, d3, d4⟩ := dC_of hB1.o
  have e9 : dC W.drew w.heap.size x y va vn vc := ⟨d2, d3, d4⟩
  have HE9 : Hid (dC W.drew w.heap.size x y va vn vc) := e9
  have HW : Hid (w.alloc (.cells #[.int .i64 1, .int .i64 n, .string x, .string y, .slice va vn vc] 54) = W) := hW
  clear K0 k1 k2 k2' hz1 hX hs2 hB hB1 bW h hd hb hx hy hi hvn e9 d2 d3 d4 c0
  clear hW
  go_enter Try.func26, Try.ntmps26
  go_wp2_with fail
  rw [HW.out]
  obtain ⟨bx, hbx⟩ : ∃ bx, w.heap.size = bx := ⟨_, rfl⟩
  rw [hbx] at K HE9 ⊢
  clear HW hbx
  go_region_held3 (fun Y => Y.cell? ⟨bx, 2, none⟩ = some (.string x) ∧ Y.cell? ⟨bx, 3, none⟩ = some (.string y) ∧ Y.cell? ⟨bx, 4, none⟩ = some (.slice va vn vc))
    (first | with_reducible exact HE9.out | with_reducible exact p1 | with_reducible exact p2)
    (first
      | (go_at_call 12; with_reducible refine K.out.mono ?_; rintro e w5 ⟨rfl, p1, HK2⟩)
      | (go_at_call 40; with_reducible refine HK2.out.mono ?_; rintro e w6 ⟨rfl, p2, HE⟩))
  go_wp2
  go_ret
  exact ⟨rfl, _, HE.out⟩
set_option maxHeartbeats 8000000 in
theorem both2 (w0 w : World) (p m d : Nat) (q g : Option Nat) (s : St) (z : Option Fz) (fv : Value) (n : Int) (x y : ByteArray) (va : Option Addr) (vn vc : Nat) (b : ByteArray) (h : On w0 w p m q s z) (hd : Dx w0 w d g s z) (hb : Zb z) (hx : x.size ≤ maxLen) (hy : y.size ≤ maxLen) (hi : Inp w0 va vn vc b) (hvn : vn ≤ maxLen) :
    Calls Try.prog 26 #[.pointer (some ⟨p, 0, none⟩), fv, .pointer (some ⟨d, 0, none⟩), .agg #[.int .i64 2, .int .i64 n, .string x, .string y, .slice va vn vc]] w (BothEnd w0 p m d q g s z) := by
  obtain ⟨W, hW⟩ : ∃ W, w.alloc (.cells #[.int .i64 2, .int .i64 n, .string x, .string y, .slice va vn vc] 54) = W := ⟨_, rfl⟩
  have bW : Below w.heap.size w W := by rw [← hW]; exact bal _ _
  have hB : Bx w0 W p m d q g s s z z w.heap.size (dObj 2 n x y va vn vc) := ⟨h.keep bW, hd.keep bW, by rw [← hW]; exact heap_alloc_new _ _⟩
  have hB1 : Bx w0 W.drew p m d q g s s z z w.heap.size (dObj 2 n x y va vn vc) := hB.keep (Below.refl _ _).drew
  obtain ⟨X, hX⟩ : ∃ X, (wriZ z s x b).1 = X := ⟨_, rfl⟩
  have hz1 : (askZ z s [x]).2.1 = tickO z := ask_z s _
  have k1 := on_write hB1.on hb hx (hi.keep hB1.on.b) hvn
  have k2 := fun w' (a1 : Dx w0 w' d g s z) (a2 : Below w0.heap.size w0 w') => dx_write a1 hb hx (hi.keep a2) hvn
  rw [hX, hz1] at k1
  have k2' : ∀ w', Dx w0 w' d g s z → Below w0.heap.size w0 w' → Calls Try.prog 40 #[.pointer (some ⟨d, 0, none⟩), .string x, .slice va vn vc] w' fun e w'' => e = .returned (.int .i64 X) ∧ Dx w0 w'' d g (wriZ z s x b).2 (tickO z) ∧ DU w0 w' w'' := fun w' a1 a2 => by
    have := k2 w' a1 a2
    rw [hX, hz1] at this
    exact this
  have K0 := both_two hB1 (nx_wri z s x b) k1 k2'
  obtain ⟨s2, hs2⟩ : ∃ s2, (wriZ z s x b).2 = s2 := ⟨_, rfl⟩
  rw [hs2] at K0
  have K : Hid (Calls Try.prog 12 #[.pointer (some ⟨p, 0, none⟩), .string x, .slice va vn vc] W.drew fun e w' => e = .returned (.int .i64 X) ∧ dC w' w.heap.size x y va vn vc ∧ Hid (Calls Try.prog 40 #[.pointer (some ⟨d, 0, none⟩), .string x, .slice va vn vc] w' fun e w'' => e = .returned (.int .i64 X) ∧ dC w'' w.heap.size x y va vn vc ∧ Hid (On w0 w'' p m q s2 (tickO z) ∧ Dx w0 w'' d g s2 (tickO z) ∧ Nx s s2))) := K0
  have c0 := cell_of_row W w.heap.size 0 _ _ _ hB.o
  obtain ⟨d2, d3, d4⟩ := dC_of hB1.o
  have e9 : dC W.drew w.heap.size x y va vn vc := ⟨d2, d3, d4⟩
  have HE9 : Hid (dC W.drew w.heap.size x y va vn vc) := e9
  have HW : Hid (w.alloc (.cells #[.int .i64 2, .int .i64 n, .string x, .string y, .slice va vn vc] 54) = W) := hW
  clear K0 k1 k2 k2' hz1 hX hs2 hB hB1 bW h hd hb hx hy hi hvn e9 d2 d3 d4 c0
  clear hW
  go_enter Try.func26, Try.ntmps26
  go_wp2_with fail
  rw [HW.out]
  obtain ⟨bx, hbx⟩ : ∃ bx, w.heap.size = bx := ⟨_, rfl⟩
  rw [hbx] at K HE9 ⊢
  clear HW hbx
  go_region_held3 (fun Y => Y.cell? ⟨bx, 2, none⟩ = some (.string x) ∧ Y.cell? ⟨bx, 3, none⟩ = some (.string y) ∧ Y.cell? ⟨bx, 4, none⟩ = some (.slice va vn vc))
    (first | with_reducible exact HE9.out | with_reducible exact p1 | with_reducible exact p2)
    (first
      | (go_at_call 12; with_reducible refine K.out.mono ?_; rintro e w5 ⟨rfl, p1, HK2⟩)
      | (go_at_call 40; with_reducible refine HK2.out.mono ?_; rintro e w6 ⟨rfl, p2, HE⟩))
  go_wp2
  go_ret
  exact ⟨rfl, _, HE.out⟩
set_option maxHeartbeats 8000000 in
theorem both3 (w0 w : World) (p m d : Nat) (q g : Option Nat) (s : St) (z : Option Fz) (fv : Value) (n : Int) (x y : ByteArray) (va : Option Addr) (vn vc : Nat) (b : ByteArray) (h : On w0 w p m q s z) (hd : Dx w0 w d g s z) (hb : Zb z) (hx : x.size ≤ maxLen) (hy : y.size ≤ maxLen) (hi : Inp w0 va vn vc b) (hvn : vn ≤ maxLen) :
    Calls Try.prog 26 #[.pointer (some ⟨p, 0, none⟩), fv, .pointer (some ⟨d, 0, none⟩), .agg #[.int .i64 3, .int .i64 n, .string x, .string y, .slice va vn vc]] w (BothEnd w0 p m d q g s z) := by
  obtain ⟨W, hW⟩ : ∃ W, w.alloc (.cells #[.int .i64 3, .int .i64 n, .string x, .string y, .slice va vn vc] 54) = W := ⟨_, rfl⟩
  have bW : Below w.heap.size w W := by rw [← hW]; exact bal _ _
  have hB : Bx w0 W p m d q g s s z z w.heap.size (dObj 3 n x y va vn vc) := ⟨h.keep bW, hd.keep bW, by rw [← hW]; exact heap_alloc_new _ _⟩
  have hB1 : Bx w0 W.drew p m d q g s s z z w.heap.size (dObj 3 n x y va vn vc) := hB.keep (Below.refl _ _).drew
  obtain ⟨X, hX⟩ : ∃ X, (synZ z s x).1 = X := ⟨_, rfl⟩
  have hz1 : (askZ z s [x]).2.1 = tickO z := ask_z s _
  have k1 := on_sync hB1.on hb hx
  have k2 := fun w' (a1 : Dx w0 w' d g s z) (a2 : Below w0.heap.size w0 w') => dx_sync a1 hb hx
  rw [hX, hz1] at k1
  have k2' : ∀ w', Dx w0 w' d g s z → Below w0.heap.size w0 w' → Calls Try.prog 41 #[.pointer (some ⟨d, 0, none⟩), .string x] w' fun e w'' => e = .returned (.int .i64 X) ∧ Dx w0 w'' d g (synZ z s x).2 (tickO z) ∧ DU w0 w' w'' := fun w' a1 a2 => by
    have := k2 w' a1 a2
    rw [hX, hz1] at this
    exact this
  have K0 := both_two hB1 (nx_syn z s x) k1 k2'
  obtain ⟨s2, hs2⟩ : ∃ s2, (synZ z s x).2 = s2 := ⟨_, rfl⟩
  rw [hs2] at K0
  have K : Hid (Calls Try.prog 16 #[.pointer (some ⟨p, 0, none⟩), .string x] W.drew fun e w' => e = .returned (.int .i64 X) ∧ dC w' w.heap.size x y va vn vc ∧ Hid (Calls Try.prog 41 #[.pointer (some ⟨d, 0, none⟩), .string x] w' fun e w'' => e = .returned (.int .i64 X) ∧ dC w'' w.heap.size x y va vn vc ∧ Hid (On w0 w'' p m q s2 (tickO z) ∧ Dx w0 w'' d g s2 (tickO z) ∧ Nx s s2))) := K0
  have c0 := cell_of_row W w.heap.size 0 _ _ _ hB.o
  obtain ⟨d2, d3, d4⟩ := dC_of hB1.o
  have e9 : dC W.drew w.heap.size x y va vn vc := ⟨d2, d3, d4⟩
  have HE9 : Hid (dC W.drew w.heap.size x y va vn vc) := e9
  have HW : Hid (w.alloc (.cells #[.int .i64 3, .int .i64 n, .string x, .string y, .slice va vn vc] 54) = W) := hW
  clear K0 k1 k2 k2' hz1 hX hs2 hB hB1 bW h hd hb hx hy hi hvn e9 d2 d3 d4 c0
  clear hW
  go_enter Try.func26, Try.ntmps26
  go_wp2_with fail
  rw [HW.out]
  obtain ⟨bx, hbx⟩ : ∃ bx, w.heap.size = bx := ⟨_, rfl⟩
  rw [hbx] at K HE9 ⊢
  clear HW hbx
  go_region_held3 (fun Y => Y.cell? ⟨bx, 2, none⟩ = some (.string x) ∧ Y.cell? ⟨bx, 3, none⟩ = some (.string y) ∧ Y.cell? ⟨bx, 4, none⟩ = some (.slice va vn vc))
    (first | with_reducible exact HE9.out | with_reducible exact p1 | with_reducible exact p2)
    (first
      | (go_at_call 16; with_reducible refine K.out.mono ?_; rintro e w5 ⟨rfl, p1, HK2⟩)
      | (go_at_call 41; with_reducible refine HK2.out.mono ?_; rintro e w6 ⟨rfl, p2, HE⟩))
  go_wp2
  go_ret
  exact ⟨rfl, _, HE.out⟩
set_option maxHeartbeats 8000000 in
theorem both4 (w0 w : World) (p m d : Nat) (q g : Option Nat) (s : St) (z : Option Fz) (fv : Value) (n : Int) (x y : ByteArray) (va : Option Addr) (vn vc : Nat) (b : ByteArray) (h : On w0 w p m q s z) (hd : Dx w0 w d g s z) (hb : Zb z) (hx : x.size ≤ maxLen) (hy : y.size ≤ maxLen) (hi : Inp w0 va vn vc b) (hvn : vn ≤ maxLen) :
    Calls Try.prog 26 #[.pointer (some ⟨p, 0, none⟩), fv, .pointer (some ⟨d, 0, none⟩), .agg #[.int .i64 4, .int .i64 n, .string x, .string y, .slice va vn vc]] w (BothEnd w0 p m d q g s z) := by
  obtain ⟨W, hW⟩ : ∃ W, w.alloc (.cells #[.int .i64 4, .int .i64 n, .string x, .string y, .slice va vn vc] 54) = W := ⟨_, rfl⟩
  have bW : Below w.heap.size w W := by rw [← hW]; exact bal _ _
  have hB : Bx w0 W p m d q g s s z z w.heap.size (dObj 4 n x y va vn vc) := ⟨h.keep bW, hd.keep bW, by rw [← hW]; exact heap_alloc_new _ _⟩
  have hB1 : Bx w0 W.drew p m d q g s s z z w.heap.size (dObj 4 n x y va vn vc) := hB.keep (Below.refl _ _).drew
  obtain ⟨X, hX⟩ : ∃ X, (renZ z s x y).1 = X := ⟨_, rfl⟩
  have hz1 : (askZ z s [x, y]).2.1 = tickO z := ask_z s _
  have k1 := on_rename hB1.on hb hx hy
  have k2 := fun w' (a1 : Dx w0 w' d g s z) (a2 : Below w0.heap.size w0 w') => dx_rename a1 hb hx hy (on_same hB1.on)
  rw [hX, hz1] at k1
  have k2' : ∀ w', Dx w0 w' d g s z → Below w0.heap.size w0 w' → Calls Try.prog 42 #[.pointer (some ⟨d, 0, none⟩), .string x, .string y] w' fun e w'' => e = .returned (.int .i64 X) ∧ Dx w0 w'' d g (renZ z s x y).2 (tickO z) ∧ DU w0 w' w'' := fun w' a1 a2 => by
    have := k2 w' a1 a2
    rw [hX, hz1] at this
    exact this
  have K0 := both_two hB1 (nx_ren z s x y) k1 k2'
  obtain ⟨s2, hs2⟩ : ∃ s2, (renZ z s x y).2 = s2 := ⟨_, rfl⟩
  rw [hs2] at K0
  have K : Hid (Calls Try.prog 13 #[.pointer (some ⟨p, 0, none⟩), .string x, .string y] W.drew fun e w' => e = .returned (.int .i64 X) ∧ dC w' w.heap.size x y va vn vc ∧ Hid (Calls Try.prog 42 #[.pointer (some ⟨d, 0, none⟩), .string x, .string y] w' fun e w'' => e = .returned (.int .i64 X) ∧ dC w'' w.heap.size x y va vn vc ∧ Hid (On w0 w'' p m q s2 (tickO z) ∧ Dx w0 w'' d g s2 (tickO z) ∧ Nx s s2))) := K0
  have c0 := cell_of_row W w.heap.size 0 _ _ _ hB.o
  obtain ⟨d2, d3, d4⟩ := dC_of hB1.o
  have e9 : dC W.drew w.heap.size x y va vn vc := ⟨d2, d3, d4⟩
  have HE9 : Hid (dC W.drew w.heap.size x y va vn vc) := e9
  have HW : Hid (w.alloc (.cells #[.int .i64 4, .int .i64 n, .string x, .string y, .slice va vn vc] 54) = W) := hW
  clear K0 k1 k2 k2' hz1 hX hs2 hB hB1 bW h hd hb hx hy hi hvn e9 d2 d3 d4 c0
  clear hW
  go_enter Try.func26, Try.ntmps26
  go_wp2_with fail
  rw [HW.out]
  obtain ⟨bx, hbx⟩ : ∃ bx, w.heap.size = bx := ⟨_, rfl⟩
  rw [hbx] at K HE9 ⊢
  clear HW hbx
  go_region_held3 (fun Y => Y.cell? ⟨bx, 2, none⟩ = some (.string x) ∧ Y.cell? ⟨bx, 3, none⟩ = some (.string y) ∧ Y.cell? ⟨bx, 4, none⟩ = some (.slice va vn vc))
    (first | with_reducible exact HE9.out | with_reducible exact p1 | with_reducible exact p2)
    (first
      | (go_at_call 13; with_reducible refine K.out.mono ?_; rintro e w5 ⟨rfl, p1, HK2⟩)
      | (go_at_call 42; with_reducible refine HK2.out.mono ?_; rintro e w6 ⟨rfl, p2, HE⟩))
  go_wp2
  go_ret
  exact ⟨rfl, _, HE.out⟩
set_option maxHeartbeats 8000000 in
theorem both5 (w0 w : World) (p m d : Nat) (q g : Option Nat) (s : St) (z : Option Fz) (fv : Value) (n : Int) (x y : ByteArray) (va : Option Addr) (vn vc : Nat) (b : ByteArray) (h : On w0 w p m q s z) (hd : Dx w0 w d g s z) (hb : Zb z) (hx : x.size ≤ maxLen) (hy : y.size ≤ maxLen) (hi : Inp w0 va vn vc b) (hvn : vn ≤ maxLen) :
    Calls Try.prog 26 #[.pointer (some ⟨p, 0, none⟩), fv, .pointer (some ⟨d, 0, none⟩), .agg #[.int .i64 5, .int .i64 n, .string x, .string y, .slice va vn vc]] w (BothEnd w0 p m d q g s z) := by
  obtain ⟨W, hW⟩ : ∃ W, w.alloc (.cells #[.int .i64 5, .int .i64 n, .string x, .string y, .slice va vn vc] 54) = W := ⟨_, rfl⟩
  have bW : Below w.heap.size w W := by rw [← hW]; exact bal _ _
  have hB : Bx w0 W p m d q g s s z z w.heap.size (dObj 5 n x y va vn vc) := ⟨h.keep bW, hd.keep bW, by rw [← hW]; exact heap_alloc_new _ _⟩
  have hB1 : Bx w0 W.drew p m d q g s s z z w.heap.size (dObj 5 n x y va vn vc) := hB.keep (Below.refl _ _).drew
  obtain ⟨X, hX⟩ : ∃ X, (delZ z s x).1 = X := ⟨_, rfl⟩
  have hz1 : (askZ z s [x]).2.1 = tickO z := ask_z s _
  have k1 := on_delete hB1.on hb hx
  have k2 := fun w' (a1 : Dx w0 w' d g s z) (a2 : Below w0.heap.size w0 w') => dx_delete a1 hb hx
  rw [hX, hz1] at k1
  have k2' : ∀ w', Dx w0 w' d g s z → Below w0.heap.size w0 w' → Calls Try.prog 43 #[.pointer (some ⟨d, 0, none⟩), .string x] w' fun e w'' => e = .returned (.int .i64 X) ∧ Dx w0 w'' d g (delZ z s x).2 (tickO z) ∧ DU w0 w' w'' := fun w' a1 a2 => by
    have := k2 w' a1 a2
    rw [hX, hz1] at this
    exact this
  have K0 := both_two hB1 (nx_del z s x) k1 k2'
  obtain ⟨s2, hs2⟩ : ∃ s2, (delZ z s x).2 = s2 := ⟨_, rfl⟩
  rw [hs2] at K0
  have K : Hid (Calls Try.prog 17 #[.pointer (some ⟨p, 0, none⟩), .string x] W.drew fun e w' => e = .returned (.int .i64 X) ∧ dC w' w.heap.size x y va vn vc ∧ Hid (Calls Try.prog 43 #[.pointer (some ⟨d, 0, none⟩), .string x] w' fun e w'' => e = .returned (.int .i64 X) ∧ dC w'' w.heap.size x y va vn vc ∧ Hid (On w0 w'' p m q s2 (tickO z) ∧ Dx w0 w'' d g s2 (tickO z) ∧ Nx s s2))) := K0
  have c0 := cell_of_row W w.heap.size 0 _ _ _ hB.o
  obtain ⟨d2, d3, d4⟩ := dC_of hB1.o
  have e9 : dC W.drew w.heap.size x y va vn vc := ⟨d2, d3, d4⟩
  have HE9 : Hid (dC W.drew w.heap.size x y va vn vc) := e9
  have HW : Hid (w.alloc (.cells #[.int .i64 5, .int .i64 n, .string x, .string y, .slice va vn vc] 54) = W) := hW
  clear K0 k1 k2 k2' hz1 hX hs2 hB hB1 bW h hd hb hx hy hi hvn e9 d2 d3 d4 c0
  clear hW
  go_enter Try.func26, Try.ntmps26
  go_wp2_with fail
  rw [HW.out]
  obtain ⟨bx, hbx⟩ : ∃ bx, w.heap.size = bx := ⟨_, rfl⟩
  rw [hbx] at K HE9 ⊢
  clear HW hbx
  go_region_held3 (fun Y => Y.cell? ⟨bx, 2, none⟩ = some (.string x) ∧ Y.cell? ⟨bx, 3, none⟩ = some (.string y) ∧ Y.cell? ⟨bx, 4, none⟩ = some (.slice va vn vc))
    (first | with_reducible exact HE9.out | with_reducible exact p1 | with_reducible exact p2)
    (first
      | (go_at_call 17; with_reducible refine K.out.mono ?_; rintro e w5 ⟨rfl, p1, HK2⟩)
      | (go_at_call 43; with_reducible refine HK2.out.mono ?_; rintro e w6 ⟨rfl, p2, HE⟩))
  go_wp2
  go_ret
  exact ⟨rfl, _, HE.out⟩
end Go.Proofs.Ythkhkijdehbbmaa
