/-
  Both, of a pair of disks: each deed's walk.
-/
import Derived.Test.YtebngmgdciahiaaGreatDoorArM
set_option maxRecDepth 100000
namespace Go.Proofs.YtebngmgdciahiaaGreatDoor
open Go.RowKit
open _root_.Go.Proofs.YtebngmgdciahiaaGreatDoor.Nm _root_.Go.Proofs.YtebngmgdciahiaaGreatDoor.Dk
attribute [local go_sem ↓] Go.wp_at_zero Go.wp_at_succ
set_option linter.unusedVariables false

set_option maxHeartbeats 8000000 in
theorem bo1 (w0 w : World) (O : Ot) (p m d : Nat) (q g : Option Nat) (s : St) (z : Option Fz) (fv : Value) (n : Int) (x y : ByteArray) (va : Option Addr) (vn vc : Nat) (b : ByteArray) (h : Pr w0 w O p m d q g s s z z) (hb : Zb z) (hx : x.size ≤ maxLen) (hy : y.size ≤ 1000) (hi : Inp w0 va vn vc b) (hvn : vn ≤ maxLen) (hn0 : -9223372036854775808 ≤ n) (hn1 : n ≤ 9223372036854775807) :
    Calls Tryz.prog 39 #[.pointer (some ⟨p, 0, none⟩), fv, .pointer (some ⟨d, 0, none⟩), .agg #[.int .i64 1, .int .i64 n, .string x, .string y, .slice va vn vc]] w (BEnd w0 O p m d q g z) := by
  have hym : y.size ≤ maxLen := by unfold maxLen; omega
  obtain ⟨W, hW⟩ : ∃ W, w.alloc (.cells #[.int .i64 1, .int .i64 n, .string x, .string y, .slice va vn vc] 29) = W := ⟨_, rfl⟩
  have bW : Below w.heap.size w W := by rw [← hW]; exact bal _ _
  have hP := h.keep bW
  have ho : W.heap[w.heap.size]? = some (pObj 1 n x y va vn vc) := by rw [← hW]; exact heap_alloc_new _ _
  have HW : Hid (w.alloc (.cells #[.int .i64 1, .int .i64 n, .string x, .string y, .slice va vn vc] 29) = W) := hW
  have hPd := hP.keep (Below.refl _ _).drew
  have hod : W.drew.heap[w.heap.size]? = some (pObj 1 n x y va vn vc) := ho
  obtain ⟨X, hX⟩ : ∃ X, (wriZ z s x b).1 = X := ⟨_, rfl⟩
  obtain ⟨s2, hs2⟩ : ∃ s2, (wriZ z s x b).2 = s2 := ⟨_, rfl⟩
  have k1 := (by have := pr_wri1 hPd hb hx (hi.keep hPd.on.b) hvn; rw [hX, hs2] at this; exact this : _)
  have k2 := fun w' (a1 : Pr w0 w' O p m d q g s2 s (tickO z) z) => (by have := pr_wri2 a1 hb hx (hi.keep a1.on.b) hvn; rw [hX, hs2] at this; exact this : _)
  have K0 := pp_two hod (fun j => ZN.tick) k1 k2
  have K : Hid (Calls Tryz.prog 61 #[.pointer (some ⟨p, 0, none⟩), .string x, .slice va vn vc] W.drew fun e w' => e = .returned (.int .i64 X) ∧ pC w' w.heap.size n x y va vn vc ∧ Hid (Calls Tryz.prog 36 #[.pointer (some ⟨d, 0, none⟩), .string x, .slice va vn vc] w' fun e w'' => e = .returned (.int .i64 X) ∧ pC w'' w.heap.size n x y va vn vc ∧ Hid (∃ s' z', Pr w0 w'' O p m d q g s' s' z' z' ∧ ∀ j, ZN j z → ZN (j + 1) z'))) := K0
  have HE9 : Hid (pC W.drew w.heap.size n x y va vn vc) := pC_of hod
  clear K0 k1 k2 hPd hod ho hP bW h hb hi hvn hym hW
  go_enter Tryz.func39, Tryz.ntmps39
  go_wp2_with fail
  rw [HW.out]
  obtain ⟨bx, hbx⟩ : ∃ bx, w.heap.size = bx := ⟨_, rfl⟩
  rw [hbx] at K HE9 ⊢
  clear HW hbx
  go_region_held3 (fun Y => Y.cell? ⟨bx, 1, none⟩ = some (.int .i64 n) ∧ Y.cell? ⟨bx, 2, none⟩ = some (.string x) ∧ Y.cell? ⟨bx, 3, none⟩ = some (.string y) ∧ Y.cell? ⟨bx, 4, none⟩ = some (.slice va vn vc))
    (first | with_reducible exact HE9.out | with_reducible exact p1 | with_reducible exact p2)
    (first
      | (go_at_call 61; with_reducible refine K.out.mono ?_; rintro e w5 ⟨rfl, p1, HK2⟩)
      | (go_at_call 36; with_reducible refine HK2.out.mono ?_; rintro e w6 ⟨rfl, p2, HE⟩))
  go_wp2
  go_ret
  obtain ⟨s', z', hh⟩ := HE.out
  exact ⟨rfl, s', z', hh⟩
set_option maxHeartbeats 8000000 in
theorem bo2 (w0 w : World) (O : Ot) (p m d : Nat) (q g : Option Nat) (s : St) (z : Option Fz) (fv : Value) (n : Int) (x y : ByteArray) (va : Option Addr) (vn vc : Nat) (b : ByteArray) (h : Pr w0 w O p m d q g s s z z) (hb : Zb z) (hx : x.size ≤ maxLen) (hy : y.size ≤ 1000) (hi : Inp w0 va vn vc b) (hvn : vn ≤ maxLen) (hn0 : -9223372036854775808 ≤ n) (hn1 : n ≤ 9223372036854775807) :
    Calls Tryz.prog 39 #[.pointer (some ⟨p, 0, none⟩), fv, .pointer (some ⟨d, 0, none⟩), .agg #[.int .i64 2, .int .i64 n, .string x, .string y, .slice va vn vc]] w (BEnd w0 O p m d q g z) := by
  have hym : y.size ≤ maxLen := by unfold maxLen; omega
  obtain ⟨W, hW⟩ : ∃ W, w.alloc (.cells #[.int .i64 2, .int .i64 n, .string x, .string y, .slice va vn vc] 29) = W := ⟨_, rfl⟩
  have bW : Below w.heap.size w W := by rw [← hW]; exact bal _ _
  have hP := h.keep bW
  have ho : W.heap[w.heap.size]? = some (pObj 2 n x y va vn vc) := by rw [← hW]; exact heap_alloc_new _ _
  have HW : Hid (w.alloc (.cells #[.int .i64 2, .int .i64 n, .string x, .string y, .slice va vn vc] 29) = W) := hW
  have hPd := hP.keep (Below.refl _ _).drew
  have hod : W.drew.heap[w.heap.size]? = some (pObj 2 n x y va vn vc) := ho
  obtain ⟨X, hX⟩ : ∃ X, (wriZ z s x b).1 = X := ⟨_, rfl⟩
  obtain ⟨s2, hs2⟩ : ∃ s2, (wriZ z s x b).2 = s2 := ⟨_, rfl⟩
  have k1 := (by have := pr_wri1 hPd hb hx (hi.keep hPd.on.b) hvn; rw [hX, hs2] at this; exact this : _)
  have k2 := fun w' (a1 : Pr w0 w' O p m d q g s2 s (tickO z) z) => (by have := pr_wri2 a1 hb hx (hi.keep a1.on.b) hvn; rw [hX, hs2] at this; exact this : _)
  have K0 := pp_two hod (fun j => ZN.tick) k1 k2
  have K : Hid (Calls Tryz.prog 61 #[.pointer (some ⟨p, 0, none⟩), .string x, .slice va vn vc] W.drew fun e w' => e = .returned (.int .i64 X) ∧ pC w' w.heap.size n x y va vn vc ∧ Hid (Calls Tryz.prog 36 #[.pointer (some ⟨d, 0, none⟩), .string x, .slice va vn vc] w' fun e w'' => e = .returned (.int .i64 X) ∧ pC w'' w.heap.size n x y va vn vc ∧ Hid (∃ s' z', Pr w0 w'' O p m d q g s' s' z' z' ∧ ∀ j, ZN j z → ZN (j + 1) z'))) := K0
  have HE9 : Hid (pC W.drew w.heap.size n x y va vn vc) := pC_of hod
  clear K0 k1 k2 hPd hod ho hP bW h hb hi hvn hym hW
  go_enter Tryz.func39, Tryz.ntmps39
  go_wp2_with fail
  rw [HW.out]
  obtain ⟨bx, hbx⟩ : ∃ bx, w.heap.size = bx := ⟨_, rfl⟩
  rw [hbx] at K HE9 ⊢
  clear HW hbx
  go_region_held3 (fun Y => Y.cell? ⟨bx, 1, none⟩ = some (.int .i64 n) ∧ Y.cell? ⟨bx, 2, none⟩ = some (.string x) ∧ Y.cell? ⟨bx, 3, none⟩ = some (.string y) ∧ Y.cell? ⟨bx, 4, none⟩ = some (.slice va vn vc))
    (first | with_reducible exact HE9.out | with_reducible exact p1 | with_reducible exact p2)
    (first
      | (go_at_call 61; with_reducible refine K.out.mono ?_; rintro e w5 ⟨rfl, p1, HK2⟩)
      | (go_at_call 36; with_reducible refine HK2.out.mono ?_; rintro e w6 ⟨rfl, p2, HE⟩))
  go_wp2
  go_ret
  obtain ⟨s', z', hh⟩ := HE.out
  exact ⟨rfl, s', z', hh⟩
set_option maxHeartbeats 8000000 in
theorem bo3 (w0 w : World) (O : Ot) (p m d : Nat) (q g : Option Nat) (s : St) (z : Option Fz) (fv : Value) (n : Int) (x y : ByteArray) (va : Option Addr) (vn vc : Nat) (b : ByteArray) (h : Pr w0 w O p m d q g s s z z) (hb : Zb z) (hx : x.size ≤ maxLen) (hy : y.size ≤ 1000) (hi : Inp w0 va vn vc b) (hvn : vn ≤ maxLen) (hn0 : -9223372036854775808 ≤ n) (hn1 : n ≤ 9223372036854775807) :
    Calls Tryz.prog 39 #[.pointer (some ⟨p, 0, none⟩), fv, .pointer (some ⟨d, 0, none⟩), .agg #[.int .i64 3, .int .i64 n, .string x, .string y, .slice va vn vc]] w (BEnd w0 O p m d q g z) := by
  have hym : y.size ≤ maxLen := by unfold maxLen; omega
  obtain ⟨W, hW⟩ : ∃ W, w.alloc (.cells #[.int .i64 3, .int .i64 n, .string x, .string y, .slice va vn vc] 29) = W := ⟨_, rfl⟩
  have bW : Below w.heap.size w W := by rw [← hW]; exact bal _ _
  have hP := h.keep bW
  have ho : W.heap[w.heap.size]? = some (pObj 3 n x y va vn vc) := by rw [← hW]; exact heap_alloc_new _ _
  have HW : Hid (w.alloc (.cells #[.int .i64 3, .int .i64 n, .string x, .string y, .slice va vn vc] 29) = W) := hW
  have hPd := hP.keep (Below.refl _ _).drew
  have hod : W.drew.heap[w.heap.size]? = some (pObj 3 n x y va vn vc) := ho
  obtain ⟨X, hX⟩ : ∃ X, (synZ z s x).1 = X := ⟨_, rfl⟩
  obtain ⟨s2, hs2⟩ : ∃ s2, (synZ z s x).2 = s2 := ⟨_, rfl⟩
  have k1 := (by have := pr_syn1 hPd hb hx; rw [hX, hs2] at this; exact this : _)
  have k2 := fun w' (a1 : Pr w0 w' O p m d q g s2 s (tickO z) z) => (by have := pr_syn2 a1 hb hx; rw [hX, hs2] at this; exact this : _)
  have K0 := pp_two hod (fun j => ZN.tick) k1 k2
  have K : Hid (Calls Tryz.prog 62 #[.pointer (some ⟨p, 0, none⟩), .string x] W.drew fun e w' => e = .returned (.int .i64 X) ∧ pC w' w.heap.size n x y va vn vc ∧ Hid (Calls Tryz.prog 37 #[.pointer (some ⟨d, 0, none⟩), .string x] w' fun e w'' => e = .returned (.int .i64 X) ∧ pC w'' w.heap.size n x y va vn vc ∧ Hid (∃ s' z', Pr w0 w'' O p m d q g s' s' z' z' ∧ ∀ j, ZN j z → ZN (j + 1) z'))) := K0
  have HE9 : Hid (pC W.drew w.heap.size n x y va vn vc) := pC_of hod
  clear K0 k1 k2 hPd hod ho hP bW h hb hi hvn hym hW
  go_enter Tryz.func39, Tryz.ntmps39
  go_wp2_with fail
  rw [HW.out]
  obtain ⟨bx, hbx⟩ : ∃ bx, w.heap.size = bx := ⟨_, rfl⟩
  rw [hbx] at K HE9 ⊢
  clear HW hbx
  go_region_held3 (fun Y => Y.cell? ⟨bx, 1, none⟩ = some (.int .i64 n) ∧ Y.cell? ⟨bx, 2, none⟩ = some (.string x) ∧ Y.cell? ⟨bx, 3, none⟩ = some (.string y) ∧ Y.cell? ⟨bx, 4, none⟩ = some (.slice va vn vc))
    (first | with_reducible exact HE9.out | with_reducible exact p1 | with_reducible exact p2)
    (first
      | (go_at_call 62; with_reducible refine K.out.mono ?_; rintro e w5 ⟨rfl, p1, HK2⟩)
      | (go_at_call 37; with_reducible refine HK2.out.mono ?_; rintro e w6 ⟨rfl, p2, HE⟩))
  go_wp2
  go_ret
  obtain ⟨s', z', hh⟩ := HE.out
  exact ⟨rfl, s', z', hh⟩
set_option maxHeartbeats 8000000 in
theorem bo4 (w0 w : World) (O : Ot) (p m d : Nat) (q g : Option Nat) (s : St) (z : Option Fz) (fv : Value) (n : Int) (x y : ByteArray) (va : Option Addr) (vn vc : Nat) (b : ByteArray) (h : Pr w0 w O p m d q g s s z z) (hb : Zb z) (hx : x.size ≤ maxLen) (hy : y.size ≤ 1000) (hi : Inp w0 va vn vc b) (hvn : vn ≤ maxLen) (hn0 : -9223372036854775808 ≤ n) (hn1 : n ≤ 9223372036854775807) :
    Calls Tryz.prog 39 #[.pointer (some ⟨p, 0, none⟩), fv, .pointer (some ⟨d, 0, none⟩), .agg #[.int .i64 4, .int .i64 n, .string x, .string y, .slice va vn vc]] w (BEnd w0 O p m d q g z) := by
  have hym : y.size ≤ maxLen := by unfold maxLen; omega
  obtain ⟨W, hW⟩ : ∃ W, w.alloc (.cells #[.int .i64 4, .int .i64 n, .string x, .string y, .slice va vn vc] 29) = W := ⟨_, rfl⟩
  have bW : Below w.heap.size w W := by rw [← hW]; exact bal _ _
  have hP := h.keep bW
  have ho : W.heap[w.heap.size]? = some (pObj 4 n x y va vn vc) := by rw [← hW]; exact heap_alloc_new _ _
  have HW : Hid (w.alloc (.cells #[.int .i64 4, .int .i64 n, .string x, .string y, .slice va vn vc] 29) = W) := hW
  have hPd := hP.keep (Below.refl _ _).drew
  have hod : W.drew.heap[w.heap.size]? = some (pObj 4 n x y va vn vc) := ho
  obtain ⟨X, hX⟩ : ∃ X, (renZ z s x y).1 = X := ⟨_, rfl⟩
  obtain ⟨s2, hs2⟩ : ∃ s2, (renZ z s x y).2 = s2 := ⟨_, rfl⟩
  have k1 := (by have := pr_ren1 hPd hb hx hym; rw [hX, hs2] at this; exact this : _)
  have k2 := fun w' (a1 : Pr w0 w' O p m d q g s2 s (tickO z) z) => (by have := pr_ren2 a1 hb hx hym (on_same hPd.on); rw [hX, hs2] at this; exact this : _)
  have K0 := pp_two hod (fun j => ZN.tick) k1 k2
  have K : Hid (Calls Tryz.prog 63 #[.pointer (some ⟨p, 0, none⟩), .string x, .string y] W.drew fun e w' => e = .returned (.int .i64 X) ∧ pC w' w.heap.size n x y va vn vc ∧ Hid (Calls Tryz.prog 38 #[.pointer (some ⟨d, 0, none⟩), .string x, .string y] w' fun e w'' => e = .returned (.int .i64 X) ∧ pC w'' w.heap.size n x y va vn vc ∧ Hid (∃ s' z', Pr w0 w'' O p m d q g s' s' z' z' ∧ ∀ j, ZN j z → ZN (j + 1) z'))) := K0
  have HE9 : Hid (pC W.drew w.heap.size n x y va vn vc) := pC_of hod
  clear K0 k1 k2 hPd hod ho hP bW h hb hi hvn hym hW
  go_enter Tryz.func39, Tryz.ntmps39
  go_wp2_with fail
  rw [HW.out]
  obtain ⟨bx, hbx⟩ : ∃ bx, w.heap.size = bx := ⟨_, rfl⟩
  rw [hbx] at K HE9 ⊢
  clear HW hbx
  go_region_held3 (fun Y => Y.cell? ⟨bx, 1, none⟩ = some (.int .i64 n) ∧ Y.cell? ⟨bx, 2, none⟩ = some (.string x) ∧ Y.cell? ⟨bx, 3, none⟩ = some (.string y) ∧ Y.cell? ⟨bx, 4, none⟩ = some (.slice va vn vc))
    (first | with_reducible exact HE9.out | with_reducible exact p1 | with_reducible exact p2)
    (first
      | (go_at_call 63; with_reducible refine K.out.mono ?_; rintro e w5 ⟨rfl, p1, HK2⟩)
      | (go_at_call 38; with_reducible refine HK2.out.mono ?_; rintro e w6 ⟨rfl, p2, HE⟩))
  go_wp2
  go_ret
  obtain ⟨s', z', hh⟩ := HE.out
  exact ⟨rfl, s', z', hh⟩
set_option maxHeartbeats 8000000 in
theorem bo5 (w0 w : World) (O : Ot) (p m d : Nat) (q g : Option Nat) (s : St) (z : Option Fz) (fv : Value) (n : Int) (x y : ByteArray) (va : Option Addr) (vn vc : Nat) (b : ByteArray) (h : Pr w0 w O p m d q g s s z z) (hb : Zb z) (hx : x.size ≤ maxLen) (hy : y.size ≤ 1000) (hi : Inp w0 va vn vc b) (hvn : vn ≤ maxLen) (hn0 : -9223372036854775808 ≤ n) (hn1 : n ≤ 9223372036854775807) :
    Calls Tryz.prog 39 #[.pointer (some ⟨p, 0, none⟩), fv, .pointer (some ⟨d, 0, none⟩), .agg #[.int .i64 5, .int .i64 n, .string x, .string y, .slice va vn vc]] w (BEnd w0 O p m d q g z) := by
  have hym : y.size ≤ maxLen := by unfold maxLen; omega
  obtain ⟨W, hW⟩ : ∃ W, w.alloc (.cells #[.int .i64 5, .int .i64 n, .string x, .string y, .slice va vn vc] 29) = W := ⟨_, rfl⟩
  have bW : Below w.heap.size w W := by rw [← hW]; exact bal _ _
  have hP := h.keep bW
  have ho : W.heap[w.heap.size]? = some (pObj 5 n x y va vn vc) := by rw [← hW]; exact heap_alloc_new _ _
  have HW : Hid (w.alloc (.cells #[.int .i64 5, .int .i64 n, .string x, .string y, .slice va vn vc] 29) = W) := hW
  have hPd := hP.keep (Below.refl _ _).drew
  have hod : W.drew.heap[w.heap.size]? = some (pObj 5 n x y va vn vc) := ho
  obtain ⟨X, hX⟩ : ∃ X, (delZ z s x).1 = X := ⟨_, rfl⟩
  obtain ⟨s2, hs2⟩ : ∃ s2, (delZ z s x).2 = s2 := ⟨_, rfl⟩
  have k1 := (by have := pr_del1 hPd hb hx; rw [hX, hs2] at this; exact this : _)
  have k2 := fun w' (a1 : Pr w0 w' O p m d q g s2 s (tickO z) z) => (by have := pr_del2 a1 hb hx; rw [hX, hs2] at this; exact this : _)
  have K0 := pp_two hod (fun j => ZN.tick) k1 k2
  have K : Hid (Calls Tryz.prog 64 #[.pointer (some ⟨p, 0, none⟩), .string x] W.drew fun e w' => e = .returned (.int .i64 X) ∧ pC w' w.heap.size n x y va vn vc ∧ Hid (Calls Tryz.prog 65 #[.pointer (some ⟨d, 0, none⟩), .string x] w' fun e w'' => e = .returned (.int .i64 X) ∧ pC w'' w.heap.size n x y va vn vc ∧ Hid (∃ s' z', Pr w0 w'' O p m d q g s' s' z' z' ∧ ∀ j, ZN j z → ZN (j + 1) z'))) := K0
  have HE9 : Hid (pC W.drew w.heap.size n x y va vn vc) := pC_of hod
  clear K0 k1 k2 hPd hod ho hP bW h hb hi hvn hym hW
  go_enter Tryz.func39, Tryz.ntmps39
  go_wp2_with fail
  rw [HW.out]
  obtain ⟨bx, hbx⟩ : ∃ bx, w.heap.size = bx := ⟨_, rfl⟩
  rw [hbx] at K HE9 ⊢
  clear HW hbx
  go_region_held3 (fun Y => Y.cell? ⟨bx, 1, none⟩ = some (.int .i64 n) ∧ Y.cell? ⟨bx, 2, none⟩ = some (.string x) ∧ Y.cell? ⟨bx, 3, none⟩ = some (.string y) ∧ Y.cell? ⟨bx, 4, none⟩ = some (.slice va vn vc))
    (first | with_reducible exact HE9.out | with_reducible exact p1 | with_reducible exact p2)
    (first
      | (go_at_call 64; with_reducible refine K.out.mono ?_; rintro e w5 ⟨rfl, p1, HK2⟩)
      | (go_at_call 65; with_reducible refine HK2.out.mono ?_; rintro e w6 ⟨rfl, p2, HE⟩))
  go_wp2
  go_ret
  obtain ⟨s', z', hh⟩ := HE.out
  exact ⟨rfl, s', z', hh⟩
end Go.Proofs.YtebngmgdciahiaaGreatDoor
