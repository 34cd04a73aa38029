/-
  Both, of a pair of disks: Flip, Crash, and what befalls a disk; Read and List; whichever deed.
-/
import Derived.Test.YtebngmgdciahiaaGreatDoorArN
set_option maxRecDepth 100000
namespace Go.Proofs.YtebngmgdciahiaaGreatDoor
open Go.RowKit
open _root_.Go.Proofs.YtebngmgdciahiaaGreatDoor.Nm _root_.Go.Proofs.YtebngmgdciahiaaGreatDoor.Dk
attribute [local go_sem ↓] Go.wp_at_zero Go.wp_at_succ
set_option linter.unusedVariables false

theorem cv_u32 (n : Nat) (hn : n < 4294967296) (W : World) : Sem.run Tryz.prog (convert 3 124 (.int .i64 (n : Int))) W = .ok (.int .u32 (n : Int)) W := by
  simp [convert, run_underlying Tryz.underlying124, run_underlying Tryz.underlying3, Conv.intToInt]
  rw [IntKind.wrap_u32]; omega
set_option maxHeartbeats 8000000 in
theorem bo10 (w0 w : World) (O : Ot) (p m d : Nat) (q g : Option Nat) (s : St) (z : Option Fz) (fv : Value) (n : Int) (x y : ByteArray) (va : Option Addr) (vn vc : Nat) (b : ByteArray) (h : Pr w0 w O p m d q g s s z z) (hb : Zb z) (hx : x.size ≤ maxLen) (hy : y.size ≤ 1000) (hi : Inp w0 va vn vc b) (hvn : vn ≤ maxLen) (hn0 : -9223372036854775808 ≤ n) (hn1 : n ≤ 9223372036854775807) :
    Calls Tryz.prog 39 #[.pointer (some ⟨p, 0, none⟩), fv, .pointer (some ⟨d, 0, none⟩), .agg #[.int .i64 10, .int .i64 n, .string x, .string y, .slice va vn vc]] w (BEnd w0 O p m d q g z) := by
  have hym : y.size ≤ maxLen := by unfold maxLen; omega
  obtain ⟨W, hW⟩ : ∃ W, w.alloc (.cells #[.int .i64 10, .int .i64 n, .string x, .string y, .slice va vn vc] 29) = W := ⟨_, rfl⟩
  have bW : Below w.heap.size w W := by rw [← hW]; exact bal _ _
  have hP := h.keep bW
  have ho : W.heap[w.heap.size]? = some (pObj 10 n x y va vn vc) := by rw [← hW]; exact heap_alloc_new _ _
  have HW : Hid (w.alloc (.cells #[.int .i64 10, .int .i64 n, .string x, .string y, .slice va vn vc] 29) = W) := hW
  have hPd := hP.keep (Below.refl _ _).drew
  have hod : W.drew.heap[w.heap.size]? = some (pObj 10 n x y va vn vc) := ho
  obtain ⟨MM, hMM⟩ : ∃ MM : Nat, 4096 + y.size = MM := ⟨_, rfl⟩
  have wm : IntKind.u32.wrap (4096 + (y.size : Int)) = (MM : Int) := by rw [IntKind.wrap_u32]; omega
  have cvt := cv_u32 y.size (by omega)
  have hmm : MM < 4294967296 := by omega
  obtain ⟨R, hR⟩ : ∃ R, flipT x n s.fs = R := ⟨_, rfl⟩
  obtain ⟨s2, hs2⟩ : ∃ s2 : St, { s with fs := flipS x n MM s.fs } = s2 := ⟨_, rfl⟩
  have k1 := (by have := pr_flip1 (mask := MM) hPd hx hn0 hn1 hmm; rw [hR, hs2] at this; exact this : _)
  have k2 := fun w' (a1 : Pr w0 w' O p m d q g s2 s z z) => (by have := pr_flip2 (mask := MM) a1 hx hn0 hn1 hmm; rw [hR, hs2] at this; exact this : _)
  have K0 := pp_two hod (fun j => ZN.same) k1 k2
  have K : Hid (Calls Tryz.prog 72 #[.pointer (some ⟨p, 0, none⟩), .string x, .int .i64 n, .int .u32 (MM : Int)] W.drew fun e w' => e = .returned (.bool R) ∧ pC w' w.heap.size n x y va vn vc ∧ Hid (Calls Tryz.prog 73 #[.pointer (some ⟨d, 0, none⟩), .string x, .int .i64 n, .int .u32 (MM : Int)] w' fun e w'' => e = .returned (.bool R) ∧ pC w'' w.heap.size n x y va vn vc ∧ Hid (∃ s' z', Pr w0 w'' O p m d q g s' s' z' z' ∧ ∀ j, ZN j z → ZN (j + 1) z'))) := K0
  have HE9 : Hid (pC W.drew w.heap.size n x y va vn vc) := pC_of hod
  clear K0 k1 k2 hPd hod ho hP bW h hb hi hvn hym hW
  go_enter Tryz.func39, Tryz.ntmps39
  go_wp2_with fail
  rw [HW.out]
  obtain ⟨bx, hbx⟩ : ∃ bx, w.heap.size = bx := ⟨_, rfl⟩
  rw [hbx] at K HE9 ⊢
  clear HW hbx
  go_region_held3 (fun Y => Y.cell? ⟨bx, 1, none⟩ = some (.int .i64 n) ∧ Y.cell? ⟨bx, 2, none⟩ = some (.string x) ∧ Y.cell? ⟨bx, 3, none⟩ = some (.string y) ∧ Y.cell? ⟨bx, 4, none⟩ = some (.slice va vn vc))
    (first | with_reducible exact HE9.out | with_reducible exact p1 | with_reducible exact p2)
    (first
      | (go_at_call 72; with_reducible refine K.out.mono ?_; rintro e w5 ⟨rfl, p1, HK2⟩)
      | (go_at_call 73; with_reducible refine HK2.out.mono ?_; rintro e w6 ⟨rfl, p2, HE⟩))
  go_wp2
  go_ret
  obtain ⟨s', z', hh⟩ := HE.out
  exact ⟨rfl, s', z', hh⟩
set_option maxHeartbeats 8000000 in
theorem bo11 (w0 w : World) (O : Ot) (p m d : Nat) (q g : Option Nat) (s : St) (z : Option Fz) (fv : Value) (n : Int) (x y : ByteArray) (va : Option Addr) (vn vc : Nat) (b : ByteArray) (h : Pr w0 w O p m d q g s s z z) (hb : Zb z) (hx : x.size ≤ maxLen) (hy : y.size ≤ 1000) (hi : Inp w0 va vn vc b) (hvn : vn ≤ maxLen) (hn0 : -9223372036854775808 ≤ n) (hn1 : n ≤ 9223372036854775807) :
    Calls Tryz.prog 39 #[.pointer (some ⟨p, 0, none⟩), fv, .pointer (some ⟨d, 0, none⟩), .agg #[.int .i64 11, .int .i64 n, .string x, .string y, .slice va vn vc]] w (BEnd w0 O p m d q g z) := by
  have hym : y.size ≤ maxLen := by unfold maxLen; omega
  obtain ⟨W, hW⟩ : ∃ W, w.alloc (.cells #[.int .i64 11, .int .i64 n, .string x, .string y, .slice va vn vc] 29) = W := ⟨_, rfl⟩
  have bW : Below w.heap.size w W := by rw [← hW]; exact bal _ _
  have hP := h.keep bW
  have ho : W.heap[w.heap.size]? = some (pObj 11 n x y va vn vc) := by rw [← hW]; exact heap_alloc_new _ _
  have HW : Hid (w.alloc (.cells #[.int .i64 11, .int .i64 n, .string x, .string y, .slice va vn vc] 29) = W) := hW
  have K0 := pp_two ho (fun j => ZN.same) (pr_crash1 hP hn0 hn1) (fun w' a1 => pr_crash2 a1 hn0 hn1)
  have K : Hid (Calls Tryz.prog 24 #[.pointer (some ⟨p, 0, none⟩), .int .i64 n] W fun e w' => e = .returned (.tuple #[]) ∧ pC w' w.heap.size n x y va vn vc ∧ Hid (Calls Tryz.prog 74 #[.pointer (some ⟨d, 0, none⟩), .int .i64 n] w' fun e w'' => e = .returned (.tuple #[]) ∧ pC w'' w.heap.size n x y va vn vc ∧ Hid (∃ s' z', Pr w0 w'' O p m d q g s' s' z' z' ∧ ∀ j, ZN j z → ZN (j + 1) z'))) := K0
  clear K0 ho hP bW h hb hi hvn hym hW
  go_enter Tryz.func39, Tryz.ntmps39
  go_wp2_with fail
  rw [HW.out]
  obtain ⟨bx, hbx⟩ : ∃ bx, w.heap.size = bx := ⟨_, rfl⟩
  rw [hbx] at K ⊢
  clear HW hbx
  go_at_call 24
  refine K.out.mono ?_
  rintro e w5 ⟨rfl, ⟨p1, p2, p3, p4⟩, HK2⟩
  clear K
  go_wp2_with fail
  go_at_call 74
  refine HK2.out.mono ?_
  rintro e w6 ⟨rfl, p5, HE⟩
  clear HK2 p1 p2 p3 p4 p5
  go_wp2
  go_ret
  obtain ⟨s', z', hh⟩ := HE.out
  exact ⟨rfl, s', z', hh⟩
set_option maxHeartbeats 8000000 in
theorem bo9 (w0 w : World) (O : Ot) (p m d : Nat) (q g : Option Nat) (s : St) (z : Option Fz) (fv : Value) (n : Int) (x y : ByteArray) (va : Option Addr) (vn vc : Nat) (b : ByteArray) (h : Pr w0 w O p m d q g s s z z) (hb : Zb z) (hx : x.size ≤ maxLen) (hy : y.size ≤ 1000) (hi : Inp w0 va vn vc b) (hvn : vn ≤ maxLen) (hn0 : -9223372036854775808 ≤ n) (hn1 : n ≤ 9223372036854775807) :
    Calls Tryz.prog 39 #[.pointer (some ⟨p, 0, none⟩), fv, .pointer (some ⟨d, 0, none⟩), .agg #[.int .i64 9, .int .i64 n, .string x, .string y, .slice va vn vc]] w (BEnd w0 O p m d q g z) := by
  have hym : y.size ≤ maxLen := by unfold maxLen; omega
  obtain ⟨W, hW⟩ : ∃ W, w.alloc (.cells #[.int .i64 9, .int .i64 n, .string x, .string y, .slice va vn vc] 29) = W := ⟨_, rfl⟩
  have bW : Below w.heap.size w W := by rw [← hW]; exact bal _ _
  have hP := h.keep bW
  have ho : W.heap[w.heap.size]? = some (pObj 9 n x y va vn vc) := by rw [← hW]; exact heap_alloc_new _ _
  have HW : Hid (w.alloc (.cells #[.int .i64 9, .int .i64 n, .string x, .string y, .slice va vn vc] 29) = W) := hW
  have K : Hid (Calls Tryz.prog 71 #[.pointer (some ⟨p, 0, none⟩)] W fun e w' => e = .returned (.tuple #[]) ∧ pC w' w.heap.size n x y va vn vc ∧ (∃ v, w'.cell? ⟨d, 0, none⟩ = some v) ∧ w'.frozen? ⟨d, 0, none⟩ = false ∧ Hid (∃ s', Pr w0 (w'.setCell ⟨d, 0, none⟩ (.slice none 0 0)) O p m d q g s' s' z z)) := by
    refine (pr_wipe1 hP).mono ?_
    rintro e w' ⟨rfl, j1, j2⟩
    obtain ⟨a9, c9, L9, hc9⟩ := j1.cell
    exact ⟨rfl, pC_of ((kdd j2 w.heap.size _ ho).trans ho), ⟨_, cell_of_row w' d 0 _ _ _ hc9⟩, frozen_of_row w' d 0 _ _ hc9, _, j1.dNil⟩
  clear ho hP bW h hb hi hvn hym hW
  go_enter Tryz.func39, Tryz.ntmps39
  go_wp2_with fail
  rw [HW.out]
  obtain ⟨bx, hbx⟩ : ∃ bx, w.heap.size = bx := ⟨_, rfl⟩
  rw [hbx] at K ⊢
  clear HW hbx
  go_at_call 71
  refine K.out.mono ?_
  rintro e w5 ⟨rfl, ⟨p1, p2, p3, p4⟩, ⟨v9, p5⟩, p6, HE⟩
  clear K
  go_wp2
  go_ret
  obtain ⟨s', hh⟩ := HE.out
  exact ⟨rfl, s', z, hh, fun j => ZN.same⟩
set_option maxHeartbeats 8000000 in
theorem bo8 (w0 w : World) (O : Ot) (p m d : Nat) (q g : Option Nat) (s : St) (z : Option Fz) (fv : Value) (n : Int) (x y : ByteArray) (va : Option Addr) (vn vc : Nat) (b : ByteArray) (h : Pr w0 w O p m d q g s s z z) (hb : Zb z) (hx : x.size ≤ maxLen) (hy : y.size ≤ 1000) (hi : Inp w0 va vn vc b) (hvn : vn ≤ maxLen) (hn0 : -9223372036854775808 ≤ n) (hn1 : n ≤ 9223372036854775807) :
    Calls Tryz.prog 39 #[.pointer (some ⟨p, 0, none⟩), fv, .pointer (some ⟨d, 0, none⟩), .agg #[.int .i64 8, .int .i64 n, .string x, .string y, .slice va vn vc]] w (BEnd w0 O p m d q g z) := by
  have hym : y.size ≤ maxLen := by unfold maxLen; omega
  obtain ⟨W, hW⟩ : ∃ W, w.alloc (.cells #[.int .i64 8, .int .i64 n, .string x, .string y, .slice va vn vc] 29) = W := ⟨_, rfl⟩
  have bW : Below w.heap.size w W := by rw [← hW]; exact bal _ _
  have hP := h.keep bW
  have ho : W.heap[w.heap.size]? = some (pObj 8 n x y va vn vc) := by rw [← hW]; exact heap_alloc_new _ _
  have HW : Hid (w.alloc (.cells #[.int .i64 8, .int .i64 n, .string x, .string y, .slice va vn vc] 29) = W) := hW
  obtain ⟨mx, hmx⟩ : ∃ mx, max n 0 = mx := ⟨_, rfl⟩
  have hKK : (if 0 < n then n else 0) = mx := by split <;> omega
  have hKM : max n 0 = mx := hmx
  have K : Hid (Calls Tryz.prog 70 #[.pointer (some ⟨p, 0, none⟩), .int .i64 n] W fun e w' => e = .returned (.tuple #[]) ∧ pC w' w.heap.size n x y va vn vc ∧ (∃ v, w'.cell? ⟨d, 4, none⟩ = some v) ∧ w'.frozen? ⟨d, 4, none⟩ = false ∧ Hid (∃ s', Pr w0 (w'.setCell ⟨d, 4, none⟩ (.int .i64 mx)) O p m d q g s' s' z z)) := by
    refine (pr_fail1 hP hn0 hn1).mono ?_
    rintro e w' ⟨rfl, j1, j2⟩
    obtain ⟨a9, c9, L9, hc9⟩ := j1.cell
    exact ⟨rfl, pC_of ((kdd j2 w.heap.size _ ho).trans ho), ⟨_, cell_of_row w' d 4 _ _ _ hc9⟩, frozen_of_row w' d 4 _ _ hc9, _, (by have := j1.dBad (max n 0) (by omega) (by omega); rw [hmx] at this; exact this)⟩
  clear ho hP bW h hb hi hvn hym hW hmx
  go_enter Tryz.func39, Tryz.ntmps39
  go_wp2_with fail
  rw [HW.out]
  obtain ⟨bx, hbx⟩ : ∃ bx, w.heap.size = bx := ⟨_, rfl⟩
  rw [hbx] at K ⊢
  clear HW hbx
  go_at_call 70
  refine K.out.mono ?_
  rintro e w5 ⟨rfl, ⟨p1, p2, p3, p4⟩, ⟨v9, p5⟩, p6, HE⟩
  clear K
  go_wp2
  go_ret
  obtain ⟨s', hh⟩ := HE.out
  exact ⟨rfl, s', z, hh, fun j => ZN.same⟩
set_option maxHeartbeats 8000000 in
theorem bo7t (w0 w : World) (O : Ot) (p m d : Nat) (q g : Option Nat) (s : St) (z : Option Fz) (fv : Value) (n : Int) (x y : ByteArray) (va : Option Addr) (vn vc : Nat) (b : ByteArray) (h : Pr w0 w O p m d q g s s z z) (hb : Zb z) (hx : x.size ≤ maxLen) (hy : y.size ≤ 1000) (hi : Inp w0 va vn vc b) (hvn : vn ≤ maxLen) (hn0 : -9223372036854775808 ≤ n) (hn1 : n ≤ 9223372036854775807) (hbit : bits .and .i64 n 1 = 1) :
    Calls Tryz.prog 39 #[.pointer (some ⟨p, 0, none⟩), fv, .pointer (some ⟨d, 0, none⟩), .agg #[.int .i64 7, .int .i64 n, .string x, .string y, .slice va vn vc]] w (BEnd w0 O p m d q g z) := by
  have hym : y.size ≤ maxLen := by unfold maxLen; omega
  obtain ⟨W, hW⟩ : ∃ W, w.alloc (.cells #[.int .i64 7, .int .i64 n, .string x, .string y, .slice va vn vc] 29) = W := ⟨_, rfl⟩
  have bW : Below w.heap.size w W := by rw [← hW]; exact bal _ _
  have hP := h.keep bW
  have ho : W.heap[w.heap.size]? = some (pObj 7 n x y va vn vc) := by rw [← hW]; exact heap_alloc_new _ _
  have HW : Hid (w.alloc (.cells #[.int .i64 7, .int .i64 n, .string x, .string y, .slice va vn vc] 29) = W) := hW
  obtain ⟨N1, hN1⟩ : ∃ N1, bits .and .i64 n 1 = N1 := ⟨_, rfl⟩
  have hN2 : N1 = 1 := by rw [← hN1]; exact hbit
  have hN3 : bits .and .i64 n 1 = 1 := hbit
  have K : Hid (Calls Tryz.prog 69 #[.pointer (some ⟨p, 0, none⟩), .bool true] W fun e w' => e = .returned (.tuple #[]) ∧ pC w' w.heap.size n x y va vn vc ∧ (∃ v, w'.cell? ⟨d, 3, none⟩ = some v) ∧ w'.frozen? ⟨d, 3, none⟩ = false ∧ Hid (∃ s', Pr w0 (w'.setCell ⟨d, 3, none⟩ (.bool true)) O p m d q g s' s' z z)) := by
    refine (pr_off1 hP true).mono ?_
    rintro e w' ⟨rfl, j1, j2⟩
    obtain ⟨a9, c9, L9, hc9⟩ := j1.cell
    exact ⟨rfl, pC_of ((kdd j2 w.heap.size _ ho).trans ho), ⟨_, cell_of_row w' d 3 _ _ _ hc9⟩, frozen_of_row w' d 3 _ _ hc9, _, j1.dOff true⟩
  clear ho hP bW h hb hi hvn hym hW hbit
  go_enter Tryz.func39, Tryz.ntmps39
  go_wp2_with fail
  rw [HW.out]
  obtain ⟨bx, hbx⟩ : ∃ bx, w.heap.size = bx := ⟨_, rfl⟩
  rw [hbx] at K ⊢
  clear HW hbx
  go_at_call 69
  refine K.out.mono ?_
  rintro e w5 ⟨rfl, ⟨p1, p2, p3, p4⟩, ⟨v9, p5⟩, p6, HE⟩
  clear K
  go_wp2
  go_ret
  obtain ⟨s', hh⟩ := HE.out
  exact ⟨rfl, s', z, hh, fun j => ZN.same⟩
set_option maxHeartbeats 8000000 in
theorem bo7f (w0 w : World) (O : Ot) (p m d : Nat) (q g : Option Nat) (s : St) (z : Option Fz) (fv : Value) (n : Int) (x y : ByteArray) (va : Option Addr) (vn vc : Nat) (b : ByteArray) (h : Pr w0 w O p m d q g s s z z) (hb : Zb z) (hx : x.size ≤ maxLen) (hy : y.size ≤ 1000) (hi : Inp w0 va vn vc b) (hvn : vn ≤ maxLen) (hn0 : -9223372036854775808 ≤ n) (hn1 : n ≤ 9223372036854775807) (hbit : ¬ bits .and .i64 n 1 = 1) :
    Calls Tryz.prog 39 #[.pointer (some ⟨p, 0, none⟩), fv, .pointer (some ⟨d, 0, none⟩), .agg #[.int .i64 7, .int .i64 n, .string x, .string y, .slice va vn vc]] w (BEnd w0 O p m d q g z) := by
  have hym : y.size ≤ maxLen := by unfold maxLen; omega
  obtain ⟨W, hW⟩ : ∃ W, w.alloc (.cells #[.int .i64 7, .int .i64 n, .string x, .string y, .slice va vn vc] 29) = W := ⟨_, rfl⟩
  have bW : Below w.heap.size w W := by rw [← hW]; exact bal _ _
  have hP := h.keep bW
  have ho : W.heap[w.heap.size]? = some (pObj 7 n x y va vn vc) := by rw [← hW]; exact heap_alloc_new _ _
  have HW : Hid (w.alloc (.cells #[.int .i64 7, .int .i64 n, .string x, .string y, .slice va vn vc] 29) = W) := hW
  obtain ⟨N1, hN1⟩ : ∃ N1, bits .and .i64 n 1 = N1 := ⟨_, rfl⟩
  have g9 : (N1 == 1) = false := by rw [beq_eq_false_iff_ne, ← hN1]; exact hbit
  have K : Hid (Calls Tryz.prog 69 #[.pointer (some ⟨p, 0, none⟩), .bool false] W fun e w' => e = .returned (.tuple #[]) ∧ pC w' w.heap.size n x y va vn vc ∧ (∃ v, w'.cell? ⟨d, 3, none⟩ = some v) ∧ w'.frozen? ⟨d, 3, none⟩ = false ∧ Hid (∃ s', Pr w0 (w'.setCell ⟨d, 3, none⟩ (.bool false)) O p m d q g s' s' z z)) := by
    refine (pr_off1 hP false).mono ?_
    rintro e w' ⟨rfl, j1, j2⟩
    obtain ⟨a9, c9, L9, hc9⟩ := j1.cell
    exact ⟨rfl, pC_of ((kdd j2 w.heap.size _ ho).trans ho), ⟨_, cell_of_row w' d 3 _ _ _ hc9⟩, frozen_of_row w' d 3 _ _ hc9, _, j1.dOff false⟩
  clear ho hP bW h hb hi hvn hym hW hbit
  go_enter Tryz.func39, Tryz.ntmps39
  go_wp2_with fail
  rw [HW.out]
  obtain ⟨bx, hbx⟩ : ∃ bx, w.heap.size = bx := ⟨_, rfl⟩
  rw [hbx] at K ⊢
  clear HW hbx
  go_at_call 69
  refine K.out.mono ?_
  rintro e w5 ⟨rfl, ⟨p1, p2, p3, p4⟩, ⟨v9, p5⟩, p6, HE⟩
  clear K
  go_wp2
  go_ret
  obtain ⟨s', hh⟩ := HE.out
  exact ⟨rfl, s', z, hh, fun j => ZN.same⟩
section
variable {w0 w : World} {O : Ot} {p m d : Nat} {q g : Option Nat} {s s2 : St} {z z2 : Option Fz}
theorem pr_read1 (h : Pr w0 w O p m d q g s s2 z z2) (hb : Zb z) {x : ByteArray} (hx : x.size ≤ maxLen) :
    Calls Tryz.prog 60 #[.pointer (some ⟨p, 0, none⟩), .string x] w fun e w' => (∃ a n c, e = .returned (.tuple #[.slice a n c, .int .i64 (readZ z s x).2]) ∧ Inp w' a n c (readZ z s x).1) ∧ Pr w0 w' O p m d q g (askZ z s [x]).2.2 s2 (tickO z) z2 ∧ Kd w w' :=
  pr_prog h fun V F0 hp => (pread_any p m V q s F0 z x w hp h.on.fz hb hx).mono fun e w' k => by
    obtain ⟨⟨a, n, c⟩, rfl, k0, F', k1, k2, k3⟩ := k
    rw [ask_z] at k2
    have hp := k0 ⟨#[]⟩ false
    obtain ⟨f, h1, h2, h3⟩ := hp.row
    have hn : n = (readZ z s x).1.size := hp.n
    refine ⟨⟨a, n, c, rfl, ⟨⟨f, h1, by rw [hn]; exact h2, by rw [hn]; exact h3⟩, hn, fun e => ?_⟩⟩, V, F', k1, k2, k3.mono fun k _ e => mk_ms e, Gw.refl _ _⟩
    have hz : c = 0 := hp.z e
    have hc : (readZ z s x).1.size ≤ c := hp.c
    exact ⟨by omega, hz⟩
theorem pr_read2 (h : Pr w0 w O p m d q g s s2 z z2) (hb : Zb z2) {x : ByteArray} (hx : x.size ≤ maxLen) :
    Calls Tryz.prog 35 #[.pointer (some ⟨d, 0, none⟩), .string x] w fun e w' => ((∃ a n c, e = .returned (.tuple #[.slice a n c, .int .i64 (readZ z2 s2 x).2]) ∧ Inp w' a n c (readZ z2 s2 x).1) ∧ ∀ A n C b, Inp w A n C b → Inp w' A n C b) ∧ Pr w0 w' O p m d q g s (askZ z2 s2 [x]).2.2 z (tickO z2) ∧ Kd w w' :=
  (pr_doc (X := fun e w' => (∃ a n c, e = .returned (.tuple #[.slice a n c, .int .i64 (readZ z2 s2 x).2]) ∧ Inp w' a n c (readZ z2 s2 x).1) ∧ ∀ A n C b, Inp w A n C b → Inp w' A n C b) h fun a c L hd => (read_any d a c L g s2 z2 x w hd h.dx.zs hb hx).mono fun e w' k => by
    obtain ⟨v, rfl, j1, j3, j4, j5⟩ := k
    rw [ask_z] at j4
    obtain ⟨a9, c9, rfl, hi⟩ := bts_inp j1
    exact ⟨⟨⟨a9, _, c9, rfl, hi⟩, fun A n C b hi => inp_mk hd h.dx.zs j5 hi⟩, a, c, L, j3, j4, j5.mono fun _ _ k => Mg.of k, .inl rfl, Gw.refl _ _⟩).mono fun e w' k => ⟨k.1, k.2.1, k.2.2.1⟩
theorem pr_list1 (h : Pr w0 w O p m d q g s s2 z z2) (hb : Zb z) {x : ByteArray} (hx : x.size ≤ maxLen) :
    Calls Tryz.prog 66 #[.pointer (some ⟨p, 0, none⟩), .string x] w fun e w' => (∃ v M, e = .returned (.tuple #[v, .int .i64 (lisZ z s x).2]) ∧ SOwn w' w.heap.size v M ∧ (M.map fun y => y.s) = (lisZ z s x).1) ∧ Pr w0 w' O p m d q g (askZ z s []).2.2 s2 (tickO z) z2 ∧ Kd w w' :=
  pr_prog h fun V F0 hp => (plist_any p m V q s F0 z x w hp h.on.fz hb hx).mono fun e w' k => by
    obtain ⟨v, M, rfl, k0, k5, F', k1, k2, k3⟩ := k
    rw [ask_z] at k2
    exact ⟨⟨v, M, rfl, k0, k5⟩, V, F', k1, k2, k3.mono fun k _ e => mk_ms e, Gw.refl _ _⟩
theorem pr_list2 (h : Pr w0 w O p m d q g s s2 z z2) (hb : Zb z2) {x : ByteArray} (hx : x.size ≤ maxLen) :
    Calls Tryz.prog 67 #[.pointer (some ⟨d, 0, none⟩), .string x] w fun e w' => (∃ v M, e = .returned (.tuple #[v, .int .i64 (lisZ z2 s2 x).2]) ∧ SOwn w' w.heap.size v M ∧ (M.map fun y => y.s) = (lisZ z2 s2 x).1) ∧ Pr w0 w' O p m d q g s (askZ z2 s2 []).2.2 z (tickO z2) ∧ Kd w w' ∧ DU w0 w w' :=
  pr_doc (X := fun e w' => ∃ v M, e = .returned (.tuple #[v, .int .i64 (lisZ z2 s2 x).2]) ∧ SOwn w' w.heap.size v M ∧ (M.map fun y => y.s) = (lisZ z2 s2 x).1) h fun a c L hd => (list_any d a c L g s2 z2 x w hd h.dx.zs hb hx).mono fun e w' k => by
    obtain ⟨v, M, rfl, j1, j2, j3, j4, j5⟩ := k
    rw [ask_z] at j4
    exact ⟨⟨v, M, rfl, j1, j2⟩, a, c, L, j3, j4, j5.mono fun _ _ k => Mg.of k, .inl rfl, Gw.refl _ _⟩
end
theorem lis_len' (z : Option Fz) (s : St) (x : ByteArray) : (lisZ z s x).1.length ≤ s.fs.length := by
  unfold lisZ
  split
  · exact Nat.zero_le _
  · unfold lst
    rw [List.length_map]
    exact List.length_filter_le _ _
theorem on_len' {w0 w : World} {p m : Nat} {q : Option Nat} {s : St} {z : Option Fz} (h : On w0 w p m q s z) : s.fs.length ≤ 4096 := by
  obtain ⟨V, F, x⟩ := h.px
  exact x.wf.n
set_option maxHeartbeats 8000000 in
theorem bo0 (w0 w : World) (O : Ot) (p m d : Nat) (q g : Option Nat) (s : St) (z : Option Fz) (fv : Value) (n : Int) (x y : ByteArray) (va : Option Addr) (vn vc : Nat) (b : ByteArray) (h : Pr w0 w O p m d q g s s z z) (hb : Zb z) (hx : x.size ≤ maxLen) (hy : y.size ≤ 1000) (hi : Inp w0 va vn vc b) (hvn : vn ≤ maxLen) (hn0 : -9223372036854775808 ≤ n) (hn1 : n ≤ 9223372036854775807) :
    Calls Tryz.prog 39 #[.pointer (some ⟨p, 0, none⟩), fv, .pointer (some ⟨d, 0, none⟩), .agg #[.int .i64 0, .int .i64 n, .string x, .string y, .slice va vn vc]] w (BEnd w0 O p m d q g z) := by
  have hym : y.size ≤ maxLen := by unfold maxLen; omega
  obtain ⟨W, hW⟩ : ∃ W, w.alloc (.cells #[.int .i64 0, .int .i64 n, .string x, .string y, .slice va vn vc] 29) = W := ⟨_, rfl⟩
  have bW : Below w.heap.size w W := by rw [← hW]; exact bal _ _
  have hP := h.keep bW
  have ho : W.heap[w.heap.size]? = some (pObj 0 n x y va vn vc) := by rw [← hW]; exact heap_alloc_new _ _
  have HW : Hid (w.alloc (.cells #[.int .i64 0, .int .i64 n, .string x, .string y, .slice va vn vc] 29) = W) := hW
  obtain ⟨s2, hs2⟩ : ∃ s2, (askZ z s [x]).2.2 = s2 := ⟨_, rfl⟩
  obtain ⟨R, hR⟩ : ∃ R, readZ z s x = R := ⟨_, rfl⟩
  obtain ⟨rb, re⟩ := R
  have k1 := pr_read1 hP hb hx
  rw [hs2, hR] at k1
  have K : Hid (Calls Tryz.prog 60 #[.pointer (some ⟨p, 0, none⟩), .string x] W fun e w' => ∃ a n' c, e = .returned (.tuple #[.slice a n' c, .int .i64 re]) ∧ pC w' w.heap.size n x y va vn vc ∧ Hid (Calls Tryz.prog 35 #[.pointer (some ⟨d, 0, none⟩), .string x] w' fun e w'' => ∃ a2 n2 c2, e = .returned (.tuple #[.slice a2 n2 c2, .int .i64 re]) ∧ Hid (Inp w'' a n' c rb ∧ Inp w'' a2 n2 c2 rb ∧ Pr w0 w'' O p m d q g s2 s2 (tickO z) (tickO z)))) := by
    refine k1.mono ?_
    rintro e w' ⟨⟨a, n', c, rfl, i1⟩, j1, j2⟩
    refine ⟨a, n', c, rfl, pC_of ((kdd j2 w.heap.size _ ho).trans ho), ?_⟩
    have k2 := pr_read2 j1 hb hx
    rw [hs2, hR] at k2
    refine k2.mono ?_
    rintro e w'' ⟨⟨⟨a2, n2, c2, rfl, i2⟩, i3⟩, l1, _⟩
    exact ⟨a2, n2, c2, rfl, i3 _ _ _ _ i1, i2, l1⟩
  clear k1 hs2 hR ho hP bW h hb hi hvn hym hW
  go_enter Tryz.func39, Tryz.ntmps39
  go_wp2_with fail
  rw [HW.out]
  obtain ⟨bx, hbx⟩ : ∃ bx, w.heap.size = bx := ⟨_, rfl⟩
  rw [hbx] at K ⊢
  clear HW hbx
  go_at_call 60
  refine K.out.mono ?_
  rintro e w5 ⟨a, n', c, rfl, ⟨p1, p2, p3, p4⟩, HK⟩
  clear K
  go_wp2_with fail
  go_at_call 35
  refine HK.out.mono ?_
  rintro e w6 ⟨a2, n2, c2, rfl, HE⟩
  have cv1 := HE.out.1.conv
  have cv2 := HE.out.2.1.conv
  have HE2 : Hid (Pr w0 w6 O p m d q g s2 s2 (tickO z) (tickO z)) := HE.out.2.2
  clear HK HE p1 p2 p3 p4
  go_wp2
  go_ret
  exact ⟨rfl, _, _, HE2.out, fun j => ZN.tick⟩
set_option maxHeartbeats 8000000 in
theorem bo6 (w0 w : World) (O : Ot) (p m d : Nat) (q g : Option Nat) (s : St) (z : Option Fz) (fv : Value) (n : Int) (x y : ByteArray) (va : Option Addr) (vn vc : Nat) (b : ByteArray) (h : Pr w0 w O p m d q g s s z z) (hb : Zb z) (hx : x.size ≤ maxLen) (hy : y.size ≤ 1000) (hi : Inp w0 va vn vc b) (hvn : vn ≤ maxLen) (hn0 : -9223372036854775808 ≤ n) (hn1 : n ≤ 9223372036854775807) :
    Calls Tryz.prog 39 #[.pointer (some ⟨p, 0, none⟩), fv, .pointer (some ⟨d, 0, none⟩), .agg #[.int .i64 6, .int .i64 n, .string x, .string y, .slice va vn vc]] w (BEnd w0 O p m d q g z) := by
  have hym : y.size ≤ maxLen := by unfold maxLen; omega
  obtain ⟨W, hW⟩ : ∃ W, w.alloc (.cells #[.int .i64 6, .int .i64 n, .string x, .string y, .slice va vn vc] 29) = W := ⟨_, rfl⟩
  have bW : Below w.heap.size w W := by rw [← hW]; exact bal _ _
  have hP := h.keep bW
  have ho : W.heap[w.heap.size]? = some (pObj 6 n x y va vn vc) := by rw [← hW]; exact heap_alloc_new _ _
  have HW : Hid (w.alloc (.cells #[.int .i64 6, .int .i64 n, .string x, .string y, .slice va vn vc] 29) = W) := hW
  have hln := lis_len' z s x
  have hl4 := on_len' h.on
  obtain ⟨s2, hs2⟩ : ∃ s2, (askZ z s []).2.2 = s2 := ⟨_, rfl⟩
  obtain ⟨R, hR⟩ : ∃ R, lisZ z s x = R := ⟨_, rfl⟩
  rw [hR] at hln
  obtain ⟨rl, re⟩ := R
  have k1 := pr_list1 hP hb hx
  rw [hs2, hR] at k1
  have K : Hid (Calls Tryz.prog 66 #[.pointer (some ⟨p, 0, none⟩), .string x] W fun e w' => ∃ (a : Option Addr) (c : Nat) (M : List Sv), e = .returned (.tuple #[.slice a M.length c, .int .i64 re]) ∧ pC w' w.heap.size n x y va vn vc ∧ Hid (Calls Tryz.prog 67 #[.pointer (some ⟨d, 0, none⟩), .string x] w' fun e w'' => ∃ (a2 : Option Addr) (c2 : Nat) (M2 : List Sv), e = .returned (.tuple #[.slice a2 M2.length c2, .int .i64 re]) ∧ Hid (Calls Tryz.prog 68 #[.slice a M.length c, .slice a2 M2.length c2] w'' fun e w3 => e = .returned (.bool true) ∧ Hid (Pr w0 w3 O p m d q g s2 s2 (tickO z) (tickO z))))) := by
    refine k1.mono ?_
    rintro e w' ⟨⟨v, M, rfl, j0, j9⟩, j1, j2⟩
    obtain ⟨a, c, rfl, _⟩ := j0.ss
    refine ⟨a, c, M, rfl, pC_of ((kdd j2 w.heap.size _ ho).trans ho), ?_⟩
    have k2 := pr_list2 j1 hb hx
    rw [hs2, hR] at k2
    refine k2.mono ?_
    rintro e w'' ⟨⟨v2, M2, rfl, l0, l9⟩, l1, _, l2⟩
    obtain ⟨a2, c2, rfl, hs2'⟩ := l0.ss
    refine ⟨a2, c2, M2, rfl, ?_⟩
    obtain ⟨a', c', e', hs1'⟩ := (l2.sown j0).ss
    injection e' with e1 _ e3
    subst e1; subst e3
    have m1 : M.length = rl.length := by have := congrArg List.length j9; simpa using this
    have m2 : M2.length = rl.length := by have := congrArg List.length l9; simpa using this
    have m3 : rl.length ≤ s.fs.length := hln
    refine (texts_any a c M a2 c2 M2 w'' hs1' hs2' (by omega) (by omega)).mono ?_
    rintro e w3 ⟨rfl, nd, rfl⟩
    refine ⟨?_, l1.keep (bdn' _ _)⟩
    rw [j9, l9]
    simp
  clear k1 hs2 hR ho hP bW h hb hi hvn hym hW hln hl4
  go_enter Tryz.func39, Tryz.ntmps39
  go_wp2_with fail
  rw [HW.out]
  obtain ⟨bx, hbx⟩ : ∃ bx, w.heap.size = bx := ⟨_, rfl⟩
  rw [hbx] at K ⊢
  clear HW hbx
  go_at_call 66
  refine K.out.mono ?_
  rintro e w5 ⟨a, c, M, rfl, ⟨p1, p2, p3, p4⟩, HK⟩
  clear K
  obtain ⟨ml, hml⟩ : ∃ ml, M.length = ml := ⟨_, rfl⟩
  rw [hml] at HK ⊢
  clear hml
  go_wp2_with fail
  go_at_call 67
  refine HK.out.mono ?_
  rintro e w6 ⟨a2, c2, M2, rfl, HT⟩
  obtain ⟨ml2, hml⟩ : ∃ ml2, M2.length = ml2 := ⟨_, rfl⟩
  rw [hml] at HT ⊢
  clear HK hml p1 p2 p3 p4
  go_wp2_with fail
  go_at_call 68
  refine HT.out.mono ?_
  rintro e w7 ⟨rfl, HE⟩
  clear HT
  go_wp2
  go_ret
  exact ⟨rfl, _, _, HE.out, fun j => ZN.tick⟩
set_option maxHeartbeats 8000000 in
theorem bo12 (w0 w : World) (O : Ot) (p m d : Nat) (kq kg : Nat) (s : St) (zz : Fz) (n : Int) (x y : ByteArray) (va : Option Addr) (vn vc : Nat) (b : ByteArray) (h : Pr w0 w O p m d (some kq) (some kg) s s (some zz) (some zz)) (hb : Zb (some zz)) (hx : x.size ≤ maxLen) (hy : y.size ≤ 1000) (hi : Inp w0 va vn vc b) (hvn : vn ≤ maxLen) (hn0 : -9223372036854775808 ≤ n) (hn1 : n ≤ 9223372036854775807) :
    Calls Tryz.prog 39 #[.pointer (some ⟨p, 0, none⟩), .pointer (some ⟨kq, 0, none⟩), .pointer (some ⟨d, 0, none⟩), .agg #[.int .i64 12, .int .i64 n, .string x, .string y, .slice va vn vc]] w (BEnd w0 O p m d (some kq) (some kg) (some zz)) := by
  have hym : y.size ≤ maxLen := by unfold maxLen; omega
  obtain ⟨W, hW⟩ : ∃ W, w.alloc (.cells #[.int .i64 12, .int .i64 n, .string x, .string y, .slice va vn vc] 29) = W := ⟨_, rfl⟩
  have bW : Below w.heap.size w W := by rw [← hW]; exact bal _ _
  have hP := h.keep bW
  have ho : W.heap[w.heap.size]? = some (pObj 12 n x y va vn vc) := by rw [← hW]; exact heap_alloc_new _ _
  have HW : Hid (w.alloc (.cells #[.int .i64 12, .int .i64 n, .string x, .string y, .slice va vn vc] 29) = W) := hW
  have K : Hid (Calls Tryz.prog 23 #[.pointer (some ⟨kq, 0, none⟩), .int .i64 n] W fun e w' => e = .returned (.tuple #[]) ∧ pC w' w.heap.size n x y va vn vc ∧ Hid (w'.cell? ⟨d, 2, none⟩ = some (.pointer (some ⟨kg, 0, none⟩)) ∧ pC w'.drew w.heap.size n x y va vn vc) ∧ Hid (Calls Tryz.prog 75 #[.pointer (some ⟨kg, 0, none⟩), .int .i64 n] w'.drew fun e w'' => e = .returned (.tuple #[]) ∧ (w''.cell? ⟨d, 2, none⟩ = some (.pointer (some ⟨kg, 0, none⟩)) ∧ w''.cell? ⟨w.heap.size, 1, none⟩ = some (.int .i64 n)) ∧ Hid (Pr w0 w'' O p m d (some kq) (some kg) s s (some ⟨n, 0, false⟩) (some ⟨n, 0, false⟩)))) := by
    refine (pr_set1 hP n).mono ?_
    rintro e w' ⟨rfl, j1, j2⟩
    have h1 := (kdd j2 w.heap.size _ ho).trans ho
    obtain ⟨a9, c9, L9, hc9⟩ := j1.cell
    refine ⟨rfl, pC_of h1, ⟨cell_of_row w' d 2 _ _ _ hc9, pC_of h1⟩, ?_⟩
    have j3 := j1.keep (Below.refl _ _).drew
    refine (pr_set2 j3 n).mono ?_
    rintro e w'' ⟨rfl, l1, l2⟩
    have h2 : w''.heap[w.heap.size]? = some (pObj 12 n x y va vn vc) := (kdd l2 w.heap.size _ h1).trans h1
    obtain ⟨a8, c8, L8, hc8⟩ := l1.cell
    exact ⟨rfl, ⟨cell_of_row w'' d 2 _ _ _ hc8, cell_of_row w'' w.heap.size 1 _ _ _ h2⟩, l1⟩
  clear ho hP bW h hb hi hvn hym hW
  go_enter Tryz.func39, Tryz.ntmps39
  go_wp2_with fail
  rw [HW.out]
  obtain ⟨bx, hbx⟩ : ∃ bx, w.heap.size = bx := ⟨_, rfl⟩
  rw [hbx] at K ⊢
  clear HW hbx
  go_at_call 23
  refine K.out.mono ?_
  rintro e w5 ⟨rfl, ⟨p1, p2, p3, p4⟩, HD2, HK⟩
  have HS9 : Hid (w5.drew.cell? ⟨d, 2, none⟩ = some (.pointer (some ⟨kg, 0, none⟩)) ∧ w5.drew.cell? ⟨bx, 1, none⟩ = some (.int .i64 n)) := ⟨HD2.out.1, p1⟩
  clear K HD2 p1 p2 p3 p4
  go_wp2_with fail
  go_region_held3 (fun Y => Y.cell? ⟨d, 2, none⟩ = some (.pointer (some ⟨kg, 0, none⟩)) ∧ Y.cell? ⟨bx, 1, none⟩ = some (.int .i64 n))
    (first | with_reducible exact HS9.out | with_reducible exact p5)
    (first | (go_at_call 75; with_reducible refine HK.out.mono ?_; rintro e w6 ⟨rfl, p5, HE⟩))
  go_wp2
  go_ret
  exact ⟨rfl, _, _, HE.out, fun j _ => ⟨_, rfl, Int.le_refl _, by show (0 : Int) ≤ _; omega⟩⟩

set_option maxHeartbeats 8000000 in
theorem box (w0 w : World) (O : Ot) (p m d : Nat) (q g : Option Nat) (s : St) (z : Option Fz) (fv : Value) (dv n : Int) (x y : ByteArray) (va : Option Addr) (vn vc : Nat) (b : ByteArray) (h : Pr w0 w O p m d q g s s z z) (hb : Zb z) (hx : x.size ≤ maxLen) (hy : y.size ≤ 1000) (hi : Inp w0 va vn vc b) (hvn : vn ≤ maxLen) (hn0 : -9223372036854775808 ≤ n) (hn1 : n ≤ 9223372036854775807) (hdv : dv < 0 ∨ 12 < dv) :
    Calls Tryz.prog 39 #[.pointer (some ⟨p, 0, none⟩), fv, .pointer (some ⟨d, 0, none⟩), .agg #[.int .i64 dv, .int .i64 n, .string x, .string y, .slice va vn vc]] w (BEnd w0 O p m d q g z) := by
  have hym : y.size ≤ maxLen := by unfold maxLen; omega
  obtain ⟨W, hW⟩ : ∃ W, w.alloc (.cells #[.int .i64 dv, .int .i64 n, .string x, .string y, .slice va vn vc] 29) = W := ⟨_, rfl⟩
  have bW : Below w.heap.size w W := by rw [← hW]; exact bal _ _
  have hP := h.keep bW
  have ho : W.heap[w.heap.size]? = some (pObj dv n x y va vn vc) := by rw [← hW]; exact heap_alloc_new _ _
  have HW : Hid (w.alloc (.cells #[.int .i64 dv, .int .i64 n, .string x, .string y, .slice va vn vc] 29) = W) := hW
  have g0 : (dv == 0) = false := by rw [beq_eq_false_iff_ne]; omega
  have g1 : (dv == 1) = false := by rw [beq_eq_false_iff_ne]; omega
  have g2 : (dv == 2) = false := by rw [beq_eq_false_iff_ne]; omega
  have g3 : (dv == 3) = false := by rw [beq_eq_false_iff_ne]; omega
  have g4 : (dv == 4) = false := by rw [beq_eq_false_iff_ne]; omega
  have g5 : (dv == 5) = false := by rw [beq_eq_false_iff_ne]; omega
  have g6 : (dv == 6) = false := by rw [beq_eq_false_iff_ne]; omega
  have g7 : (dv == 7) = false := by rw [beq_eq_false_iff_ne]; omega
  have g8 : (dv == 8) = false := by rw [beq_eq_false_iff_ne]; omega
  have g9 : (dv == 9) = false := by rw [beq_eq_false_iff_ne]; omega
  have ga : (dv == 10) = false := by rw [beq_eq_false_iff_ne]; omega
  have gb : (dv == 11) = false := by rw [beq_eq_false_iff_ne]; omega
  have gc : (dv == 12) = false := by rw [beq_eq_false_iff_ne]; omega
  have HP : Hid (Pr w0 (w.alloc (.cells #[.int .i64 dv, .int .i64 n, .string x, .string y, .slice va vn vc] 29)) O p m d q g s s z z) := by rw [HW.out]; exact hP
  clear ho hP bW h hb hi hvn hym hdv hW HW
  go_enter Tryz.func39, Tryz.ntmps39
  go_wp2
  go_ret
  exact ⟨rfl, _, _, HP.out, fun j => ZN.same⟩
/-- Whichever deed. -/
theorem bo_any (w0 w : World) (O : Ot) (p m d : Nat) (kq kg : Nat) (s : St) (zz : Fz) (dv n : Int) (x y : ByteArray) (va : Option Addr) (vn vc : Nat) (b : ByteArray) (h : Pr w0 w O p m d (some kq) (some kg) s s (some zz) (some zz)) (hb : Zb (some zz)) (hx : x.size ≤ maxLen) (hy : y.size ≤ 1000) (hi : Inp w0 va vn vc b) (hvn : vn ≤ maxLen) (hn0 : -9223372036854775808 ≤ n) (hn1 : n ≤ 9223372036854775807) :
    Calls Tryz.prog 39 #[.pointer (some ⟨p, 0, none⟩), .pointer (some ⟨kq, 0, none⟩), .pointer (some ⟨d, 0, none⟩), .agg #[.int .i64 dv, .int .i64 n, .string x, .string y, .slice va vn vc]] w (BEnd w0 O p m d (some kq) (some kg) (some zz)) := by
  by_cases hd : dv < 0 ∨ 12 < dv
  · exact box w0 w O p m d _ _ s _ _ dv n x y va vn vc b h hb hx hy hi hvn hn0 hn1 hd
  have : dv = 0 ∨ dv = 1 ∨ dv = 2 ∨ dv = 3 ∨ dv = 4 ∨ dv = 5 ∨ dv = 6 ∨ dv = 7 ∨ dv = 8 ∨ dv = 9 ∨ dv = 10 ∨ dv = 11 ∨ dv = 12 := by omega
  rcases this with rfl | rfl | rfl | rfl | rfl | rfl | rfl | rfl | rfl | rfl | rfl | rfl | rfl
  · exact bo0 w0 w O p m d _ _ s _ _ n x y va vn vc b h hb hx hy hi hvn hn0 hn1
  · exact bo1 w0 w O p m d _ _ s _ _ n x y va vn vc b h hb hx hy hi hvn hn0 hn1
  · exact bo2 w0 w O p m d _ _ s _ _ n x y va vn vc b h hb hx hy hi hvn hn0 hn1
  · exact bo3 w0 w O p m d _ _ s _ _ n x y va vn vc b h hb hx hy hi hvn hn0 hn1
  · exact bo4 w0 w O p m d _ _ s _ _ n x y va vn vc b h hb hx hy hi hvn hn0 hn1
  · exact bo5 w0 w O p m d _ _ s _ _ n x y va vn vc b h hb hx hy hi hvn hn0 hn1
  · exact bo6 w0 w O p m d _ _ s _ _ n x y va vn vc b h hb hx hy hi hvn hn0 hn1
  · by_cases hbit : bits .and .i64 n 1 = 1
    · exact bo7t w0 w O p m d _ _ s _ _ n x y va vn vc b h hb hx hy hi hvn hn0 hn1 hbit
    · exact bo7f w0 w O p m d _ _ s _ _ n x y va vn vc b h hb hx hy hi hvn hn0 hn1 hbit
  · exact bo8 w0 w O p m d _ _ s _ _ n x y va vn vc b h hb hx hy hi hvn hn0 hn1
  · exact bo9 w0 w O p m d _ _ s _ _ n x y va vn vc b h hb hx hy hi hvn hn0 hn1
  · exact bo10 w0 w O p m d _ _ s _ _ n x y va vn vc b h hb hx hy hi hvn hn0 hn1
  · exact bo11 w0 w O p m d _ _ s _ _ n x y va vn vc b h hb hx hy hi hvn hn0 hn1
  · exact bo12 w0 w O p m d kq kg s zz n x y va vn vc b h hb hx hy hi hvn hn0 hn1
end Go.Proofs.YtebngmgdciahiaaGreatDoor
