/-
  What shard.fits, readNumber, readHead answer.
-/
import Derived.Test.YtjbdncgmpccedaaDoorShF
namespace Go.Proofs.YtjbdncgmpccedaaDoor
open Go.RowKit Crc
attribute [local go_sem ↓] Go.wp_at_zero Go.wp_at_succ
set_option linter.unusedVariables false

theorem bdn (w : World) (n : Nat) : Below w.heap.size w (w.drewN n) := below_drewN (Below.refl _ _) n

set_option maxRecDepth 100000 in
theorem read_q (a : Option Addr) (c : Nat) (f : Nat → Nat) (w : World) (h : Row w a 4 f) :
    Calls Tryd.prog 36 #[.slice a 4 c] w fun e w' => e = .returned (.tuple #[.int .u32 (le4 f : Nat), .bool true]) ∧ ∃ k, w' = w.drewN k := by
  obtain ⟨b, o, rfl, hc⟩ := h.lies (by omega)
  have c0 := hc 0 (by omega)
  have c1 := hc 1 (by omega)
  have c2 := hc 2 (by omega)
  have c3 := hc 3 (by omega)
  simp only [Nat.add_zero] at c0
  have l0 := h.lt 0
  have l1 := h.lt 1
  have l2 := h.lt 2
  have l3 := h.lt 3
  have o1 : bits .or .u32 ((f 0 : Nat) : Int) (((f 1 : Nat) : Int) * 256) = ((f 0 + f 1 * 256 : Nat) : Int) := or_hi (f 0) (f 1) 8 (by omega) (by omega) (by omega)
  have o2 : bits .or .u32 ((f 0 + f 1 * 256 : Nat) : Int) (((f 2 : Nat) : Int) * 65536) = ((f 0 + f 1 * 256 + f 2 * 65536 : Nat) : Int) := or_hi _ (f 2) 16 (by omega) (by omega) (by omega)
  have o3 : bits .or .u32 ((f 0 + f 1 * 256 + f 2 * 65536 : Nat) : Int) (((f 3 : Nat) : Int) * 16777216) = ((f 0 + f 1 * 256 + f 2 * 65536 + f 3 * 16777216 : Nat) : Int) := or_hi _ (f 3) 24 (by omega) (by omega) (by omega)
  have HZ : Hid (f 0 + f 1 * 256 + f 2 * 65536 + f 3 * 16777216 = le4 f) := by unfold Hid le4; omega
  generalize f 0 + f 1 * 256 + f 2 * 65536 + f 3 * 16777216 = z3 at *
  generalize f 0 + f 1 * 256 + f 2 * 65536 = z2 at *
  generalize f 0 + f 1 * 256 = z1 at *
  clear hc h
  go_enter Tryd.func36, Tryd.ntmps36
  go_wp2
  go_quiet (fail)
  go_wp2
  go_ret2
  exact ⟨ret_t2 HZ.out rfl, _, rfl⟩

set_option maxRecDepth 100000 in
theorem readNum_q (a : Option Addr) (c : Nat) (f : Nat → Nat) (w : World) (h : Row w a 4 f) :
    Calls Tryd.prog 35 #[.slice a 4 c] w fun e w' => e = .returned (.int .i64 (le4 f : Nat)) ∧ ∃ k, w' = w.drewN k := by
  obtain ⟨b, o, rfl, hc⟩ := h.lies (by omega)
  have c0 := hc 0 (by omega)
  have c1 := hc 1 (by omega)
  have c2 := hc 2 (by omega)
  have c3 := hc 3 (by omega)
  simp only [Nat.add_zero] at c0
  have l0 := h.lt 0
  have l1 := h.lt 1
  have l2 := h.lt 2
  have l3 := h.lt 3
  have o1 : bits .or .u32 ((f 0 : Nat) : Int) (((f 1 : Nat) : Int) * 256) = ((f 0 + f 1 * 256 : Nat) : Int) := or_hi (f 0) (f 1) 8 (by omega) (by omega) (by omega)
  have o2 : bits .or .u32 ((f 0 + f 1 * 256 : Nat) : Int) (((f 2 : Nat) : Int) * 65536) = ((f 0 + f 1 * 256 + f 2 * 65536 : Nat) : Int) := or_hi _ (f 2) 16 (by omega) (by omega) (by omega)
  have o3 : bits .or .u32 ((f 0 + f 1 * 256 + f 2 * 65536 : Nat) : Int) (((f 3 : Nat) : Int) * 16777216) = ((f 0 + f 1 * 256 + f 2 * 65536 + f 3 * 16777216 : Nat) : Int) := or_hi _ (f 3) 24 (by omega) (by omega) (by omega)
  have HZ : Hid (f 0 + f 1 * 256 + f 2 * 65536 + f 3 * 16777216 = le4 f) := by unfold Hid le4; omega
  have lz : f 0 + f 1 * 256 + f 2 * 65536 + f 3 * 16777216 < 4294967296 := by omega
  generalize f 0 + f 1 * 256 + f 2 * 65536 + f 3 * 16777216 = z3 at *
  generalize f 0 + f 1 * 256 + f 2 * 65536 = z2 at *
  generalize f 0 + f 1 * 256 = z1 at *
  clear hc h
  go_enter Tryd.func35, Tryd.ntmps35
  go_wp2
  go_quiet (fail)
  go_wp2
  go_ret
  exact ⟨by rw [← HZ.out]; rfl, _, rfl⟩

set_option maxRecDepth 100000 in
theorem fits_q (a b : Option Addr) (n c c' : Nat) (f g : Nat → Nat) (w : World) (T : HalfT w) (h : Row w a n f) (h' : Row w b 4 g) (hn : n ≤ maxLen) :
    Calls Tryd.prog 34 #[.slice a n c, .slice b 4 c'] w fun e w' => e = .returned (.bool (decide (le4 g = sum n f))) ∧ ∃ k, w' = w.drewN k := by
  have cR := read_q b c' g w h'
  have cS : ∀ k, Calls Tryd.prog 31 #[.slice a n c] (w.drewN k) fun e w' => e = .returned (.int .u32 (sum n f : Nat)) ∧ w.drewN k = w' := fun k => sum_any a n c f (w.drewN k) (T.keep (bdn w k)) (h.keep (bdn w k)) hn
  have HD : Hid ((((le4 g : Nat) : Int) == ((sum n f : Nat) : Int)) = decide (le4 g = sum n f)) := by
    unfold Hid
    by_cases e : le4 g = sum n f
    · rw [decide_eq_true e, e]; simp
    · rw [decide_eq_false e]; simp; omega
  clear h h' T
  generalize le4 g = x at *
  generalize sum n f = y at *
  generalize decide (x = y) = d at *
  go_enter Tryd.func34, Tryd.ntmps34
  go_wp2_with fail
  go_at_call 36
  refine cR.mono ?_
  rintro e w' ⟨rfl, k, rfl⟩
  go_wp2_with fail
  go_at_call 31
  refine (cS k).mono ?_
  rintro e w' ⟨rfl, rfl⟩
  go_wp2
  go_ret
  exact ⟨by rw [← HD.out]; rfl, k, rfl⟩
end Go.Proofs.YtjbdncgmpccedaaDoor
