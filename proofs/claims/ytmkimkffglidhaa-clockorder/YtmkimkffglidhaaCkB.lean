/-
  A clock through its calls; the layer's awake.
-/
import Derived.Test.YtmkimkffglidhaaCkA
import Derived.Laws.Rows
namespace Go.Proofs.Ytmkimkffglidhaa
open Go.RowKit
attribute [local go_sem ↓] Go.wp_at_zero Go.wp_at_succ
set_option linter.unusedVariables false

theorem hop {a b c : World} (h : Below a.heap.size a b) (k : Below b.heap.size b c) : Below a.heap.size a c := h.trans (k.mono h.size)
theorem bal (w : World) (o : Obj) : Below w.heap.size w (w.alloc o) := (Below.refl _ _).alloc (Nat.le_refl _) _
theorem bdn (w : World) (n : Nat) : Below w.heap.size w (w.drewN n) := ⟨rfl, rfl, rfl, Nat.le_refl _, fun _ _ => rfl⟩
theorem bld {B : Nat} {w w' : World} (h : Below B w w') (n : Nat) : Below B w (w'.drewN n) := ⟨h.os, h.tape, h.output, h.size, h.block⟩

theorem Ck.made (w : World) (b : Int) : Ck (w.alloc (.cells #[.int .i64 b, .int .i64 0] 44)) w.heap.size b 0 := heap_alloc_new _ _
theorem Ck.keep {w w' : World} {p : Nat} {b g : Int} (h : Ck w p b g) (k : Below w.heap.size w w') : Ck w' p b g := by
  unfold Ck at *
  rw [k.block p (by
    by_cases hp : p < w.heap.size
    · exact hp
    · rw [Array.getElem?_eq_none (by omega)] at h; cases h)]; exact h
theorem Ck.lt {w : World} {p : Nat} {b g : Int} (h : Ck w p b g) : p < w.heap.size := by
  unfold Ck at h
  by_cases hp : p < w.heap.size
  · exact hp
  · rw [Array.getElem?_eq_none (by omega)] at h; cases h
theorem Ck.step {w : World} {p : Nat} {b g : Int} (h : Ck w p b g) (n : Nat) (g' : Int) : Ck ((w.drewN n).setCell ⟨p, 1, none⟩ (.int .i64 g')) p b g' := by
  have := heap_setCell_same (w.drewN n) p 1 _ _ (.int .i64 g') h
  exact this
theorem Ck.other {w : World} {p q : Nat} {b g : Int} (h : Ck w p b g) (e : p ≠ q) (n : Nat) (v : Value) : Ck ((w.drewN n).setCell ⟨q, 1, none⟩ v) p b g := by
  unfold Ck at *
  rw [heap_setCell_other _ _ _ _ e]
  exact h

/-- Next, as it is used: the world behind it is known by the clock and by what lies below it. -/
theorem next_on (B p : Nat) (b g : Int) (w0 w : World) (h : Ck w p b g) (hB : B ≤ p) (hb : Below B w0 w) (h1 : 1 ≤ b) (h2 : b ≤ 32767) (h3 : 0 ≤ g) (h4 : g < 65535) :
    Calls Try.prog 14 #[.pointer (some ⟨p, 0, none⟩)] w fun e w' => e = .returned (.tuple #[.int .i64 (b * 65536 + (g + 1)), .bool true]) ∧ Ck w' p b (g + 1) ∧ Below B w0 w' := by
  refine (next_yes p b g w h h1 h2 h3 h4).mono ?_
  rintro e w' ⟨rfl, n, rfl⟩
  exact ⟨rfl, h.step n _, (bld hb n).setCell (p := ⟨p, 1, none⟩) hB _⟩
theorem last_on (B p : Nat) (b g : Int) (w0 w : World) (h : Ck w p b g) (hb : Below B w0 w) (h1 : 1 ≤ b) (h2 : b ≤ 32767) (h3 : 1 ≤ g) (h4 : g ≤ 65535) :
    Calls Try.prog 15 #[.pointer (some ⟨p, 0, none⟩)] w fun e w' => e = .returned (.int .i64 (b * 65536 + g)) ∧ Ck w' p b g ∧ Below B w0 w' := by
  refine (last_yes p b g w h h1 h2 h3 h4).mono ?_
  rintro e w' ⟨rfl, n, rfl⟩
  exact ⟨rfl, h.drewN n, bld hb n⟩

set_option maxHeartbeats 1000000 in
theorem awake_any (w : World) :
    Calls Try.prog 7 #[] w fun e w' => e = .returned (.bool true) ∧ Below w.heap.size w w' := by
  have cN := fun w => new_yes 1 w (by omega) (by omega)
  go_enter Try.func7, Try.ntmps7
  go_wp2_with fail
  go_at_call 12
  refine (cN _).mono ?_
  rintro e w1 ⟨rfl, hz⟩
  clear cN
  have k1 : Ck w1 w.heap.size 1 0 := by rw [← hz]; exact Ck.made _ _
  have b1 : Below w.heap.size w w1 := by rw [← hz]; exact bal _ _
  clear hz
  have c1 := next_on w.heap.size w.heap.size 1 0 w w1 k1 (Nat.le_refl _) b1 (by omega) (by omega) (by omega) (by omega)
  clear k1 b1
  go_wp2_with fail
  go_at_call 14
  refine c1.mono ?_
  rintro e w2 ⟨rfl, k2, b2⟩
  clear c1
  have c2 := next_on w.heap.size w.heap.size 1 1 w w2 k2 (Nat.le_refl _) b2 (by omega) (by omega) (by omega) (by omega)
  clear k2 b2
  go_wp2_with fail
  go_at_call 14
  refine c2.mono ?_
  rintro e w3 ⟨rfl, k3, b3⟩
  clear c2
  have c3 := last_on w.heap.size w.heap.size 1 2 w w3 k3 b3 (by omega) (by omega) (by omega) (by omega)
  clear k3 b3
  go_wp2_with fail
  go_at_call 15
  refine c3.mono ?_
  rintro e w4 ⟨rfl, k4, b4⟩
  clear c3
  have c4 := boot_any _ _ _ _ k4
  have HB : Hid (Below w.heap.size w w4) := b4
  clear k4 b4
  go_wp2_with fail
  go_at_call 16
  refine c4.mono ?_
  rintro e w5 ⟨rfl, rfl⟩
  clear c4
  go_wp2
  go_ret
  exact ⟨rfl, HB.out⟩
end Go.Proofs.Ytmkimkffglidhaa
