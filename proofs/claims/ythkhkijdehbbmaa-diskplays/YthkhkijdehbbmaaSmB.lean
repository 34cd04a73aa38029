/-
  The program's fuse: whether it is blown; one more operation is counted.
-/
import Derived.Test.YthkhkijdehbbmaaSmA
set_option maxRecDepth 100000
namespace Go.Proofs.Ythkhkijdehbbmaa
open Go.RowKit Dk Nm
attribute [local go_sem ↓] Go.wp_at_zero Go.wp_at_succ
set_option linter.unusedVariables false

/-- Is it blown? -/
def blB : Option Fz → Bool
  | none => false
  | some z => z.blown
def tickO : Option Fz → Option Fz
  | none => none
  | some z => if z.blown = true then some z else some (tick z)
set_option maxHeartbeats 2000000 in
theorem blown_any (q : Option Nat) (z : Option Fz) (w : World) (hz : FZ w q z) :
    Calls Try.prog 22 #[.pointer (q.map fun k => ⟨k, 0, none⟩)] w fun e w' => e = .returned (.bool (blB z)) ∧ ∃ n, w' = w.drewN n := by
  cases q with
  | none =>
    cases z with
    | some z => exact absurd hz (by unfold FZ; exact id)
    | none =>
      dsimp only [Option.map]
      unfold blB
      clear hz
      go_enter Try.func22, Try.ntmps22
      go_wp2_with fail
      go_quiet (fail)
      go_wp2
      go_ret
      exact ⟨rfl, nq, rfl⟩
  | some k =>
    cases z with
    | none => exact absurd hz (by unfold FZ; exact id)
    | some z =>
      obtain ⟨zn, zd, zb⟩ := z
      obtain ⟨ho, hb⟩ := hz
      dsimp only at ho hb
      have z0 := cell_of_row w k 0 _ _ _ ho
      have z1 := cell_of_row w k 1 _ _ _ ho
      simp only [List.getElem?_toArray, List.getElem?_cons_zero, List.getElem?_cons_succ] at z0 z1
      dsimp only [Option.map]
      show Calls Try.prog _ _ w fun e w' => e = .returned (.bool zb) ∧ ∃ n, w' = w.drewN n
      clear ho
      by_cases h0 : 0 < zn
      · by_cases h1 : zn ≤ zd
        · rw [decide_eq_true ⟨h0, h1⟩] at hb
          subst hb
          have d0 : decide (0 < zn) = true := decide_eq_true h0
          have d1 : decide (zn ≤ zd) = true := decide_eq_true h1
          go_enter Try.func22, Try.ntmps22
          go_wp2_with fail
          go_quiet (fail)
          go_wp2
          go_ret
          exact ⟨rfl, nq, rfl⟩
        · rw [decide_eq_false (fun h => h1 h.2)] at hb
          subst hb
          have d0 : decide (0 < zn) = true := decide_eq_true h0
          have d1 : decide (zn ≤ zd) = false := decide_eq_false h1
          go_enter Try.func22, Try.ntmps22
          go_wp2_with fail
          go_quiet (fail)
          go_wp2
          go_ret
          exact ⟨rfl, nq, rfl⟩
      · rw [decide_eq_false (fun h => h0 h.1)] at hb
        subst hb
        have d0 : decide (0 < zn) = false := decide_eq_false h0
        go_enter Try.func22, Try.ntmps22
        go_wp2_with fail
        go_quiet (fail)
        go_wp2
        go_ret
        exact ⟨rfl, nq, rfl⟩

theorem FZ.keep {w w' : World} {q : Option Nat} {z : Option Fz} (h : FZ w q z) (hb : Below w.heap.size w w') : FZ w' q z := by
  cases q with
  | none => cases z with
    | none => trivial
    | some z => exact absurd h (by unfold FZ; exact id)
  | some k => cases z with
    | none => exact absurd h (by unfold FZ; exact id)
    | some z => exact ⟨(hb.block k (Array.getElem?_eq_some_iff.1 h.1).1).trans h.1, h.2⟩
theorem FZ.upd {M : Nat → Prop} {w w' : World} {q : Option Nat} {z : Option Fz} (h : FZ w q z) (u : Upd M w w') (hm : ∀ k, q = some k → ¬ M k) : FZ w' q z := by
  cases q with
  | none => cases z with
    | none => trivial
    | some z => exact absurd h (by unfold FZ; exact id)
  | some k => cases z with
    | none => exact absurd h (by unfold FZ; exact id)
    | some z => exact ⟨(u.block k (Array.getElem?_eq_some_iff.1 h.1).1 (hm k rfl)).trans h.1, h.2⟩
/-- What the fuse's block is. -/
theorem FZ.type {w : World} {k : Nat} {z : Option Fz} (h : FZ w (some k) z) : ∃ cs, w.heap[k]? = some (.cells cs 68 (0, 0)) := by
  cases z with
  | none => exact absurd h (by unfold FZ; exact id)
  | some z => exact ⟨_, h.1⟩
set_option maxHeartbeats 2000000 in
theorem count_any (q : Option Nat) (z : Option Fz) (w : World) (hz : FZ w q z) (hb : Zb z) :
    Calls Try.prog 51 #[.pointer (q.map fun k => ⟨k, 0, none⟩)] w fun e w' => e = .returned (.bool (!blB z)) ∧ FZ w' q (tickO z) ∧ Upd (fun k => q = some k) w w' := by
  have cB := blown_any q z w hz
  cases q with
  | none =>
    cases z with
    | some z => exact absurd hz (by unfold FZ; exact id)
    | none =>
      dsimp only [Option.map] at cB ⊢
      unfold blB at cB ⊢
      clear hz
      go_enter Try.func51, Try.ntmps51
      go_wp2_with fail
      go_at_call 22
      refine cB.mono ?_
      rintro e w1 ⟨rfl, n, rfl⟩
      go_wp2
      go_ret
      exact ⟨rfl, trivial, (Upd.refl _ _).drewN n⟩
  | some k =>
    cases z with
    | none => exact absurd hz (by unfold FZ; exact id)
    | some z =>
      have HZ : Hid (FZ w (some k) (some z)) := hz
      obtain ⟨ho, hbb⟩ := hz
      obtain ⟨b0, b1⟩ := hb z rfl
      dsimp only [Option.map] at cB ⊢
      unfold blB at cB ⊢
      dsimp only at cB ⊢
      cases hx : z.blown with
      | true =>
        rw [hx] at cB
        have HT : Hid (tickO (some z) = some z) := by unfold Hid tickO; dsimp only; rw [if_pos hx]
        clear ho hbb hx
        go_enter Try.func51, Try.ntmps51
        go_wp2_with fail
        go_at_call 22
        refine cB.mono ?_
        rintro e w1 ⟨rfl, n, rfl⟩
        go_wp2
        go_ret
        exact ⟨rfl, by rw [HT.out]; exact HZ.out.keep (bdn' _ _), (Upd.refl _ _).drewN n⟩
      | false =>
        rw [hx] at cB
        have HT : Hid (tickO (some z) = some (tick z)) := by unfold Hid tickO; dsimp only; rw [if_neg (by rw [hx]; decide)]
        obtain ⟨zn, zd, zb⟩ := z
        dsimp only at ho b0 b1
        have HO : Hid (w.heap[k]? = some (.cells #[.int .i64 zn, .int .i64 zd] 68)) := ho
        clear ho hbb hx
        go_enter Try.func51, Try.ntmps51
        go_wp2_with fail
        go_at_call 22
        refine cB.mono ?_
        rintro e w1 ⟨rfl, n, hw1⟩
        have HU : Hid (Upd (fun j => some k = some j) w w1) := by rw [hw1]; exact (Upd.refl _ _).drewN n
        have h1 : w1.heap[k]? = some (.cells #[.int .i64 zn, .int .i64 zd] 68) := by rw [hw1]; exact HO.out
        clear cB hw1
        have z1 := cell_of_row w1 k 1 _ _ _ h1
        have f1 := frozen_of_row w1 k 1 _ _ h1
        simp only [List.getElem?_toArray, List.getElem?_cons_zero, List.getElem?_cons_succ] at z1
        have wz : IntKind.i64.wrap (zd + 1) = zd + 1 := by rw [IntKind.wrap_i64]; omega
        have HN : Hid (FZ (w1.setCell ⟨k, 1, none⟩ (.int .i64 (zd + 1))) (some k) (some (tick ⟨zn, zd, zb⟩))) := ⟨heap_setCell_same w1 k 1 _ _ _ h1, rfl⟩
        have HV : Hid (Upd (fun j => some k = some j) w (w1.setCell ⟨k, 1, none⟩ (.int .i64 (zd + 1)))) := HU.out.put (p := ⟨k, 1, none⟩) (.inl rfl) _
        clear h1
        go_wp2
        go_ret
        exact ⟨rfl, by rw [HT.out]; exact HN.out, HV.out⟩
end Go.Proofs.Ythkhkijdehbbmaa
