/-
  What laws of layer 11 share: the first sentence (five bytes in two rows); rows of the program's own as rows of rows; Split, Join in one sentence.
-/
import Derived.Test.YtfifcghjbdooeaaSpF
set_option maxRecDepth 100000
set_option linter.unusedVariables false
namespace Go.Proofs.Ytfifcghjbdooeaa
open Go.RowKit
attribute [local go_sem ↓] Go.wp_at_zero Go.wp_at_succ

/-- One, two, three .. -/
def ones (i : Nat) : Nat := if i < 5 then i + 1 else 0
theorem ones_lt (i : Nat) : ones i < 256 := by unfold ones; split <;> omega
theorem lit5 (w : World) : Row (w.alloc (.cells #[.int .u8 1, .int .u8 2, .int .u8 3, .int .u8 4, .int .u8 5] 5)) (some ⟨w.heap.size, 0, none⟩) 5 ones :=
  ⟨ones_lt, fun _ => ⟨w.heap.size, 0, rfl, fun i hi => by
    rw [Nat.zero_add, World.cell?_alloc_new]
    match i, hi with
    | 0, _ => rfl
    | 1, _ => rfl
    | 2, _ => rfl
    | 3, _ => rfl
    | 4, _ => rfl⟩⟩
theorem str_row1 : str (spq ones 5 2 1 5 1) 3 = ⟨#[2, 4, 0]⟩ := by kernel_rfl
theorem str_all : str (jn (spq ones 5 2 1 5) 5 2 1) 5 = ⟨#[1, 2, 3, 4, 5]⟩ := by kernel_rfl
theorem ln_521 : ln 5 2 1 = 3 := by kernel_rfl

theorem awake_any (w : World) : Calls Try.prog 8 #[] w fun e w' => e = .returned (.bool true) ∧ Below w.heap.size w w' := by
  obtain ⟨W1, hW1⟩ : ∃ W1, w.alloc (.cells #[.int .u8 1, .int .u8 2, .int .u8 3, .int .u8 4, .int .u8 5] 5) = W1 := ⟨_, rfl⟩
  have r1 := lit5 w
  have b1 := bal w (.cells #[.int .u8 1, .int .u8 2, .int .u8 3, .int .u8 4, .int .u8 5] 5)
  rw [hW1] at r1 b1
  have cS := split_yes (some ⟨w.heap.size, 0, none⟩) 5 5 2 1 ones W1 r1 (fun e => by cases e) (Nat.le_refl _) (by unfold MayN; omega)
  rw [ln_521] at cS
  have HB1 : Hid (Below w.heap.size w W1) := b1
  clear r1 b1
  go_enter Try.func8, Try.ntmps8
  go_wp2_with fail
  go_at_call 9
  refine cS.mono ?_
  rintro e w2 ⟨h, rfl, hh, g2, b2⟩
  clear cS hW1
  have hB2 : B (spq ones 5 2 1 5) := fun i j => spq_lt ones_lt _ _ _ _ _ _
  have cJ := join_yes (some ⟨h, 0, none⟩) 5 2 2 1 _ _ _ _ w2 (g2.mat (by omega) hB2) (by unfold MayN; omega) (fun _ _ => ln_521.symm) (fun _ _ => Nat.le_refl _)
  have HG : Hid (Grid w2 h 2 3 (spq ones 5 2 1 5)) := g2
  have HB2 : Hid (Below w.heap.size w w2) := hop HB1.out b2
  clear g2 b2 hh hB2 HB1
  go_wp2_with fail
  go_at_call 11
  refine cJ.mono ?_
  rintro e w3 ⟨rfl, m3, b3⟩
  clear cJ
  have HB3 : Hid (Below w.heap.size w w3) := hop HB2.out b3
  have g3 := HG.out.keep b3
  have c1 := g3.hdr 1 (by omega)
  have q1 := conv_row (c := 3) (w := w3) (a := some ⟨h + 1 + 1, 0, none⟩) (n := 3) (f := spq ones 5 2 1 5 1) ⟨fun j => spq_lt ones_lt _ _ _ _ _ _, fun _ => ⟨h + 1 + 1, 0, rfl, fun j hj => by rw [Nat.zero_add]; exact g3.cell 1 (by omega) j hj⟩⟩ (fun e => by cases e)
  have q2 := conv_row (c := 5) (m3.row (fun i => jn_lt (fun i j => spq_lt ones_lt _ _ _ _ _ _) _ _ _ _)) (fun e => by cases e)
  rw [str_row1] at q1
  rw [str_all] at q2
  clear m3 b3 g3 HG HB2
  go_wp2
  go_ret
  exact ⟨rfl, HB3.out⟩
end Go.Proofs.Ytfifcghjbdooeaa
