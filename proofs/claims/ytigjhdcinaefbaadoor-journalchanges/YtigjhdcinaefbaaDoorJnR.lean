/-
  What the document's MayVersion, May of layer 7 answer.
-/
import Derived.Test.YtigjhdcinaefbaaDoorJnV
import Derived.BigGuardPart
namespace Go.Proofs.YtigjhdcinaefbaaDoor
open Go.RowKit Crc
attribute [local go_sem ↓] Go.wp_at_zero Go.wp_at_succ
set_option linter.unusedVariables false

set_option maxRecDepth 100000 in
set_option maxHeartbeats 4000000 in
theorem rmayVer_any (v : Ver) (w : World) :
    Calls Tryd.prog 39 #[vv v] w fun e w' => e = .returned (.bool (mayV v)) ∧ Below w.heap.size w w' := by
  obtain ⟨i, mr, z, s⟩ := v
  obtain ⟨W, hbx, ⟨c0, c1, c2, c3⟩, hb⟩ := box_ver w 46 ⟨i, mr, z, s⟩
  dsimp only at hbx c0 c1 c2 c3
  have HB : Hid (Below w.heap.size w W) := hb
  clear hb
  unfold vv
  dsimp only
  by_cases h1 : 0 ≤ i
  rotate_left
  · have HM : Hid (mayV ⟨i, mr, z, s⟩ = false) := by unfold mayV; exact decide_eq_false (fun q => h1 q.1)
    have g1 : decide (0 ≤ i) = false := decide_eq_false h1
    rw [HM.out]
    clear h1 HM
    go_enter Tryd.func39, Tryd.ntmps39
    go_wp2
    go_ret
    exact ⟨rfl, HB.out⟩
  by_cases h2 : i ≤ 2147483647
  rotate_left
  · have HM : Hid (mayV ⟨i, mr, z, s⟩ = false) := by unfold mayV; exact decide_eq_false (fun q => h2 q.2.1)
    have g1 : decide (i ≤ 2147483647) = false := decide_eq_false h2
    rw [HM.out]
    clear h2 HM
    go_enter Tryd.func39, Tryd.ntmps39
    go_wp2
    go_ret
    exact ⟨rfl, HB.out⟩
  by_cases h3 : 0 ≤ z
  rotate_left
  · have HM : Hid (mayV ⟨i, mr, z, s⟩ = false) := by unfold mayV; exact decide_eq_false (fun q => h3 q.2.2.1)
    have g1 : decide (0 ≤ z) = false := decide_eq_false h3
    rw [HM.out]
    clear h3 HM
    go_enter Tryd.func39, Tryd.ntmps39
    go_wp2
    go_ret
    exact ⟨rfl, HB.out⟩
  by_cases h4 : z ≤ 65536
  rotate_left
  · have HM : Hid (mayV ⟨i, mr, z, s⟩ = false) := by unfold mayV; exact decide_eq_false (fun q => h4 q.2.2.2.1)
    have g1 : decide (z ≤ 65536) = false := decide_eq_false h4
    rw [HM.out]
    clear h4 HM
    go_enter Tryd.func39, Tryd.ntmps39
    go_wp2
    go_ret
    exact ⟨rfl, HB.out⟩
  cases mr with
  | false =>
    have HM : Hid (mayV ⟨i, false, z, s⟩ = true) := by unfold mayV; exact decide_eq_true ⟨h1, h2, h3, h4, fun q => by cases q⟩
    rw [HM.out]
    clear HM
    go_enter Tryd.func39, Tryd.ntmps39
    go_wp2
    go_ret
    exact ⟨rfl, HB.out⟩
  | true =>
    by_cases h5 : z = 0
    rotate_left
    · rw [mayV_size i z s h5]
      have g1 : (z == 0) = false := by simp [h5]
      clear h5
      go_enter Tryd.func39, Tryd.ntmps39
      go_wp2
      go_ret
      exact ⟨rfl, HB.out⟩
    have g1 : (z == 0) = true := by simp [h5]
    by_cases h6 : s = 0
    rotate_left
    · rw [mayV_sum i z s h6]
      have g2 : ((s : Int) == 0) = false := by simp [h6]
      clear h5 h6
      go_enter Tryd.func39, Tryd.ntmps39
      go_wp2
      go_ret
      exact ⟨rfl, HB.out⟩
    · have HM : Hid (mayV ⟨i, true, z, s⟩ = true) := by unfold mayV; exact decide_eq_true ⟨h1, h2, h3, h4, fun _ => ⟨h5, h6⟩⟩
      rw [HM.out]
      have g2 : ((s : Int) == 0) = true := by simp [h6]
      clear h5 h6 HM
      go_enter Tryd.func39, Tryd.ntmps39
      go_wp2
      go_ret
      exact ⟨rfl, HB.out⟩
end Go.Proofs.YtigjhdcinaefbaaDoor
