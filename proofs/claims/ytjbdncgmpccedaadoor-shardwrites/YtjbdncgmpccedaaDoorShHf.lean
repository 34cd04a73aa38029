/-
  What the document's MayHead answers, way by way.
-/
import Derived.Test.YtjbdncgmpccedaaDoorShH
namespace Go.Proofs.YtjbdncgmpccedaaDoor
open Go.RowKit
attribute [local go_sem ↓] Go.wp_at_zero Go.wp_at_succ
set_option linter.unusedVariables false

set_option maxRecDepth 100000 in
set_option maxHeartbeats 6000000 in
theorem rmay_w4 (K M I B S D : Int) (w : World) (a0 : 1 ≤ K) (a1 : 1 ≤ M) (a2 : K ≤ 255) (a3 : M ≤ 255 - K) (d : decide (0 ≤ I) = false) (k1 : -9223372036854775808 ≤ K) (k2 : K ≤ 9223372036854775807) (m1 : -9223372036854775808 ≤ M) (m2 : M ≤ 9223372036854775807) :
    Calls Tryd.prog 12 #[hv K M I B S D] w fun e w' => e = .returned (.bool false) ∧ Below w.heap.size w w' := by
  obtain ⟨W, hbx, ⟨c0, c1, c2, c3, c4, c5⟩, hb⟩ := box_head w 23 K M I B S D
  unfold hv
  have HB : Hid (Below w.heap.size w W) := hb
  clear hb
  go_enter Tryd.func12, Tryd.ntmps12
  go_wp2
  go_ret
  exact ⟨rfl, HB.out⟩
end Go.Proofs.YtjbdncgmpccedaaDoor
