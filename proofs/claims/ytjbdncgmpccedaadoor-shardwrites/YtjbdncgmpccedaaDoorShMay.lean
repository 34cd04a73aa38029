/-
  What the document's MayHead answers, in one sentence.
-/
import Derived.Test.YtjbdncgmpccedaaDoorShHa
import Derived.Test.YtjbdncgmpccedaaDoorShHb
import Derived.Test.YtjbdncgmpccedaaDoorShHc
import Derived.Test.YtjbdncgmpccedaaDoorShHd
import Derived.Test.YtjbdncgmpccedaaDoorShHe
import Derived.Test.YtjbdncgmpccedaaDoorShHf
namespace Go.Proofs.YtjbdncgmpccedaaDoor
open Go.RowKit
attribute [local go_sem ↓] Go.wp_at_zero Go.wp_at_succ
set_option linter.unusedVariables false

theorem rmay_yes (K M I B S D : Int) (w : World) (k1 : -9223372036854775808 ≤ K) (k2 : K ≤ 9223372036854775807) (m1 : -9223372036854775808 ≤ M) (m2 : M ≤ 9223372036854775807) (h : MayH K M I B S D) :
    Calls Tryd.prog 12 #[hv K M I B S D] w fun e w' => e = .returned (.bool true) ∧ Below w.heap.size w w' := by
  obtain ⟨a0, a1, a2, a3, a4, a5, a6, a7, a8, a9, a10, a11⟩ := h
  exact rmay_w12 K M I B S D w a0 a1 a2 a3 a4 a5 a6 a7 a8 a9 a10 a11 k1 k2 m1 m2
theorem rmay_no (K M I B S D : Int) (w : World) (k1 : -9223372036854775808 ≤ K) (k2 : K ≤ 9223372036854775807) (m1 : -9223372036854775808 ≤ M) (m2 : M ≤ 9223372036854775807) (h : ¬ MayH K M I B S D) :
    Calls Tryd.prog 12 #[hv K M I B S D] w fun e w' => e = .returned (.bool false) ∧ Below w.heap.size w w' := by
  unfold MayH at h
  by_cases c0 : 1 ≤ K
  rotate_left
  · exact rmay_w0 K M I B S D w  (decide_eq_false c0) k1 k2 m1 m2
  by_cases c1 : 1 ≤ M
  rotate_left
  · exact rmay_w1 K M I B S D w c0 (decide_eq_false c1) k1 k2 m1 m2
  by_cases c2 : K ≤ 255
  rotate_left
  · exact rmay_w2 K M I B S D w c0 c1 (decide_eq_false c2) k1 k2 m1 m2
  by_cases c3 : M ≤ 255 - K
  rotate_left
  · exact rmay_w3 K M I B S D w c0 c1 c2 (decide_eq_false c3) k1 k2 m1 m2
  by_cases c4 : 0 ≤ I
  rotate_left
  · exact rmay_w4 K M I B S D w c0 c1 c2 c3 (decide_eq_false c4) k1 k2 m1 m2
  by_cases c5 : I < K + M
  rotate_left
  · exact rmay_w5 K M I B S D w c0 c1 c2 c3 c4 (decide_eq_false c5) k1 k2 m1 m2
  by_cases c6 : 16 ≤ B
  rotate_left
  · exact rmay_w6 K M I B S D w c0 c1 c2 c3 c4 c5 (decide_eq_false c6) k1 k2 m1 m2
  by_cases c7 : B ≤ 4096
  rotate_left
  · exact rmay_w7 K M I B S D w c0 c1 c2 c3 c4 c5 c6 (decide_eq_false c7) k1 k2 m1 m2
  by_cases c8 : 0 ≤ S
  rotate_left
  · exact rmay_w8 K M I B S D w c0 c1 c2 c3 c4 c5 c6 c7 (decide_eq_false c8) k1 k2 m1 m2
  by_cases c9 : S ≤ 65536
  rotate_left
  · exact rmay_w9 K M I B S D w c0 c1 c2 c3 c4 c5 c6 c7 c8 (decide_eq_false c9) k1 k2 m1 m2
  by_cases c10 : 0 ≤ D
  rotate_left
  · exact rmay_w10 K M I B S D w c0 c1 c2 c3 c4 c5 c6 c7 c8 c9 (decide_eq_false c10) k1 k2 m1 m2
  by_cases c11 : D ≤ 2147483647
  rotate_left
  · exact rmay_w11 K M I B S D w c0 c1 c2 c3 c4 c5 c6 c7 c8 c9 c10 (decide_eq_false c11) k1 k2 m1 m2
  exact absurd ⟨c0, c1, c2, c3, c4, c5, c6, c7, c8, c9, c10, c11⟩ h
end Go.Proofs.YtjbdncgmpccedaaDoor
