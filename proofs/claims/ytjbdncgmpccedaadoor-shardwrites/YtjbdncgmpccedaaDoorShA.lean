/-
  What shard.within, mayCode, May answer.
-/
import Derived.Test.YtjbdncgmpccedaaDoorShH
import Derived.Test.YtjbdncgmpccedaaDoorCrc
namespace Go.Proofs.YtjbdncgmpccedaaDoor
open Go.RowKit Crc
attribute [local go_sem ↓] Go.wp_at_zero Go.wp_at_succ
set_option linter.unusedVariables false

theorem within_yes (x l g : Int) (w : World) (h1 : l ≤ x) (h2 : x ≤ g) :
    Calls Tryd.prog 22 #[.int .i64 x, .int .i64 l, .int .i64 g] w fun e w' => e = .returned (.bool true) ∧ w = w' := by
  go_enter Tryd.func22, Tryd.ntmps22
  go_wp2
  go_ret
  exact ⟨rfl, rfl⟩
theorem within_no (x l g : Int) (w : World) (h : ¬ (l ≤ x ∧ x ≤ g)) :
    Calls Tryd.prog 22 #[.int .i64 x, .int .i64 l, .int .i64 g] w fun e w' => e = .returned (.bool false) ∧ w = w' := by
  by_cases h1 : l ≤ x
  · have h2 : decide (x ≤ g) = false := by simp; omega
    clear h
    go_enter Tryd.func22, Tryd.ntmps22
    go_wp2
    go_ret
    exact ⟨rfl, rfl⟩
  · have h2 : decide (l ≤ x) = false := by simp; omega
    clear h h1
    go_enter Tryd.func22, Tryd.ntmps22
    go_wp2
    go_ret
    exact ⟨rfl, rfl⟩
theorem mayCode_yes (K M : Int) (w : World) (h1 : 1 ≤ K) (h2 : K ≤ 255) (h3 : 1 ≤ M) (h4 : M ≤ 255 - K) :
    Calls Tryd.prog 21 #[.int .i64 K, .int .i64 M] w fun e w' => e = .returned (.bool true) ∧ w = w' := by
  go_enter Tryd.func21, Tryd.ntmps21
  go_wp2_with fail
  go_at_call 22
  refine (within_yes K 1 255 w h1 h2).mono ?_
  rintro e w' ⟨rfl, rfl⟩
  go_wp2_with fail
  go_at_call 22
  refine (within_yes M 1 (255 - K) w h3 h4).mono ?_
  rintro e w' ⟨rfl, rfl⟩
  go_wp2
  go_ret
  exact ⟨rfl, rfl⟩
theorem mayCode_no (K M : Int) (w : World) (h : ¬ (1 ≤ K ∧ K ≤ 255 ∧ 1 ≤ M ∧ M ≤ 255 - K)) :
    Calls Tryd.prog 21 #[.int .i64 K, .int .i64 M] w fun e w' => e = .returned (.bool false) ∧ w = w' := by
  by_cases h1 : 1 ≤ K ∧ K ≤ 255
  · have h2 : ¬ (1 ≤ M ∧ M ≤ 255 - K) := by omega
    obtain ⟨h3, h4⟩ := h1
    clear h
    have HN : Hid (¬ (1 ≤ M ∧ M ≤ 255 - K)) := h2
    clear h2
    go_enter Tryd.func21, Tryd.ntmps21
    go_wp2_with fail
    go_at_call 22
    refine (within_yes K 1 255 w h3 h4).mono ?_
    rintro e w' ⟨rfl, rfl⟩
    go_wp2_with fail
    go_at_call 22
    refine (within_no M 1 (255 - K) w HN.out).mono ?_
    rintro e w' ⟨rfl, rfl⟩
    go_wp2
    go_ret
    exact ⟨rfl, rfl⟩
  · have HN : Hid (¬ (1 ≤ K ∧ K ≤ 255)) := h1
    clear h1 h
    go_enter Tryd.func21, Tryd.ntmps21
    go_wp2_with fail
    go_at_call 22
    refine (within_no K 1 255 w HN.out).mono ?_
    rintro e w' ⟨rfl, rfl⟩
    go_wp2
    go_ret
    exact ⟨rfl, rfl⟩

set_option maxRecDepth 100000 in
set_option maxHeartbeats 1000000 in
theorem may_yes (K M I B S D : Int) (w : World) (h : MayH K M I B S D) :
    Calls Tryd.prog 11 #[hv K M I B S D] w fun e w' => e = .returned (.bool true) ∧ Below w.heap.size w w' := by
  obtain ⟨a0, a1, a2, a3, a4, a5, a6, a7, a8, a9, a10, a11⟩ := h
  obtain ⟨W, hbx, ⟨c0, c1, c2, c3, c4, c5⟩, hb⟩ := box_head w 29 K M I B S D
  unfold hv
  have HB : Hid (Below w.heap.size w W) := hb
  have e1 : I ≤ K + M - 1 := by omega
  clear hb
  go_enter Tryd.func11, Tryd.ntmps11
  go_wp2_with fail
  go_at_call 21
  refine (mayCode_yes K M W a0 a2 a1 a3).mono ?_
  rintro e w' ⟨rfl, rfl⟩
  go_wp2_with fail
  go_at_call 22
  refine (within_yes I 0 (K + M - 1) W a4 e1).mono ?_
  rintro e w' ⟨rfl, rfl⟩
  go_wp2_with fail
  go_at_call 22
  refine (within_yes B 16 4096 W a6 a7).mono ?_
  rintro e w' ⟨rfl, rfl⟩
  go_wp2_with fail
  go_at_call 22
  refine (within_yes S 0 65536 W a8 a9).mono ?_
  rintro e w' ⟨rfl, rfl⟩
  go_wp2_with fail
  go_at_call 22
  refine (within_yes D 0 2147483647 W a10 a11).mono ?_
  rintro e w' ⟨rfl, rfl⟩
  go_wp2
  go_ret
  exact ⟨rfl, HB.out⟩

set_option maxRecDepth 100000 in
set_option maxHeartbeats 1000000 in
theorem may_n0 (K M I B S D : Int) (w : World)  (h : Hid (¬ (1 ≤ K ∧ K ≤ 255 ∧ 1 ≤ M ∧ M ≤ 255 - K))) :
    Calls Tryd.prog 11 #[hv K M I B S D] w fun e w' => e = .returned (.bool false) ∧ Below w.heap.size w w' := by
  obtain ⟨W, hbx, ⟨c0, c1, c2, c3, c4, c5⟩, hb⟩ := box_head w 29 K M I B S D
  unfold hv
  have HB : Hid (Below w.heap.size w W) := hb
  clear hb
  go_enter Tryd.func11, Tryd.ntmps11
  go_wp2_with fail
  go_at_call 21
  refine (mayCode_no K M W h.out).mono ?_
  rintro e w' ⟨rfl, rfl⟩
  go_wp2
  go_ret
  exact ⟨rfl, HB.out⟩

set_option maxRecDepth 100000 in
set_option maxHeartbeats 1000000 in
theorem may_n1 (K M I B S D : Int) (w : World) (a0 : 1 ≤ K) (a2 : K ≤ 255) (a1 : 1 ≤ M) (a3 : M ≤ 255 - K) (h : Hid (¬ (0 ≤ I ∧ I ≤ K + M - 1))) :
    Calls Tryd.prog 11 #[hv K M I B S D] w fun e w' => e = .returned (.bool false) ∧ Below w.heap.size w w' := by
  obtain ⟨W, hbx, ⟨c0, c1, c2, c3, c4, c5⟩, hb⟩ := box_head w 29 K M I B S D
  unfold hv
  have HB : Hid (Below w.heap.size w W) := hb
  clear hb
  go_enter Tryd.func11, Tryd.ntmps11
  go_wp2_with fail
  go_at_call 21
  refine (mayCode_yes K M W a0 a2 a1 a3).mono ?_
  rintro e w' ⟨rfl, rfl⟩
  go_wp2_with fail
  go_at_call 22
  refine (within_no I 0 (K + M - 1) W h.out).mono ?_
  rintro e w' ⟨rfl, rfl⟩
  go_wp2
  go_ret
  exact ⟨rfl, HB.out⟩

set_option maxRecDepth 100000 in
set_option maxHeartbeats 1000000 in
theorem may_n2 (K M I B S D : Int) (w : World) (a0 : 1 ≤ K) (a2 : K ≤ 255) (a1 : 1 ≤ M) (a3 : M ≤ 255 - K) (a4 : 0 ≤ I) (e1 : I ≤ K + M - 1) (h : Hid (¬ (16 ≤ B ∧ B ≤ 4096))) :
    Calls Tryd.prog 11 #[hv K M I B S D] w fun e w' => e = .returned (.bool false) ∧ Below w.heap.size w w' := by
  obtain ⟨W, hbx, ⟨c0, c1, c2, c3, c4, c5⟩, hb⟩ := box_head w 29 K M I B S D
  unfold hv
  have HB : Hid (Below w.heap.size w W) := hb
  clear hb
  go_enter Tryd.func11, Tryd.ntmps11
  go_wp2_with fail
  go_at_call 21
  refine (mayCode_yes K M W a0 a2 a1 a3).mono ?_
  rintro e w' ⟨rfl, rfl⟩
  go_wp2_with fail
  go_at_call 22
  refine (within_yes I 0 (K + M - 1) W a4 e1).mono ?_
  rintro e w' ⟨rfl, rfl⟩
  go_wp2_with fail
  go_at_call 22
  refine (within_no B 16 4096 W h.out).mono ?_
  rintro e w' ⟨rfl, rfl⟩
  go_wp2
  go_ret
  exact ⟨rfl, HB.out⟩

set_option maxRecDepth 100000 in
set_option maxHeartbeats 1000000 in
theorem may_n3 (K M I B S D : Int) (w : World) (a0 : 1 ≤ K) (a2 : K ≤ 255) (a1 : 1 ≤ M) (a3 : M ≤ 255 - K) (a4 : 0 ≤ I) (e1 : I ≤ K + M - 1) (a6 : 16 ≤ B) (a7 : B ≤ 4096) (h : Hid (¬ (0 ≤ S ∧ S ≤ 65536))) :
    Calls Tryd.prog 11 #[hv K M I B S D] w fun e w' => e = .returned (.bool false) ∧ Below w.heap.size w w' := by
  obtain ⟨W, hbx, ⟨c0, c1, c2, c3, c4, c5⟩, hb⟩ := box_head w 29 K M I B S D
  unfold hv
  have HB : Hid (Below w.heap.size w W) := hb
  clear hb
  go_enter Tryd.func11, Tryd.ntmps11
  go_wp2_with fail
  go_at_call 21
  refine (mayCode_yes K M W a0 a2 a1 a3).mono ?_
  rintro e w' ⟨rfl, rfl⟩
  go_wp2_with fail
  go_at_call 22
  refine (within_yes I 0 (K + M - 1) W a4 e1).mono ?_
  rintro e w' ⟨rfl, rfl⟩
  go_wp2_with fail
  go_at_call 22
  refine (within_yes B 16 4096 W a6 a7).mono ?_
  rintro e w' ⟨rfl, rfl⟩
  go_wp2_with fail
  go_at_call 22
  refine (within_no S 0 65536 W h.out).mono ?_
  rintro e w' ⟨rfl, rfl⟩
  go_wp2
  go_ret
  exact ⟨rfl, HB.out⟩

set_option maxRecDepth 100000 in
set_option maxHeartbeats 1000000 in
theorem may_n4 (K M I B S D : Int) (w : World) (a0 : 1 ≤ K) (a2 : K ≤ 255) (a1 : 1 ≤ M) (a3 : M ≤ 255 - K) (a4 : 0 ≤ I) (e1 : I ≤ K + M - 1) (a6 : 16 ≤ B) (a7 : B ≤ 4096) (a8 : 0 ≤ S) (a9 : S ≤ 65536) (h : Hid (¬ (0 ≤ D ∧ D ≤ 2147483647))) :
    Calls Tryd.prog 11 #[hv K M I B S D] w fun e w' => e = .returned (.bool false) ∧ Below w.heap.size w w' := by
  obtain ⟨W, hbx, ⟨c0, c1, c2, c3, c4, c5⟩, hb⟩ := box_head w 29 K M I B S D
  unfold hv
  have HB : Hid (Below w.heap.size w W) := hb
  clear hb
  go_enter Tryd.func11, Tryd.ntmps11
  go_wp2_with fail
  go_at_call 21
  refine (mayCode_yes K M W a0 a2 a1 a3).mono ?_
  rintro e w' ⟨rfl, rfl⟩
  go_wp2_with fail
  go_at_call 22
  refine (within_yes I 0 (K + M - 1) W a4 e1).mono ?_
  rintro e w' ⟨rfl, rfl⟩
  go_wp2_with fail
  go_at_call 22
  refine (within_yes B 16 4096 W a6 a7).mono ?_
  rintro e w' ⟨rfl, rfl⟩
  go_wp2_with fail
  go_at_call 22
  refine (within_yes S 0 65536 W a8 a9).mono ?_
  rintro e w' ⟨rfl, rfl⟩
  go_wp2_with fail
  go_at_call 22
  refine (within_no D 0 2147483647 W h.out).mono ?_
  rintro e w' ⟨rfl, rfl⟩
  go_wp2
  go_ret
  exact ⟨rfl, HB.out⟩
theorem may_no (K M I B S D : Int) (w : World) (h : ¬ MayH K M I B S D) :
    Calls Tryd.prog 11 #[hv K M I B S D] w fun e w' => e = .returned (.bool false) ∧ Below w.heap.size w w' := by
  unfold MayH at h
  by_cases c0 : 1 ≤ K ∧ K ≤ 255 ∧ 1 ≤ M ∧ M ≤ 255 - K
  rotate_left
  · exact may_n0 K M I B S D w c0
  by_cases c1 : 0 ≤ I ∧ I ≤ K + M - 1
  rotate_left
  · exact may_n1 K M I B S D w c0.1 c0.2.1 c0.2.2.1 c0.2.2.2 c1
  by_cases c2 : 16 ≤ B ∧ B ≤ 4096
  rotate_left
  · exact may_n2 K M I B S D w c0.1 c0.2.1 c0.2.2.1 c0.2.2.2 c1.1 c1.2 c2
  by_cases c3 : 0 ≤ S ∧ S ≤ 65536
  rotate_left
  · exact may_n3 K M I B S D w c0.1 c0.2.1 c0.2.2.1 c0.2.2.2 c1.1 c1.2 c2.1 c2.2 c3
  by_cases c4 : 0 ≤ D ∧ D ≤ 2147483647
  rotate_left
  · exact may_n4 K M I B S D w c0.1 c0.2.1 c0.2.2.1 c0.2.2.2 c1.1 c1.2 c2.1 c2.2 c3.1 c3.2 c4
  exact absurd (by omega) h
end Go.Proofs.YtjbdncgmpccedaaDoor
