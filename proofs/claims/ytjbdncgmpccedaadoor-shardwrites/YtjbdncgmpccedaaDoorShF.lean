/-
  What shard.NewWriter and Write do.
-/
import Derived.Test.YtjbdncgmpccedaaDoorShE
namespace Go.Proofs.YtjbdncgmpccedaaDoor
open Go.RowKit Crc
attribute [local go_sem ↓] Go.wp_at_zero Go.wp_at_succ
set_option linter.unusedVariables false

theorem wl_zero {S B : Nat} (hB : 0 < B) : wl S B 0 = 24 := by
  unfold wl cb nb
  split
  · next h => rw [← h, Nat.zero_add, Nat.div_eq_of_lt (by omega)]
  · rw [Nat.zero_div]
theorem rm_zero {S B : Nat} (hB : 0 < B) : rm S B 0 = B := by unfold rm; rw [Nat.zero_mod]; split <;> omega
theorem sm_zero {S B : Nat} {f : Nat → Nat} (hB : 0 < B) : sm S B 0 f = 0 := by
  unfold sm
  rw [Nat.zero_mod]
  split
  · rfl
  · exact sum0 _

theorem Own.mono {w : World} {base base' n : Nat} {v : Value} {f : Nat → Nat} (h : Own w base v n f) (hb : base' ≤ base) : Own w base' v n f := by
  rcases h with ⟨hl, e | ⟨g, cap, cur, e, hg, hr⟩⟩
  · exact ⟨hl, .inl e⟩
  · exact ⟨hl, .inr ⟨g, cap, cur, e, Nat.le_trans hb hg, hr⟩⟩
/-- Heads of natural numbers that may be. -/
structure MayN (K M I B S D : Nat) : Prop where
  k : 1 ≤ K
  m : 1 ≤ M
  km : K + M ≤ 255
  i : I < K + M
  b : 16 ≤ B
  b2 : B ≤ 4096
  s : S ≤ 65536
  d : D ≤ 2147483647
theorem MayN.h {K M I B S D : Nat} (h : MayN K M I B S D) : MayH K M I B S D := by
  obtain ⟨_, _, _, _, _, _, _, _⟩ := h
  unfold MayH
  omega

set_option maxRecDepth 100000 in
set_option maxHeartbeats 1000000 in
theorem newW_ok (w : World) (K M I B S D : Nat) (f : Nat → Nat) (T : HalfT w) (h : MayN K M I B S D) :
    Calls Tryd.prog 13 #[hv K M I B S D] w fun e w' => ∃ p, e = .returned (.pointer (some ⟨p, 0, none⟩)) ∧ w.heap.size ≤ p ∧ Wr w' w.heap.size p K M I B S D f 0 ∧ Below w.heap.size w w' := by
  have hm := h.h
  obtain ⟨k1, k2, k3, k4, k5, k6, k7, k8⟩ := h
  have h0 : 0 < w.heap.size := block_lt_of_cell (T 0 (by omega))
  obtain ⟨W0, hbx, hd0, hb0⟩ := box_head w 29 K M I B S D
  have cM := may_yes K M I B S D W0 hm
  have HD0 : Hid (HdAt W0 w.heap.size K M I B S D) := hd0
  obtain ⟨c0, c1, c2, c3, c4, c5⟩ := hd0
  have HB0 : Hid (Below w.heap.size w W0) := hb0
  clear hb0 hm
  unfold hv at cM ⊢
  go_enter Tryd.func13, Tryd.ntmps13
  go_wp2_with fail
  go_at_call 11
  refine cM.mono ?_
  rintro e W1 ⟨rfl, b1⟩
  clear cM
  have hd1 := HD0.out.keep b1
  have hb1 : Below w.heap.size w W1 := hop HB0.out b1
  have cF := fileBytes_any W1 K M I D B S k5 k6 k7
  have HD1 : Hid (HdAt W1 w.heap.size K M I B S D) := hd1
  obtain ⟨d0, d1, d2, d3, d4, d5⟩ := hd1
  have HB1 : Hid (Below w.heap.size w W1) := hb1
  clear hb1 b1 HD0 HB0 c0 c1 c2 c3 c4 c5
  unfold hv at cF
  go_wp2_with fail
  go_at_call 23
  refine cF.mono ?_
  rintro e W2 ⟨x, hx, rfl, b2⟩
  clear cF
  have hd2 := HD1.out.keep b2
  have hb2 : Below w.heap.size w W2 := hop HB1.out b2
  obtain ⟨i, hi, hzz⟩ := Option.map_eq_some_iff.1 info5
  simp only [Prod.mk.injEq] at hzz
  obtain ⟨hz, hs, hby⟩ := hzz
  obtain ⟨W3, hr3, ho3, hg3⟩ := run_make_own (P := Tryd.prog) W2 W2.heap.size 24 5 i (.int .u8 0) 1 Tryd.underlying24 hi hz hs .i64 .i64 x (by rw [hby]; omega) (by unfold maxLen; omega) (Nat.le_refl _)
  have ho3' : Own W3 W2.heap.size (.slice (some ⟨W2.heap.size, 0, none⟩) 0 x) 0 (fun _ => 0) := ho3
  have b23 : Below W2.heap.size W2 W3 := (Below.refl _ _).grown hg3 (Nat.le_refl _) (fun k hk => by cases hk)
  have hd3 := hd2.keep b23
  have hb3 : Below w.heap.size w W3 := hop hb2 b23
  have bD : Below W2.heap.size W2 W3.drew := b23.drew
  have KH : Hid (Calls Tryd.prog 24 #[.slice (some ⟨W2.heap.size, 0, none⟩) 0 x, .agg #[.int .i64 (K : Int), .int .i64 (M : Int), .int .i64 (I : Int), .int .i64 (B : Int), .int .i64 (S : Int), .int .i64 (D : Int)]] W3.drew fun e w' => ∃ g c, e = .returned (.slice (some ⟨g, 0, none⟩) 24 c) ∧ HdAt w' w.heap.size K M I B S D ∧ Own w' w.heap.size (.slice (some ⟨g, 0, none⟩) 24 c) 24 (file K M I B S D f) ∧ Below w.heap.size w w') := by
    refine (appHead_any W3.drew W2.heap.size K M I B S D _ (fun _ => 0) f (T.keep (hop hb2 bD)) (ho3'.keep (Below.refl _ _).drew) bD.size (by have := hb2.size; omega) (by omega) (by omega) (by omega) (by omega) (by omega) (by omega)).mono ?_
    rintro e w4 ⟨v4, rfl, ho4, hb4⟩
    obtain ⟨g4, c4', rfl, _, _, _, _⟩ := ho4.made (by omega)
    have b24 : Below W2.heap.size W2 w4 := bD.trans hb4
    exact ⟨g4, c4', rfl, hd2.keep b24, ho4.mono hb2.size, hop hb2 b24⟩
  obtain ⟨x0, x1, x2, x3, x4, x5⟩ := hd2
  obtain ⟨y0, y1, y2, y3, y4, y5⟩ := hd3
  have HB2 : Hid (Below w.heap.size w W2) := hb2
  clear hb2 hb3 b23 bD ho3 ho3' hg3 b2 HD1 HB1 d0 d1 d2 d3 d4 d5
  have hx' : (x : Int) ≤ 1000000 := by omega
  go_wp2_with fail
  clear x0 x1 x2 x3 x4 x5 hr3
  go_region_held3 (fun w' => w'.cell? ⟨w.heap.size, 0, none⟩ = some (.int .i64 (K : Int)) ∧ w'.cell? ⟨w.heap.size, 1, none⟩ = some (.int .i64 (M : Int)) ∧ w'.cell? ⟨w.heap.size, 2, none⟩ = some (.int .i64 (I : Int)) ∧ w'.cell? ⟨w.heap.size, 3, none⟩ = some (.int .i64 (B : Int)) ∧ w'.cell? ⟨w.heap.size, 4, none⟩ = some (.int .i64 (S : Int)) ∧ w'.cell? ⟨w.heap.size, 5, none⟩ = some (.int .i64 (D : Int))) (first | go_keep | exact ⟨q1.c0, q1.c1, q1.c2, q1.c3, q1.c4, q1.c5⟩)
    ((go_at_call 24; refine KH.out.mono ?_; rintro e w4 ⟨g4, c4, rfl, q1, q2, q3⟩))
  all_goals
    go_wp2
    go_ret
    exact ⟨w4.heap.size, rfl, q3.size, by
      unfold Wr
      rw [wl_zero (by omega), rm_zero (by omega), sm_zero (by omega), Nat.sub_zero]
      exact ⟨_, heap_alloc_new _ _, q2.keep (bal _ _)⟩, hop q3 (bal _ _)⟩

set_option maxRecDepth 100000 in
theorem newW_bad (w : World) (K M I B S D : Int) (h : ¬ MayH K M I B S D) :
    Calls Tryd.prog 13 #[hv K M I B S D] w fun e w' => ∃ p, e = .returned (.pointer (some ⟨p, 0, none⟩)) ∧ w.heap.size ≤ p ∧ Dead w' p ∧ Below w.heap.size w w' := by
  obtain ⟨W0, hbx, hd0, hb0⟩ := box_head w 29 K M I B S D
  have cM := may_no K M I B S D W0 h
  obtain ⟨c0, c1, c2, c3, c4, c5⟩ := hd0
  have HB0 : Hid (Below w.heap.size w W0) := hb0
  clear hb0 h
  unfold hv at cM ⊢
  go_enter Tryd.func13, Tryd.ntmps13
  go_wp2_with fail
  go_at_call 11
  refine cM.mono ?_
  rintro e W1 ⟨rfl, b1⟩
  clear cM
  go_wp2
  go_ret
  have hb1 := hop HB0.out b1
  exact ⟨W1.heap.size, rfl, hb1.size, heap_alloc_new _ _, hop hb1 (bal _ _)⟩

set_option maxRecDepth 100000 in
set_option maxHeartbeats 1000000 in
theorem write_ok (w : World) (K M I B D n c : Nat) (a : Option Addr) (f : Nat → Nat) (T : HalfT w) (h : MayN K M I B n D) (hr : Row w a n f) (hc : n ≤ c) :
    Calls Tryd.prog 8 #[hv K M I B n D, .slice a n c] w fun e w' => ∃ v, e = .returned (.tuple #[v, .int .i64 0]) ∧ Own w' w.heap.size v (wl n B n) (file K M I B n D f) ∧ Below w.heap.size w w' := by
  obtain ⟨W0, hbx, hd0, hb0⟩ := box_head w 29 K M I B n D
  have cM := may_yes K M I B n D W0 h.h
  have HD0 : Hid (HdAt W0 w.heap.size K M I B n D) := hd0
  obtain ⟨c0, c1, c2, c3, c4, c5⟩ := hd0
  have HB0 : Hid (Below w.heap.size w W0) := hb0
  clear hb0
  unfold hv at cM ⊢
  go_enter Tryd.func8, Tryd.ntmps8
  go_wp2_with fail
  go_at_call 11
  refine cM.mono ?_
  rintro e W1 ⟨rfl, b1⟩
  clear cM
  have hd1 := HD0.out.keep b1
  have hb1 : Below w.heap.size w W1 := hop HB0.out b1
  have cN := newW_ok W1 K M I B n D f (T.keep hb1) h
  obtain ⟨d0, d1, d2, d3, d4, d5⟩ := hd1
  have HB1 : Hid (Below w.heap.size w W1) := hb1
  clear hb1 b1 HD0 HB0 c0 c1 c2 c3 c4 c5
  unfold hv at cN
  go_wp2_with fail
  go_at_call 13
  refine cN.mono ?_
  rintro e W2 ⟨p, rfl, hp, hW, b2⟩
  clear cN
  have cA := add_ok W1 W2 p K M I B n D 0 f a n c (T.keep HB1.out) (by simpa using hr.keep HB1.out) hc b2 hp hW hr.lt h.b h.b2 h.s (by omega)
  rw [Nat.zero_add] at cA
  clear hW b2
  go_wp2_with fail
  go_at_call 14
  refine cA.mono ?_
  rintro e W3 ⟨rfl, b3, hW3⟩
  clear cA
  have cE := end_ok W3 W1.heap.size p K M I B n D f hW3 hp
  have HB3 : Hid (Below W1.heap.size W1 W3) := b3
  clear hW3 b3
  go_wp2_with fail
  go_at_call 15
  refine cE.mono ?_
  rintro e W4 ⟨v, rfl, ho, _, hb4⟩
  have HO : Hid (Own W4 W1.heap.size v (wl n B n) (file K M I B n D f)) := ho
  clear ho cE
  go_wp2
  go_ret2
  exact ⟨v, rfl, HO.out.mono HB1.out.size, hop HB1.out (HB3.out.trans hb4)⟩
end Go.Proofs.YtjbdncgmpccedaaDoor
