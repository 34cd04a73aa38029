/-
  PageCuts: for every row of entries and every question the law answers true: where the entries are few, short and fair, the program's pages of objects and of versions and its sorted list are the document's.
-/
import Derived.Test.YtahnkkifegdjeaaRows
import Derived.WalkKit
import Derived.ProofKit
import Derived.OpenShut
import Derived.ShutString
import Derived.ChangeOld
import Derived.Below
import Derived.SizedLaws
import Derived.ChangeSame
import Derived.ChangeMaps5
import Derived.Test.YtahnkkifegdjeaaLwG
import Derived.Test.YtahnkkifegdjeaaOp8
namespace Go.Proofs.Ytahnkkifegdjeaa
namespace pageCuts
open Go.ChangeShapes Go.WideShapes Go.ChangeAt Go.RowKit Go.Shelf Go.Sort Nq
set_option linter.unusedVariables false
attribute [local go_sem ↓] Go.wp_at_zero Go.wp_at_succ

theorem own : ownKnob Try.prog.godebug = none := by kernel_rfl
theorem laidOut : laidOutB Try.prog = true := by kernel_rfl

theorem core (a0 : Option Addr) (c0 : Nat) (L : List En) (q : Aq) (w : World) (h : Es w a0 L) (hz : a0 = none → L.length = 0 ∧ c0 = 0) (hn : L.length ≤ maxLen) (hc : L.length ≤ c0) (hk : ∀ i, i < L.length → L[i]!.key.size ≤ maxLen) (hq : q.pr.size ≤ maxLen ∧ q.fr.size ≤ maxLen) :
    Calls Try.prog 3 #[.slice a0 L.length c0, av q] w fun e w' => e = .returned (.bool true) ∧ Below w.heap.size w w' := by
  obtain ⟨W1, hw1, hA, b1⟩ := box_aq w 24 q
  have HA : Aside (AAt W1 w.heap.size q) := hA
  have HB : Aside (Below w.heap.size w W1) := b1
  have HE : Aside (Es w a0 L) := h
  have HN : Aside (L.length ≤ maxLen) := hn
  have HK : Aside (∀ i, i < L.length → L[i]!.key.size ≤ maxLen) := hk
  have HQ : Aside (q.pr.size ≤ maxLen ∧ q.fr.size ≤ maxLen) := hq
  obtain ⟨pr, fr, fi, mo⟩ := q
  dsimp only at hw1
  have cA := awake_any W1
  unfold av
  dsimp only
  clear hA b1 h hn hk hq hz
  go_enter Try.func3, Try.ntmps3
  go_upto_region 1 with fail
  clear hw1
  go_wp2_with fail
  go_at_call 8
  refine cA.mono ?_
  rintro e w2 ⟨rfl, k2⟩
  have B2 : Aside (Below w.heap.size w w2) := hop HB.out k2
  have A2 : Aside (AAt w2 w.heap.size ⟨pr, fr, fi, mo⟩) := HA.out.keep k2
  clear cA k2 HA HB
  have cF := few_any a0 c0 L w2 (HE.out.keep B2.out) HN.out HK.out
  go_wp2_with fail
  go_at_call 9
  refine cF.mono ?_
  rintro e w3 ⟨⟨b1, rfl, hb1⟩, k3⟩
  have B3 : Aside (Below w.heap.size w w3) := hop B2.out k3
  have A3 : Aside (AAt w3 w.heap.size ⟨pr, fr, fi, mo⟩) := A2.out.keep k3
  clear cF k3 B2 A2
  cases b1 with
  | false =>
    go_wp2
    go_ret
    exact ⟨rfl, B3.out⟩
  | true =>
  have HF1 : Aside (FewP L) := hb1 rfl
  have cG := fair_any a0 c0 L w3 (HE.out.keep B3.out) (by have := HF1.out.1; omega)
  clear hb1
  go_wp2_with fail
  go_at_call 10
  refine cG.mono ?_
  rintro e w4' ⟨⟨b1, rfl, hb1⟩, n4, rfl⟩
  have B4 : Aside (Below w.heap.size w (w3.drewN n4)) := bld B3.out _
  have A4 : Aside (AAt (w3.drewN n4) w.heap.size ⟨pr, fr, fi, mo⟩) := A3.out.keep (bdn _ _)
  clear cG B3 A3
  generalize w3.drewN n4 = w4 at *
  cases b1 with
  | false =>
    go_wp2
    go_ret
    exact ⟨rfl, B4.out⟩
  | true =>
  have HF2 : Aside (FairP L) := hb1 rfl
  clear hb1
  obtain ⟨A, B, x, ⟨lA, lB⟩, hX⟩ := four_is a0 c0 L ⟨pr, fr, fi, mo⟩ w4 (HE.out.keep B4.out) HF1.out HF2.out HQ.out.1 HQ.out.2
  have HX : Aside (∀ W, Below w4.heap.size w4 W → PageIs 11 #[.slice a0 L.length c0, av ⟨pr, fr, fi, mo⟩] W A x ∧ PageIs 13 #[.slice a0 L.length c0, av ⟨pr, fr, fi, mo⟩] W A x ∧ PageIs 14 #[.slice a0 L.length c0, av ⟨pr, fr, fi, mo⟩] W B x ∧ PageIs 15 #[.slice a0 L.length c0, av ⟨pr, fr, fi, mo⟩] W B x) := hX
  clear hX
  have C4 : Aside (Below w4.heap.size w4 w4) := Below.refl _ _
  obtain ⟨d0, d1, d2, d3⟩ := A4.out
  dsimp only at d0 d1 d2 d3
  have cQ := ask_any ⟨pr, fr, fi, mo⟩ w4
  unfold av at cQ
  dsimp only at cQ
  go_wp2_with fail
  go_at_call 12
  refine cQ.mono ?_
  rintro e u4 ⟨rfl, j4⟩
  have D4 : Aside (Below w4.heap.size w4 u4) := hop C4.out j4
  have E4 : Aside (Below w4.heap.size w4 u4) := j4
  clear j4 cQ
  have cX := (HX.out u4 D4.out).1
  unfold PageIs av anv at cX
  dsimp only at cX
  go_wp2_with fail
  go_at_call 11
  refine cX.mono ?_
  rintro e v4 ⟨a5, c5, rfl, o5', l4⟩
  obtain ⟨w5, hw, n5, m4⟩ := box_an v4 28 (.slice a5 A.L.length c5) A.more A.key A.id
  have HW : Hid (v4.alloc (.cells #[.slice a5 A.L.length c5, .bool A.more, .string A.key, .int .i64 A.id] 28) = w5) := hw
  clear hw cX d0 d1 d2 d3
  go_upto_region 6 with fail
  rw [HW.out]
  have F4 : Aside (Below w4.heap.size w4 w5) := hop (hop E4.out l4) m4
  have C5 : Aside (Below w4.heap.size w4 w5) := hop C4.out F4.out
  have A5 : Aside (AAt w5 w.heap.size ⟨pr, fr, fi, mo⟩) := A4.out.keep F4.out
  have O5 : Aside (EOwn w5 0 (.slice a5 A.L.length c5) A.L) := (o5'.keep m4).mono (Nat.zero_le _)
  have N5 : Aside (NAt w5 v4.heap.size (.slice a5 A.L.length c5) A.more A.key A.id) := n5
  clear o5' l4 m4 n5 HW A4 C4 D4 E4 F4
  generalize v4.heap.size = p5 at *
  obtain ⟨d0, d1, d2, d3⟩ := A5.out
  dsimp only at d0 d1 d2 d3
  have D5 : Aside (Below w4.heap.size w4 w5) := C5.out
  have E5 : Aside (Below w5.heap.size w5 w5) := Below.refl _ _
  have cX := (HX.out w5 D5.out).2.1
  unfold PageIs av anv at cX
  dsimp only at cX
  go_wp2_with fail
  go_at_call 13
  refine cX.mono ?_
  rintro e v5 ⟨a7, c7, rfl, o7', l5⟩
  obtain ⟨w6, hw, n7, m5⟩ := box_an v5 34 (.slice a7 A.L.length c7) A.more A.key A.id
  have HW : Hid (v5.alloc (.cells #[.slice a7 A.L.length c7, .bool A.more, .string A.key, .int .i64 A.id] 34) = w6) := hw
  clear hw cX d0 d1 d2 d3
  go_upto_region 7 with fail
  rw [HW.out]
  have F5 : Aside (Below w5.heap.size w5 w6) := hop (hop E5.out l5) m5
  have C6 : Aside (Below w4.heap.size w4 w6) := hop C5.out F5.out
  have A6 : Aside (AAt w6 w.heap.size ⟨pr, fr, fi, mo⟩) := A5.out.keep F5.out
  have N5' : Aside (NAt w6 p5 (.slice a5 A.L.length c5) A.more A.key A.id) := N5.out.keep F5.out
  have O5' : Aside (EOwn w6 0 (.slice a5 A.L.length c5) A.L) := O5.out.keep F5.out
  clear N5 O5
  have N5 : Aside (NAt w6 p5 (.slice a5 A.L.length c5) A.more A.key A.id) := N5'.out
  have O5 : Aside (EOwn w6 0 (.slice a5 A.L.length c5) A.L) := O5'.out
  clear N5' O5'
  have O7 : Aside (EOwn w6 0 (.slice a7 A.L.length c7) A.L) := (o7'.keep m5).mono (Nat.zero_le _)
  have N7 : Aside (NAt w6 v5.heap.size (.slice a7 A.L.length c7) A.more A.key A.id) := n7
  clear o7' l5 m5 n7 HW A5 C5 D5 E5 F5
  generalize v5.heap.size = p7 at *
  obtain ⟨d0, d1, d2, d3⟩ := A6.out
  dsimp only at d0 d1 d2 d3
  have cQ := ask_any ⟨pr, fr, fi, mo⟩ w6
  unfold av at cQ
  dsimp only at cQ
  go_wp2_with fail
  go_at_call 12
  refine cQ.mono ?_
  rintro e u6 ⟨rfl, j6⟩
  have D6 : Aside (Below w4.heap.size w4 u6) := hop C6.out j6
  have E6 : Aside (Below w6.heap.size w6 u6) := j6
  clear j6 cQ
  have cX := (HX.out u6 D6.out).2.2.1
  unfold PageIs av anv at cX
  dsimp only at cX
  go_wp2_with fail
  go_at_call 14
  refine cX.mono ?_
  rintro e v6 ⟨a9, c9, rfl, o9', l6⟩
  obtain ⟨w7, hw, n9, m6⟩ := box_an v6 28 (.slice a9 B.L.length c9) B.more B.key B.id
  have HW : Hid (v6.alloc (.cells #[.slice a9 B.L.length c9, .bool B.more, .string B.key, .int .i64 B.id] 28) = w7) := hw
  clear hw cX d0 d1 d2 d3
  go_upto_region 8 with fail
  rw [HW.out]
  have F6 : Aside (Below w6.heap.size w6 w7) := hop (hop E6.out l6) m6
  have C7 : Aside (Below w4.heap.size w4 w7) := hop C6.out F6.out
  have A7 : Aside (AAt w7 w.heap.size ⟨pr, fr, fi, mo⟩) := A6.out.keep F6.out
  have N5' : Aside (NAt w7 p5 (.slice a5 A.L.length c5) A.more A.key A.id) := N5.out.keep F6.out
  have O5' : Aside (EOwn w7 0 (.slice a5 A.L.length c5) A.L) := O5.out.keep F6.out
  clear N5 O5
  have N5 : Aside (NAt w7 p5 (.slice a5 A.L.length c5) A.more A.key A.id) := N5'.out
  have O5 : Aside (EOwn w7 0 (.slice a5 A.L.length c5) A.L) := O5'.out
  clear N5' O5'
  have N7' : Aside (NAt w7 p7 (.slice a7 A.L.length c7) A.more A.key A.id) := N7.out.keep F6.out
  have O7' : Aside (EOwn w7 0 (.slice a7 A.L.length c7) A.L) := O7.out.keep F6.out
  clear N7 O7
  have N7 : Aside (NAt w7 p7 (.slice a7 A.L.length c7) A.more A.key A.id) := N7'.out
  have O7 : Aside (EOwn w7 0 (.slice a7 A.L.length c7) A.L) := O7'.out
  clear N7' O7'
  have O9 : Aside (EOwn w7 0 (.slice a9 B.L.length c9) B.L) := (o9'.keep m6).mono (Nat.zero_le _)
  have N9 : Aside (NAt w7 v6.heap.size (.slice a9 B.L.length c9) B.more B.key B.id) := n9
  clear o9' l6 m6 n9 HW A6 C6 D6 E6 F6
  generalize v6.heap.size = p9 at *
  obtain ⟨d0, d1, d2, d3⟩ := A7.out
  dsimp only at d0 d1 d2 d3
  have D7 : Aside (Below w4.heap.size w4 w7) := C7.out
  have E7 : Aside (Below w7.heap.size w7 w7) := Below.refl _ _
  have cX := (HX.out w7 D7.out).2.2.2
  unfold PageIs av anv at cX
  dsimp only at cX
  go_wp2_with fail
  go_at_call 15
  refine cX.mono ?_
  rintro e v7 ⟨a11, c11, rfl, o11', l7⟩
  obtain ⟨w8, hw, n11, m7⟩ := box_an v7 34 (.slice a11 B.L.length c11) B.more B.key B.id
  have HW : Hid (v7.alloc (.cells #[.slice a11 B.L.length c11, .bool B.more, .string B.key, .int .i64 B.id] 34) = w8) := hw
  clear hw cX d0 d1 d2 d3
  go_upto_region 9 with fail
  rw [HW.out]
  have F7 : Aside (Below w7.heap.size w7 w8) := hop (hop E7.out l7) m7
  have C8 : Aside (Below w4.heap.size w4 w8) := hop C7.out F7.out
  have A8 : Aside (AAt w8 w.heap.size ⟨pr, fr, fi, mo⟩) := A7.out.keep F7.out
  have N5' : Aside (NAt w8 p5 (.slice a5 A.L.length c5) A.more A.key A.id) := N5.out.keep F7.out
  have O5' : Aside (EOwn w8 0 (.slice a5 A.L.length c5) A.L) := O5.out.keep F7.out
  clear N5 O5
  have N5 : Aside (NAt w8 p5 (.slice a5 A.L.length c5) A.more A.key A.id) := N5'.out
  have O5 : Aside (EOwn w8 0 (.slice a5 A.L.length c5) A.L) := O5'.out
  clear N5' O5'
  have N7' : Aside (NAt w8 p7 (.slice a7 A.L.length c7) A.more A.key A.id) := N7.out.keep F7.out
  have O7' : Aside (EOwn w8 0 (.slice a7 A.L.length c7) A.L) := O7.out.keep F7.out
  clear N7 O7
  have N7 : Aside (NAt w8 p7 (.slice a7 A.L.length c7) A.more A.key A.id) := N7'.out
  have O7 : Aside (EOwn w8 0 (.slice a7 A.L.length c7) A.L) := O7'.out
  clear N7' O7'
  have N9' : Aside (NAt w8 p9 (.slice a9 B.L.length c9) B.more B.key B.id) := N9.out.keep F7.out
  have O9' : Aside (EOwn w8 0 (.slice a9 B.L.length c9) B.L) := O9.out.keep F7.out
  clear N9 O9
  have N9 : Aside (NAt w8 p9 (.slice a9 B.L.length c9) B.more B.key B.id) := N9'.out
  have O9 : Aside (EOwn w8 0 (.slice a9 B.L.length c9) B.L) := O9'.out
  clear N9' O9'
  have O11 : Aside (EOwn w8 0 (.slice a11 B.L.length c11) B.L) := (o11'.keep m7).mono (Nat.zero_le _)
  have N11 : Aside (NAt w8 v7.heap.size (.slice a11 B.L.length c11) B.more B.key B.id) := n11
  clear o11' l7 m7 n11 HW A7 C7 D7 E7 F7
  generalize v7.heap.size = p11 at *
  have HS : Aside (∀ X, Below w8.heap.size w8 X → X.cell? ⟨p5, 0, none⟩ = some (.slice a5 A.L.length c5) ∧ X.cell? ⟨p5, 1, none⟩ = some (.bool A.more) ∧ X.cell? ⟨p5, 2, none⟩ = some (.string A.key) ∧ X.cell? ⟨p5, 3, none⟩ = some (.int .i64 A.id) ∧ X.cell? ⟨p7, 0, none⟩ = some (.slice a7 A.L.length c7) ∧ X.cell? ⟨p7, 1, none⟩ = some (.bool A.more) ∧ X.cell? ⟨p7, 2, none⟩ = some (.string A.key) ∧ X.cell? ⟨p7, 3, none⟩ = some (.int .i64 A.id) ∧ X.cell? ⟨p9, 0, none⟩ = some (.slice a9 B.L.length c9) ∧ X.cell? ⟨p9, 1, none⟩ = some (.bool B.more) ∧ X.cell? ⟨p9, 2, none⟩ = some (.string B.key) ∧ X.cell? ⟨p9, 3, none⟩ = some (.int .i64 B.id) ∧ X.cell? ⟨p11, 0, none⟩ = some (.slice a11 B.L.length c11) ∧ X.cell? ⟨p11, 1, none⟩ = some (.bool B.more) ∧ X.cell? ⟨p11, 2, none⟩ = some (.string B.key) ∧ X.cell? ⟨p11, 3, none⟩ = some (.int .i64 B.id)) := fun X hb => by
    obtain ⟨x0, x1, x2, x3⟩ := N5.out.keep hb
    obtain ⟨x4, x5, x6, x7⟩ := N7.out.keep hb
    obtain ⟨x8, x9, x10, x11⟩ := N9.out.keep hb
    obtain ⟨x12, x13, x14, x15⟩ := N11.out.keep hb
    exact ⟨x0, x1, x2, x3, x4, x5, x6, x7, x8, x9, x10, x11, x12, x13, x14, x15⟩
  have BB : Aside (Below w.heap.size w w8) := hop B4.out C8.out
  have hlA : A.L.length ≤ 900000 := by have := HF1.out.1; omega
  have hlB : B.L.length ≤ 900000 := by have := HF1.out.1; omega
  have K : Hid (Calls Try.prog 17 #[.agg #[.slice a5 A.L.length c5, .bool A.more, .string A.key, .int .i64 A.id]] w8.drew fun r y1 => ∃ e1 f1, r = .returned (.agg #[.slice e1 A.L.length f1, .bool A.more, .string A.key, .int .i64 A.id]) ∧ Below w8.heap.size w8 y1 ∧
      Calls Try.prog 16 #[.agg #[.slice e1 A.L.length f1, .bool A.more, .string A.key, .int .i64 A.id], .agg #[.slice a7 A.L.length c7, .bool A.more, .string A.key, .int .i64 A.id]] y1 fun r y2 => r = .returned (.bool true) ∧ Below w8.heap.size w8 y2 ∧
      Calls Try.prog 17 #[.agg #[.slice a9 B.L.length c9, .bool B.more, .string B.key, .int .i64 B.id]] y2 fun r y3 => ∃ e3 f3, r = .returned (.agg #[.slice e3 B.L.length f3, .bool B.more, .string B.key, .int .i64 B.id]) ∧ Below w8.heap.size w8 y3 ∧
      Calls Try.prog 16 #[.agg #[.slice e3 B.L.length f3, .bool B.more, .string B.key, .int .i64 B.id], .agg #[.slice a11 B.L.length c11, .bool B.more, .string B.key, .int .i64 B.id]] y3 fun r y4 => r = .returned (.bool true) ∧ Below w8.heap.size w8 y4 ∧
      Calls Try.prog 19 #[.slice a0 L.length c0] y4 fun r y5 => ∃ g, r = .returned (.slice (some ⟨g, 0, none⟩) L.length L.length) ∧ Below w8.heap.size w8 y5 ∧
      Calls Try.prog 20 #[.slice a0 L.length c0] y5 fun r y6 => ∃ a6 c6, r = .returned (.slice a6 L.length c6) ∧ Below w8.heap.size w8 y6 ∧
      Calls Try.prog 18 #[.slice (some ⟨g, 0, none⟩) L.length L.length, .slice a6 L.length c6] y6 fun r y7 => r = .returned (.bool true) ∧ Below w8.heap.size w8 y7) := by
    have hn1 : L.length ≤ 200 := HF1.out.1
    refine (answer_any 0 (.slice a5 A.L.length c5) A.L A.more A.key A.id w8.drew (O5.out.keep (bdn w8 1)) hlA).mono ?_
    rintro r y1 ⟨v1, rfl, o1, k1⟩
    obtain ⟨e1, f1, rfl, es1⟩ := out_es o1
    have z1 : Below w8.heap.size w8 y1 := hop (bdn w8 1) k1
    refine ⟨e1, f1, rfl, z1, ?_⟩
    refine (samean_any e1 a7 f1 c7 A.L A.more A.key A.id y1 es1 (by obtain ⟨_, _, e, es⟩ := out_es (O7.out.keep z1); injection e with e1 e2 e3; subst e1; exact es) (by unfold maxLen; omega)).mono ?_
    rintro r y2 ⟨rfl, k2⟩
    have z2 := hop z1 k2
    refine ⟨rfl, z2, ?_⟩
    refine (answer_any 0 (.slice a9 B.L.length c9) B.L B.more B.key B.id y2 (O9.out.keep z2) hlB).mono ?_
    rintro r y3 ⟨v3, rfl, o3, k3⟩
    obtain ⟨e3, f3, rfl, es3⟩ := out_es o3
    have z3 := hop z2 k3
    refine ⟨e3, f3, rfl, z3, ?_⟩
    refine (samean_any e3 a11 f3 c11 B.L B.more B.key B.id y3 es3 (by obtain ⟨_, _, e, es⟩ := out_es (O11.out.keep z3); injection e with e1 e2 e3; subst e1; exact es) (by unfold maxLen; omega)).mono ?_
    rintro r y4 ⟨rfl, k4⟩
    have z4 := hop z3 k4
    refine ⟨rfl, z4, ?_⟩
    refine (sort_any a0 c0 L y4 (HE.out.keep (hop BB.out z4)) (by omega)).mono ?_
    rintro r y5 ⟨g, M, rfl, e5, s5, b5, _, k5⟩
    obtain rfl := srt_all HF2.out M s5
    have z5 := hop z4 k5
    refine ⟨g, by rw [e5], z5, ?_⟩
    refine (rsort_any a0 c0 L y5 (HE.out.keep (hop BB.out z5)) (by omega) (few_keys HF1.out)).mono ?_
    rintro r y6 ⟨v6, M, rfl, o6, s6, k6⟩
    obtain rfl := srt_all HF2.out M s6
    obtain ⟨a6, c6, rfl, es6⟩ := out_es o6
    have z6 := hop z5 k6
    refine ⟨a6, c6, by rw [e5], z6, ?_⟩
    have hc := same_any (some ⟨g, 0, none⟩) a6 L.length c6 (srt L) y6 (b5.es.keep k6) es6 (by rw [e5]; unfold maxLen; omega)
    rw [e5] at hc
    refine hc.mono ?_
    rintro r y7 ⟨rfl, q7, rfl⟩
    exact ⟨rfl, bld z6 _⟩
  have gx : (x == x) = true := by simp
  obtain ⟨q0, q1, q2, q3, q4, q5, q6, q7, q8, q9, q10, q11, q12, q13, q14, q15⟩ := HS.out w8.drew (bdn w8 1)
  clear N5 N7 N9 N11 O5 O7 O9 O11 HX A8 C8 hlA hlB
  go_wp2_with fail
  go_region_held3 (fun X => X.cell? ⟨p5, 0, none⟩ = some (.slice a5 A.L.length c5) ∧ X.cell? ⟨p5, 1, none⟩ = some (.bool A.more) ∧ X.cell? ⟨p5, 2, none⟩ = some (.string A.key) ∧ X.cell? ⟨p5, 3, none⟩ = some (.int .i64 A.id) ∧ X.cell? ⟨p7, 0, none⟩ = some (.slice a7 A.L.length c7) ∧ X.cell? ⟨p7, 1, none⟩ = some (.bool A.more) ∧ X.cell? ⟨p7, 2, none⟩ = some (.string A.key) ∧ X.cell? ⟨p7, 3, none⟩ = some (.int .i64 A.id) ∧ X.cell? ⟨p9, 0, none⟩ = some (.slice a9 B.L.length c9) ∧ X.cell? ⟨p9, 1, none⟩ = some (.bool B.more) ∧ X.cell? ⟨p9, 2, none⟩ = some (.string B.key) ∧ X.cell? ⟨p9, 3, none⟩ = some (.int .i64 B.id) ∧ X.cell? ⟨p11, 0, none⟩ = some (.slice a11 B.L.length c11) ∧ X.cell? ⟨p11, 1, none⟩ = some (.bool B.more) ∧ X.cell? ⟨p11, 2, none⟩ = some (.string B.key) ∧ X.cell? ⟨p11, 3, none⟩ = some (.int .i64 B.id))
    (first | with_reducible exact ⟨q0, q1, q2, q3, q4, q5, q6, q7, q8, q9, q10, q11, q12, q13, q14, q15⟩ | with_reducible exact HS.out _ z7 | with_reducible exact HS.out _ z6 | with_reducible exact HS.out _ z5 | with_reducible exact HS.out _ z4 | with_reducible exact HS.out _ z3 | with_reducible exact HS.out _ z2 | with_reducible exact HS.out _ z1)
    (first
      | (go_at_call 17; with_reducible refine K.out.mono ?_; rintro r y1 ⟨e1, f1, rfl, z1, x1⟩)
      | (go_at_call 16; with_reducible refine x1.mono ?_; rintro r y2 ⟨rfl, z2, x2⟩)
      | (go_at_call 17; with_reducible refine x2.mono ?_; rintro r y3 ⟨e3, f3, rfl, z3, x3⟩)
      | (go_at_call 16; with_reducible refine x3.mono ?_; rintro r y4 ⟨rfl, z4, x4⟩)
      | (go_at_call 19; with_reducible refine x4.mono ?_; rintro r y5 ⟨g, rfl, z5, x5⟩)
      | (go_at_call 20; with_reducible refine x5.mono ?_; rintro r y6 ⟨a6, c6, rfl, z6, x6⟩)
      | (go_at_call 18; with_reducible refine x6.mono ?_; rintro r y7 ⟨rfl, z7⟩))
  all_goals
    go_wp2
    go_ret
    exact ⟨rfl, hop BB.out z7⟩


set_option maxRecDepth 100000 in
theorem lifted (os : Os) (started : os.Started) (H : Type) (enc : TypeId × Value → H) :
    ReturnsInHanded {} Try.checked os 3 .any (Rows.pageCutsSpec.pre6 enc Try.prog Try.f3 Rows.pageCutsRow.domain false) (Rows.pageCutsSpec.post enc Try.prog Try.f3 false true false false) := by
  refine returnsInHanded_of_change_sized (C := Try.checked) own started (by kernel_rfl) Try.func3
    (ChangeSpec.witness6 (enc := enc) (C := Try.checked) false ⟨#[], #[.slice none 0 0, .agg #[.string ⟨#[]⟩, .string ⟨#[]⟩, .int .i64 0, .int .i64 0]], []⟩ 8 (by kernel_rfl) (by kernel_rfl) (by kernel_rfl) (by kernel_rfl)) ?_
  intro W base args ds gs before hval0 hW hcnd hsz0 _
  have hval : ∀ (j : Nat) t v, Try.f3.params[j]? = some t → args[j]? = some v → Value.okWide Try.prog W .any base t v := hval0
  have hsz : (DataW.weightsEach Try.prog (Try.f3.params.toList ++ Rows.pageCutsSpec.plain.varTypes Try.prog) (ds ++ gs)).all (· ≤ reachBytes) = true := hsz0
  have hW' := hW
  obtain ⟨p, q, hA0, hV, rfl, hfz, hnd⟩ := hW
  have hA : DataW.TrodAll enc Try.prog W 0 (fun _ => true) true Try.f3.params.toList args.toList ds p := hA0
  rw [Try.params3] at hA hval hsz
  obtain ⟨v0, vs0, d0, ds0, p0, q0, hargs, rfl, rfl, h0, r0⟩ := trodAll_cons hA
  obtain ⟨v1, vs1, d1, ds1, p1, q1, rfl, rfl, rfl, h1, r1⟩ := trodAll_cons r0
  obtain ⟨rfl, rfl, rfl⟩ := trodAll_nil r1
  obtain rfl : args = #[v0, v1] := by cases args; simp_all
  obtain ⟨rfl, rfl⟩ := trodVars_none hV
  have k0 := h0
  have lt0 : ∀ x ∈ p0, x.block < W.heap.size := by obtain ⟨m, hm⟩ := k0; exact DataW.trod_lt m _ _ _ hm
  obtain ⟨a0, c0, L0, rfl, m0, z0, e0, g0, y0⟩ := open_ents (hval 0 22 v0 rfl rfl) h0
  have k1 := h1
  have lt1 : ∀ x ∈ p1, x.block < W.heap.size := by obtain ⟨m, hm⟩ := k1; exact DataW.trod_lt m _ _ _ hm
  obtain ⟨x1, e1, rfl⟩ := open_ask (hval 1 24 v1 rfl rfl) h1
  clear hA0 hval0 hsz0
  refine (core a0 c0 L0 x1 W m0 z0 e0 g0 y0 e1).mono fun e W' ⟨he, bel⟩ => ?_
  subst he
  exact ⟨_, rfl, _, _, _, [], _, [], hW', trodAll_mk1 (shut_bool Try.underlying4 _), (trodAll_cons_mk (Below.trod laidOut (by kernel_rfl) (of_decide_eq_true (by kernel_rfl)) k0 bel lt0) (trodAll_cons_mk (Below.trod laidOut (by kernel_rfl) (of_decide_eq_true (by kernel_rfl)) k1 bel lt1) trodAll_mk0)), rfl, bel.frame _, fun h => by cases h⟩

theorem over : Rows.pageCutsRow.holds Try.pinned (OpenSpec.ofChange Rows.pageCutsSpec) :=
  OpenClaim.holds_of_wide 3 Try.f3 rfl rfl rfl rfl rfl rfl rfl ⟨rfl, rfl, rfl, rfl, rfl⟩ rfl rfl rfl rfl rfl (by kernel_rfl) Try.func3 (by kernel_rfl)
    (of_decide_eq_true (by kernel_rfl)) (by unfold Func.isWrapper; first | (rw [if_pos (by decide +kernel)]; kernel_rfl) | (rw [if_neg (by decide +kernel)]; exact ⟨rfl, rfl⟩))
    (fun os started H enc _ => lifted os started H enc)

end pageCuts

/-- The statement. -/
theorem pageCuts_holds : Rows.PageCutsSaid := pageCuts.over
#print axioms pageCuts_holds
end Go.Proofs.Ytahnkkifegdjeaa
