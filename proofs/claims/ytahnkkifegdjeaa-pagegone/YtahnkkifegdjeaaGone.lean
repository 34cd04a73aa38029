/-
  PageGone: for every row of entries, every row of truths and every byte the law answers true: where the entries are few, short and fair and the truths are few, the entries that stay while others go between two pages are seen once each on the first page and behind its token.
-/
import Derived.Test.YtahnkkifegdjeaaRows
import Derived.WalkKit
import Derived.ProofKit
import Derived.OpenShut
import Derived.ShutString
import Derived.ChangeOld
import Derived.Below
import Derived.SizedLaws
import Derived.ChangeSame
import Derived.ChangeMaps5
import Derived.Test.YtahnkkifegdjeaaGnN
import Derived.Test.YtahnkkifegdjeaaGnO
namespace Go.Proofs.Ytahnkkifegdjeaa
namespace pageGone
open Go.ChangeShapes Go.WideShapes Go.ChangeAt Go.RowKit Go.Shelf Go.Sort Nq
set_option linter.unusedVariables false
attribute [local go_sem ↓] Go.wp_at_zero Go.wp_at_succ

theorem own : ownKnob Try.prog.godebug = none := by kernel_rfl
theorem laidOut : laidOutB Try.prog = true := by kernel_rfl

set_option maxRecDepth 100000 in
set_option maxHeartbeats 8000000 in
theorem core (a0 : Option Addr) (c0 : Nat) (L : List En) (a1 : Option Addr) (n1 c1 : Nat) (D : Nat → Bool) (m : Nat) (w : World) (h : Es w a0 L) (hz : a0 = none → L.length = 0 ∧ c0 = 0) (hn : L.length ≤ maxLen) (hc : L.length ≤ c0) (hk : ∀ i, i < L.length → L[i]!.key.size ≤ maxLen) (hb : Bls w a1 n1 D) (hz1 : a1 = none → n1 = 0 ∧ c1 = 0) (hn1' : n1 ≤ maxLen) (hc1' : n1 ≤ c1) (hm : m < 256) :
    Calls Try.prog 6 #[.slice a0 L.length c0, .slice a1 n1 c1, .int .u8 (m : Int)] w fun e w' => e = .returned (.bool true) ∧ Below w.heap.size w w' := by
  have HD : Aside (Bls w a1 n1 D) := hb
  clear hb hz1
  have HE : Aside (Es w a0 L) := h
  have HN : Aside (L.length ≤ maxLen) := hn
  have HK : Aside (∀ i, i < L.length → L[i]!.key.size ≤ maxLen) := hk
  have cA := awake_any w
  clear h hn hk hz
  go_enter Try.func6, Try.ntmps6
  go_wp2_with fail
  go_at_call 8
  refine cA.mono ?_
  rintro e w2 ⟨rfl, k2⟩
  have B2 : Aside (Below w.heap.size w w2) := k2
  clear cA k2
  have cF := few_any a0 c0 L w2 (HE.out.keep B2.out) HN.out HK.out
  go_wp2_with fail
  go_at_call 9
  refine cF.mono ?_
  rintro e w3 ⟨⟨b1, rfl, hb1⟩, k3⟩
  have B3 : Aside (Below w.heap.size w w3) := hop B2.out k3
  clear cF k3 B2
  cases b1 with
  | false =>
    go_wp2
    go_ret
    exact ⟨rfl, B3.out⟩
  | true =>
  have HF1 : Aside (FewP L) := hb1 rfl
  have cG := fair_any a0 c0 L w3 (HE.out.keep B3.out) (by have := HF1.out.1; omega)
  clear hb1
  go_wp2_with fail
  go_at_call 10
  refine cG.mono ?_
  rintro e w4' ⟨⟨b1, rfl, hb1⟩, n4, rfl⟩
  have B4 : Aside (Below w.heap.size w (w3.drewN n4)) := bld B3.out _
  clear cG B3
  generalize w3.drewN n4 = w4 at *
  cases b1 with
  | false =>
    go_wp2
    go_ret
    exact ⟨rfl, B4.out⟩
  | true =>
  have HF2 : Aside (FairP L) := hb1 rfl
  have hl200 : L.length ≤ 200 := HF1.out.1
  clear hb1
  by_cases h300 : 300 < n1
  · have g1 : (300 : Int) < (n1 : Int) := by omega
    have g2 : decide ((300 : Int) < (n1 : Int)) = true := decide_eq_true g1
    go_wp2
    go_ret
    exact ⟨rfl, B4.out⟩
  have g1 : ¬ (300 : Int) < (n1 : Int) := by omega
  have g2 : decide ((300 : Int) < (n1 : Int)) = false := decide_eq_false g1
  obtain ⟨n, hnn⟩ : ∃ n : Nat, n = 1 + m % 10 := ⟨_, rfl⟩
  have hn0 : 0 < n := by omega
  have hn20 : n ≤ 10 := by omega
  have hn1 : (1 : Int) ≤ ((n : Nat) : Int) := by omega
  have hn2 : ((n : Nat) : Int) ≤ 1000 := by omega
  have HNN : Aside ((1 : Int) + (m : Int) % 10 = (n : Int)) := by show _ = _; omega
  clear hnn h300
  go_upto_region 6 with fail
  rw [HNN.out]
  clear HNN
  go_wp2_with fail
  go_loopg [9, 8] (L.length) (fun kx sI sX wr => ∃ i : Nat, sI = .int .i64 i ∧ i ≤ L.length ∧ L.length - i ≤ kx ∧ Aside (EOwn wr w4.heap.size sX (kp L n1 D i)) ∧ Aside (Below w4.heap.size w4 wr))
  case atStart => exact ⟨0, rfl, Nat.zero_le _, by omega, EOwn.start _ _, Below.refl _ _⟩
  case round =>
    obtain ⟨i, rfl, hi, hkx, HX, HG⟩ := hrel
    have BR : Aside (Below w.heap.size w wr) := hop B4.out HG.out
    by_cases hlt : i < L.length
    · obtain ⟨b, o, rfl, hcs⟩ := (HE.out.keep BR.out) (by omega)
      have hce := hcs i hlt
      have hkl := (kp_sub L n1 D i hi).length_le
      rw [List.length_take] at hkl
      have hkp : kp L n1 D (i + 1) = if stays L n1 D i = true then kp L n1 D i ++ [L[i]!] else kp L n1 D i := rfl
      have HKP : Aside _ := hkp
      have HST : Aside (stays L n1 D i = (!L[i]!.la || (decide (n1 ≤ i) || !D i))) := rfl
      clear hcs hkp
      generalize L[i]! = e at *
      obtain ⟨d0, d1, d2, d3, d4, d5⟩ := hce
      have hiz : (i : Int) < (L.length : Int) := by omega
      obtain ⟨v9, W9, hr9, ho9, hb9⟩ := push_en e HX.out (by omega) HG.out.size
      have HO3 : Aside (EOwn W9 w4.heap.size v9 (kp L n1 D i ++ [e])) := ho9
      have HL2 : Aside (Below w4.heap.size w4 W9) := HG.out.trans hb9
      clear ho9 hb9 hkl
      cases hla : e.la with
      | false =>
        rw [hla] at d5 hr9
        have HO4 : Aside (EOwn W9 w4.heap.size v9 (kp L n1 D (i + 1))) := by show EOwn _ _ _ _; rw [HKP.out, if_pos (by rw [HST.out]; simp [hla])]; exact HO3.out
        clear HKP HST HO3
        go_wp2_with (at_builtin; refine wpList_append_ran (by rfl) _ _ 22 (by rfl) _ _ _ _ (by rfl) (by rfl) hr9 ?_)
        go_roundg (L.length - (i + 1))
        case measure => omega
        case rel => exact ⟨i + 1, by go_num, by omega, Nat.le_refl _, HO4, HL2⟩
      | true =>
        rw [hla] at d5 hr9
        by_cases hin : n1 ≤ i
        · have gin : (n1 : Int) ≤ (i : Int) := by omega
          have HO4 : Aside (EOwn W9 w4.heap.size v9 (kp L n1 D (i + 1))) := by show EOwn _ _ _ _; rw [HKP.out, if_pos (by rw [HST.out]; simp [hin])]; exact HO3.out
          clear HKP HST HO3
          go_wp2_with (at_builtin; refine wpList_append_ran (by rfl) _ _ 22 (by rfl) _ _ _ _ (by rfl) (by rfl) hr9 ?_)
          go_roundg (L.length - (i + 1))
          case measure => omega
          case rel => exact ⟨i + 1, by go_num, by omega, Nat.le_refl _, HO4, HL2⟩
        · have gin : ¬ (n1 : Int) ≤ (i : Int) := by omega
          have gin2 : (i : Int) < (n1 : Int) := by omega
          obtain ⟨bb, bo, rfl, hbc⟩ := (HD.out.keep BR.out) (by omega)
          have hdc := hbc i (by omega)
          clear hbc
          cases hD : D i with
          | false =>
            rw [hD] at hdc
            have HO4 : Aside (EOwn W9 w4.heap.size v9 (kp L n1 D (i + 1))) := by show EOwn _ _ _ _; rw [HKP.out, if_pos (by rw [HST.out]; simp [hD])]; exact HO3.out
            clear HKP HST HO3
            go_wp2_with (at_builtin; refine wpList_append_ran (by rfl) _ _ 22 (by rfl) _ _ _ _ (by rfl) (by rfl) hr9 ?_)
            go_roundg (L.length - (i + 1))
            case measure => omega
            case rel => exact ⟨i + 1, by go_num, by omega, Nat.le_refl _, HO4, HL2⟩
          | true =>
            rw [hD] at hdc
            have hKQ : kp L n1 D (i + 1) = kp L n1 D i := by rw [HKP.out, if_neg (by rw [HST.out]; simp [hla, hD]; omega)]
            have hX3 := HX.out
            rw [← hKQ] at hX3
            have HO4 : Aside (EOwn wr w4.heap.size _ (kp L n1 D (i + 1))) := hX3
            clear hKQ hX3
            clear HKP HST HO3 hr9
            go_wp2
            go_roundg (L.length - (i + 1))
            case measure => omega
            case rel => exact ⟨i + 1, by go_num, by omega, Nat.le_refl _, HO4, HG⟩
    · have hiz : ¬ (i : Int) < (L.length : Int) := by omega
      have hil : i = L.length := by omega
      subst hil
      have HYS : Aside ((kp L n1 D L.length).Sublist L) := kp_all L n1 D
      obtain ⟨Y, hY⟩ : ∃ Y, kp L n1 D L.length = Y := ⟨_, rfl⟩
      rw [hY] at HX HYS
      clear hY hlt hi hkx HD
      obtain ⟨aY, cY, rfl, esY⟩ := out_es HX.out
      have EY : Aside (Es wr aY Y) := esY
      have NEY : Aside (∀ x, aY = some x → x.block < wr.heap.size) := by
        rintro x rfl
        exact (World.ownsRow.lt HX.out x.block rfl).2
      have cX := versions_is a0 c0 L ⟨noB, noB, 0, n⟩ wr (HE.out.keep BR.out) HF1.out HF2.out (by show (0 : Nat) ≤ maxLen; exact Nat.zero_le _) ⟨hn1, hn2⟩
      rw [pgV_all] at cX
      clear esY HX HG
      by_cases hmore : n < L.length
      · rw [all_more hn0 hmore] at cX
        unfold PageIs av anv noB at cX
        dsimp only at cX
        have hln : ((srt L).take n).length = n := by rw [List.length_take, srt_length]; omega
        rw [hln] at cX
        have HEM : Aside ((srt L)[n - 1]! ∈ L) := srt_mem.1 (at_mem (by rw [srt_length]; omega))
        have HCT : Aside (∀ y ∈ Y, ((srt L).take n ++ (srt Y).filter (ltE (srt L)[n - 1]!)).count y = 1) := fun y hy => gone_once HF2.out HYS.out n hn0 (by omega) y hy
        have HLN : Aside (((srt L).take n).length = n) := hln
        clear hln
        generalize (srt L)[n - 1]! = e at *
        generalize (srt L).take n = A at *
        have cR := fun W (h : Es W aY Y) => rest_is HF1.out HF2.out HYS.out e HEM.out aY cY W h
        obtain ⟨B, hB⟩ : ∃ B, (srt Y).filter (ltE e) = B := ⟨_, rfl⟩
        have HBL : Aside (B.length ≤ 200) := by
          have h1 : ((srt Y).filter (ltE e)).length ≤ (srt Y).length := List.length_filter_le _ _
          rw [srt_length] at h1
          have h2 := HYS.out.length_le
          show B.length ≤ 200
          rw [← hB]; omega
        rw [hB] at HCT cR
        clear hB
        unfold PageIs av anv noB at cR
        dsimp only at cR
        go_wp2_with fail
        go_at_call 14
        refine cX.mono ?_
        rintro r v7 ⟨a9, c9, rfl, o7, l7⟩
        obtain ⟨W7, hw7, n7, m7⟩ := box_an v7 28 (.slice a9 n c9) true e.key e.id
        have HW7 : Hid (v7.alloc (.cells #[.slice a9 n c9, .bool true, .string e.key, .int .i64 e.id] 28) = W7) := hw7
        have L7 : Aside (Below wr.heap.size wr W7) := hop l7 m7
        have O7 : Aside (EOwn W7 wr.heap.size (.slice a9 n c9) A) := o7.keep m7
        have N7 : Aside (NAt W7 v7.heap.size (.slice a9 n c9) true e.key e.id) := n7
        clear hw7 cX o7 l7 m7 n7
        go_upto_region 13 with fail
        rw [HW7.out]
        clear HW7
        generalize v7.heap.size = p9 at *
        obtain ⟨z0, z1, z2, z3⟩ := N7.out
        have cR7 := cR W7 (EY.out.keep L7.out)
        clear cR
        go_wp2_with fail
        go_at_call 14
        refine cR7.mono ?_
        rintro r v8 ⟨a10, c10, rfl, o8, l8⟩
        obtain ⟨W8, hw8, n8, m8⟩ := box_an v8 28 (.slice a10 B.length c10) false ⟨#[]⟩ 0
        have HW8 : Hid (v8.alloc (.cells #[.slice a10 B.length c10, .bool false, .string ⟨#[]⟩, .int .i64 0] 28) = W8) := hw8
        have L8 : Aside (Below W7.heap.size W7 W8) := hop l8 m8
        have O8 : Aside (EOwn W8 W7.heap.size (.slice a10 B.length c10) B) := o8.keep m8
        have N8 : Aside (NAt W8 v8.heap.size (.slice a10 B.length c10) false ⟨#[]⟩ 0) := n8
        clear hw8 cR7 o8 l8 m8 n8 z0 z1 z2 z3
        go_upto_region 18 with fail
        rw [HW8.out]
        clear HW8
        generalize v8.heap.size = p10 at *
        have hyl : Y.length ≤ 200 := by have h2 := HYS.out.length_le; omega
        obtain ⟨W9, hr9, s9, b9⟩ := makeI W8 Y.length (by omega)
        obtain ⟨_, _, eA, sA⟩ := out_es O7.out
        rw [HLN.out] at eA
        injection eA with eA1 eA2 eA3
        subst eA1; subst eA3
        obtain ⟨_, _, eB, sB⟩ := out_es O8.out
        injection eB with eB1 eB2 eB3
        subst eB1; subst eB3
        have hws : W7.heap.size ≤ W8.heap.size := L8.out.size
        have hwr : wr.heap.size ≤ W7.heap.size := L7.out.size
        have EA : Aside (Es W9 a9 A) := (sA.keep L8.out).keep b9
        have EB : Aside (Es W9 a10 B) := sB.keep b9
        have EYY : Aside (Es W9 aY Y) := ((EY.out.keep L7.out).keep L8.out).keep b9
        have N9 : Aside (NAt W9 p9 (.slice a9 n c9) true e.key e.id) := (N7.out.keep L8.out).keep b9
        have N10 : Aside (NAt W9 p10 (.slice a10 B.length c10) false ⟨#[]⟩ 0) := N8.out.keep b9
        have NEA : Aside (∀ x, a9 = some x → x.block ≠ W8.heap.size) := by
          rintro x rfl
          have := (World.ownsRow.lt O7.out x.block rfl).2
          omega
        have NEB : Aside (∀ x, a10 = some x → x.block ≠ W8.heap.size) := by
          rintro x rfl
          have := (World.ownsRow.lt O8.out x.block rfl).2
          omega
        have NEW : Aside (∀ x, aY = some x → x.block ≠ W8.heap.size) := by
          intro x hx
          have := NEY.out x hx
          omega
        have h9 : p9 < W8.heap.size := Nat.lt_of_lt_of_le (block_lt_of_cell N7.out.c0) hws
        have h10 : p10 < W8.heap.size := block_lt_of_cell N8.out.c0
        have SB9 : Aside (SB W9 W8.heap.size Y.length (fun _ => 0)) := s9
        have BW9 : Aside (Below w.heap.size w W9) := hop (hop (hop BR.out L7.out) L8.out) b9
        have HSB : Aside (w.heap.size ≤ W8.heap.size) := (hop (hop BR.out L7.out) L8.out).size
        clear eA2 eB2 sA sB s9 b9 O7 O8 N7 N8 L7 L8 EY NEY hws hwr BR hiz
        generalize W8.heap.size = sb at *
        go_wp2_with fail
        go_loopg [15] (Y.length) (fun kx sI wr => ∃ (i : Nat) (G : Nat → Int), sI = .int .i64 i ∧ i ≤ Y.length ∧ Y.length - i ≤ kx ∧ Aside (W9.grownBy wr (some sb)) ∧ Aside (SB wr sb Y.length G) ∧ Aside (∀ j, i ≤ j → G j = 0))
        case atStart => exact ⟨0, _, rfl, Nat.zero_le _, by omega, ⟨rfl, rfl, rfl, Nat.le_refl _, fun _ _ _ => rfl⟩, SB9.out, fun _ _ => rfl⟩
        case round =>
          obtain ⟨i, G, rfl, hi, hkx, HG, HS, HZ⟩ := hrel
          by_cases hlt : i < Y.length
          · have hiz : (i : Int) < (Y.length : Int) := by omega
            have HIY : Aside (Y[i]! ∈ Y) := at_mem hlt
            have gnb : (n : Int) + (B.length : Int) ≤ 210 := by have := HBL.out; omega
            obtain ⟨y, hyi⟩ : ∃ y, Y[i]! = y := ⟨_, rfl⟩
            rw [hyi] at HIY
            have HYI : Aside (Y[i]! = y) := hyi
            clear hyi
            go_wp2_with fail
            go_loopg [16] (n + B.length) (fun kx sK wx => ∃ (k : Nat) (G' : Nat → Int), sK = .int .i64 k ∧ k ≤ n + B.length ∧ n + B.length - k ≤ kx ∧ Aside (W9.grownBy wx (some sb)) ∧ Aside (SB wx sb Y.length G') ∧ Aside (∀ j, i < j → G' j = 0) ∧ Aside (G' i = (((A ++ B).take k).count y : Nat)))
            case atStart =>
              have hz0 := HZ.out i (Nat.le_refl _)
              exact ⟨0, G, rfl, Nat.zero_le _, by omega, HG.out, HS.out, fun j hj => HZ.out j (by omega), by show G i = _; rw [hz0]; rfl⟩
            case round =>
              obtain ⟨k, G', rfl, hk, hkx, HG', HS', HZ', HC'⟩ := hrel
              by_cases hkl : k < n + B.length
              · have hkz : (k : Int) < (n : Int) + (B.length : Int) := by omega
                have b6 : Below wr.heap.size wr (wr.alloc (.cells #[.string ⟨#[]⟩, .int .i64 0, .bool false, .int .i64 0, .int .u32 0, .bool false] 48)) := bal _ _
                have X9 : Aside (NAt wr p9 (.slice a9 n c9) true e.key e.id) := gb_nat HG'.out (by omega) N9.out
                have X10 : Aside (NAt wr p10 (.slice a10 B.length c10) false ⟨#[]⟩ 0) := gb_nat HG'.out (by omega) N10.out
                obtain ⟨x0, x1, x2, x3⟩ := X9.out
                obtain ⟨y0, y1, y2, y3⟩ := X10.out
                have hal : (A ++ B).length = n + B.length := by rw [List.length_append, HLN.out]
                have hct := count_on (A ++ B) y k (by omega)
                obtain ⟨cn, hcn⟩ : ∃ cn, ((A ++ B).take k).count y = cn := ⟨_, rfl⟩
                have hcl : cn ≤ 300 := by
                  have h1 : ((A ++ B).take k).count y ≤ ((A ++ B).take k).length := List.count_le_length
                  rw [List.length_take] at h1
                  have h2 := HBL.out
                  omega
                rw [hcn] at hct
                have HCC : Aside (G' i = (cn : Int)) := by show G' i = _; rw [HC'.out, hcn]
                clear hcn HC'
                by_cases hkn : k < n
                · have hkm : (k : Int) < (n : Int) := by omega
                  obtain ⟨bb, bo, rfl, hcs⟩ := (gb_es HG'.out EA.out NEA.out) (by rw [HLN.out]; omega)
                  have hce := hcs k (by rw [HLN.out]; exact hkn)
                  have hab : (A ++ B)[k]! = A[k]! := by
                    rw [getElem!_pos (A ++ B) k (by omega), getElem!_pos A k (by rw [HLN.out]; exact hkn), List.getElem_append_left]
                  rw [hab] at hct
                  clear hcs hab hal
                  generalize A[k]! = x at *
                  have HCT2 : Aside _ := hct
                  clear hct
                  obtain ⟨d0, d1, d2, d3, d4, d5⟩ := hce.keep b6
                  obtain ⟨x0, x1, x2, x3⟩ := X9.out.keep b6
                  obtain ⟨y0, y1, y2, y3⟩ := X10.out.keep b6
                  obtain ⟨W7, hW7, h7, b7⟩ := box_en wr 48 x
                  have HW7 : Hid (wr.alloc (.cells #[.string x.key, .int .i64 x.id, .bool x.mr, .int .i64 x.sz, .int .u32 (x.sm : Int), .bool x.la] 48) = W7) := hW7
                  have HG7 : Aside (W9.grownBy W7 (some sb)) := gb_hop HG'.out b7
                  have HS7 : Aside (SB W7 sb Y.length G') := HS'.out.keep b7
                  have H7 : Aside (EAt W7 wr.heap.size 0 x) := h7
                  clear hW7 h7 b7 hce b6 HS' HG' X9 X10
                  go_upto_region 29 with fail
                  rw [HW7.out]
                  clear HW7 x0 x1 x2 x3 y0 y1 y2 y3 d0 d1 d2 d3 d4 d5
                  generalize wr.heap.size = xb at *
                  obtain ⟨x0, x1, x2, x3, x4, x5⟩ := H7.out
                  obtain ⟨yb, yo, rfl, hcy⟩ := (gb_es HG7.out EYY.out NEW.out) (by omega)
                  have hcyi := hcy i hlt
                  rw [HYI.out] at hcyi
                  obtain ⟨y0, y1, y2, y3, y4, y5⟩ := hcyi
                  clear hcy H7
                  have hEq := fun w => run_eqlE x y w
                  by_cases hxy : x = y
                  · rw [decide_eq_true hxy] at hEq
                    rw [if_pos hxy] at HCT2
                    unfold ev at hEq
                    clear hxy
                    go_wp2_with fail
                    go_quiet (fail)
                    have HG8 : Aside (W9.grownBy (W7.drewN nq) (some sb)) := gb_hop HG7.out (bdn _ _)
                    have HS8 : Aside (SB (W7.drewN nq) sb Y.length G') := HS7.out.keep (bdn _ _)
                    clear x0 x1 x2 x3 x4 x5 y0 y1 y2 y3 y4 y5 hEq HG7 HS7
                    generalize W7.drewN nq = WQ at *
                    obtain ⟨s0, sf⟩ := HS8.out.cell hlt
                    rw [HCC.out] at s0
                    have HS9 : Aside (SB (WQ.setCell ⟨sb, i, none⟩ (.int .i64 ((cn : Int) + 1))) sb Y.length (fun j => if j = i then (cn : Int) + 1 else G' j)) := HS8.out.put i _
                    have HG9 : Aside (W9.grownBy (WQ.setCell ⟨sb, i, none⟩ (.int .i64 ((cn : Int) + 1))) (some sb)) := gb_sb HG8.out i _
                    go_wp2_with fail
                    clear HS8 HG8 s0 sf
                    generalize WQ.setCell ⟨sb, i, none⟩ (.int .i64 ((cn : Int) + 1)) = WR at *
                    go_roundg (n + B.length - (k + 1))
                    case measure => omega
                    case rel => exact ⟨k + 1, _, by go_num, by omega, Nat.le_refl _, HG9, HS9, fun j hj => by show (if j = i then (cn : Int) + 1 else G' j) = 0; rw [if_neg (by omega)]; exact HZ'.out j hj, by show (if i = i then (cn : Int) + 1 else G' i) = _; rw [if_pos rfl, HCT2.out]; omega⟩
                  · rw [decide_eq_false hxy] at hEq
                    rw [if_neg hxy] at HCT2
                    unfold ev at hEq
                    clear hxy
                    go_wp2_with fail
                    go_quiet (fail)
                    have HG8 : Aside (W9.grownBy (W7.drewN nq) (some sb)) := gb_hop HG7.out (bdn _ _)
                    have HS8 : Aside (SB (W7.drewN nq) sb Y.length G') := HS7.out.keep (bdn _ _)
                    clear x0 x1 x2 x3 x4 x5 y0 y1 y2 y3 y4 y5 hEq HG7 HS7
                    generalize W7.drewN nq = WQ at *
                    go_wp2_with fail
                    go_roundg (n + B.length - (k + 1))
                    case measure => omega
                    case rel => exact ⟨k + 1, G', by go_num, by omega, Nat.le_refl _, HG8, HS8, HZ', by show G' i = _; rw [HCT2.out]; exact HCC.out⟩
                · have hkm : ¬ (k : Int) < (n : Int) := by omega
                  obtain ⟨kq, hkq⟩ : ∃ kq, k = n + kq := ⟨k - n, by omega⟩
                  have hsub : (k : Int) - (n : Int) = (kq : Int) := by omega
                  have hkb : kq < B.length := by omega
                  have hkbz : (kq : Int) < (B.length : Int) := by omega
                  obtain ⟨bb, bo, rfl, hcs⟩ := (gb_es HG'.out EB.out NEB.out) (by omega)
                  have hce := hcs kq hkb
                  have hab : (A ++ B)[k]! = B[kq]! := by
                    rw [getElem!_pos (A ++ B) k (by omega), getElem!_pos B kq hkb, List.getElem_append_right (by rw [HLN.out]; omega)]
                    congr 1
                    rw [HLN.out]; omega
                  rw [hab] at hct
                  clear hcs hab hal hkq
                  generalize B[kq]! = x at *
                  have HCT2 : Aside _ := hct
                  clear hct
                  obtain ⟨d0, d1, d2, d3, d4, d5⟩ := hce.keep b6
                  obtain ⟨x0, x1, x2, x3⟩ := X9.out.keep b6
                  obtain ⟨y0, y1, y2, y3⟩ := X10.out.keep b6
                  obtain ⟨W7, hW7, h7, b7⟩ := box_en wr 48 x
                  have HW7 : Hid (wr.alloc (.cells #[.string x.key, .int .i64 x.id, .bool x.mr, .int .i64 x.sz, .int .u32 (x.sm : Int), .bool x.la] 48) = W7) := hW7
                  have HG7 : Aside (W9.grownBy W7 (some sb)) := gb_hop HG'.out b7
                  have HS7 : Aside (SB W7 sb Y.length G') := HS'.out.keep b7
                  have H7 : Aside (EAt W7 wr.heap.size 0 x) := h7
                  clear hW7 h7 b7 hce b6 HS' HG' X9 X10
                  go_upto_region 29 with fail
                  rw [HW7.out]
                  clear HW7 x0 x1 x2 x3 y0 y1 y2 y3 d0 d1 d2 d3 d4 d5
                  generalize wr.heap.size = xb at *
                  obtain ⟨x0, x1, x2, x3, x4, x5⟩ := H7.out
                  obtain ⟨yb, yo, rfl, hcy⟩ := (gb_es HG7.out EYY.out NEW.out) (by omega)
                  have hcyi := hcy i hlt
                  rw [HYI.out] at hcyi
                  obtain ⟨y0, y1, y2, y3, y4, y5⟩ := hcyi
                  clear hcy H7
                  have hEq := fun w => run_eqlE x y w
                  by_cases hxy : x = y
                  · rw [decide_eq_true hxy] at hEq
                    rw [if_pos hxy] at HCT2
                    unfold ev at hEq
                    clear hxy
                    go_wp2_with fail
                    go_quiet (fail)
                    have HG8 : Aside (W9.grownBy (W7.drewN nq) (some sb)) := gb_hop HG7.out (bdn _ _)
                    have HS8 : Aside (SB (W7.drewN nq) sb Y.length G') := HS7.out.keep (bdn _ _)
                    clear x0 x1 x2 x3 x4 x5 y0 y1 y2 y3 y4 y5 hEq HG7 HS7
                    generalize W7.drewN nq = WQ at *
                    obtain ⟨s0, sf⟩ := HS8.out.cell hlt
                    rw [HCC.out] at s0
                    have HS9 : Aside (SB (WQ.setCell ⟨sb, i, none⟩ (.int .i64 ((cn : Int) + 1))) sb Y.length (fun j => if j = i then (cn : Int) + 1 else G' j)) := HS8.out.put i _
                    have HG9 : Aside (W9.grownBy (WQ.setCell ⟨sb, i, none⟩ (.int .i64 ((cn : Int) + 1))) (some sb)) := gb_sb HG8.out i _
                    go_wp2_with fail
                    clear HS8 HG8 s0 sf
                    generalize WQ.setCell ⟨sb, i, none⟩ (.int .i64 ((cn : Int) + 1)) = WR at *
                    go_roundg (n + B.length - (k + 1))
                    case measure => omega
                    case rel => exact ⟨k + 1, _, by go_num, by omega, Nat.le_refl _, HG9, HS9, fun j hj => by show (if j = i then (cn : Int) + 1 else G' j) = 0; rw [if_neg (by omega)]; exact HZ'.out j hj, by show (if i = i then (cn : Int) + 1 else G' i) = _; rw [if_pos rfl, HCT2.out]; omega⟩
                  · rw [decide_eq_false hxy] at hEq
                    rw [if_neg hxy] at HCT2
                    unfold ev at hEq
                    clear hxy
                    go_wp2_with fail
                    go_quiet (fail)
                    have HG8 : Aside (W9.grownBy (W7.drewN nq) (some sb)) := gb_hop HG7.out (bdn _ _)
                    have HS8 : Aside (SB (W7.drewN nq) sb Y.length G') := HS7.out.keep (bdn _ _)
                    clear x0 x1 x2 x3 x4 x5 y0 y1 y2 y3 y4 y5 hEq HG7 HS7
                    generalize W7.drewN nq = WQ at *
                    go_wp2_with fail
                    go_roundg (n + B.length - (k + 1))
                    case measure => omega
                    case rel => exact ⟨k + 1, G', by go_num, by omega, Nat.le_refl _, HG8, HS8, HZ', by show G' i = _; rw [HCT2.out]; exact HCC.out⟩
              · have hkz : ¬ (k : Int) < (n : Int) + (B.length : Int) := by omega
                obtain ⟨x0, x1, x2, x3⟩ := gb_nat HG'.out (by omega) N9.out
                obtain ⟨y0, y1, y2, y3⟩ := gb_nat HG'.out (by omega) N10.out
                have hone : G' i = 1 := by
                  rw [HC'.out, List.take_of_length_le (by rw [List.length_append, HLN.out]; omega), HCT.out y HIY.out]; rfl
                obtain ⟨s0, _⟩ := HS'.out.cell hlt
                rw [hone] at s0
                clear hone
                go_wp2_with fail
                go_roundg (Y.length - (i + 1))
                case measure => omega
                case rel => exact ⟨i + 1, G', by go_num, by omega, Nat.le_refl _, HG', HS', fun j hj => HZ'.out j (by omega)⟩
          · have hiz : ¬ (i : Int) < (Y.length : Int) := by omega
            obtain ⟨y0, y1, y2, y3⟩ := gb_nat HG.out (by omega) N10.out
            have hBW : Aside (Below w.heap.size w wr) := BW9.out.grown HG.out BW9.out.size (fun k hk => by injection hk with hk; have := HSB.out; omega)
            go_wp2
            go_ret
            exact ⟨rfl, hBW.out⟩
      · rw [all_last (by omega)] at cX
        unfold PageIs av anv noB at cX
        dsimp only at cX
        go_wp2_with fail
        go_at_call 14
        refine cX.mono ?_
        rintro r v7 ⟨a9, c9, rfl, o7, l7⟩
        obtain ⟨W7, hw7, n7, m7⟩ := box_an v7 28 (.slice a9 (srt L).length c9) false ⟨#[]⟩ 0
        have HW7 : Hid (v7.alloc (.cells #[.slice a9 (srt L).length c9, .bool false, .string ⟨#[]⟩, .int .i64 0] 28) = W7) := hw7
        have L7 : Aside (Below w.heap.size w W7) := hop BR.out (hop l7 m7)
        obtain ⟨z0, z1, z2, z3⟩ := n7
        clear hw7 cX o7 l7 m7
        go_upto_region 13 with fail
        rw [HW7.out]
        clear HW7
        generalize v7.heap.size = p9 at *
        go_wp2
        go_ret
        exact ⟨rfl, L7.out⟩


set_option maxRecDepth 100000 in
theorem lifted (os : Os) (started : os.Started) (H : Type) (enc : TypeId × Value → H) :
    ReturnsInHanded {} Try.checked os 6 .any (Rows.pageGoneSpec.pre6 enc Try.prog Try.f6 Rows.pageGoneRow.domain false) (Rows.pageGoneSpec.post enc Try.prog Try.f6 false true false false) := by
  refine returnsInHanded_of_change_sized (C := Try.checked) own started (by kernel_rfl) Try.func6
    (ChangeSpec.witness6 (enc := enc) (C := Try.checked) false ⟨#[], #[.slice none 0 0, .slice none 0 0, .int .u8 0], []⟩ 8 (by kernel_rfl) (by kernel_rfl) (by kernel_rfl) (by kernel_rfl)) ?_
  intro W base args ds gs before hval0 hW hcnd hsz0 _
  have hval : ∀ (j : Nat) t v, Try.f6.params[j]? = some t → args[j]? = some v → Value.okWide Try.prog W .any base t v := hval0
  have hsz : (DataW.weightsEach Try.prog (Try.f6.params.toList ++ Rows.pageGoneSpec.plain.varTypes Try.prog) (ds ++ gs)).all (· ≤ reachBytes) = true := hsz0
  have hW' := hW
  obtain ⟨p, q, hA0, hV, rfl, hfz, hnd⟩ := hW
  have hA : DataW.TrodAll enc Try.prog W 0 (fun _ => true) true Try.f6.params.toList args.toList ds p := hA0
  rw [Try.params6] at hA hval hsz
  obtain ⟨v0, vs0, d0, ds0, p0, q0, hargs, rfl, rfl, h0, r0⟩ := trodAll_cons hA
  obtain ⟨v1, vs1, d1, ds1, p1, q1, rfl, rfl, rfl, h1, r1⟩ := trodAll_cons r0
  obtain ⟨v2, vs2, d2, ds2, p2, q2, rfl, rfl, rfl, h2, r2⟩ := trodAll_cons r1
  obtain ⟨rfl, rfl, rfl⟩ := trodAll_nil r2
  obtain rfl : args = #[v0, v1, v2] := by cases args; simp_all
  obtain ⟨rfl, rfl⟩ := trodVars_none hV
  have k0 := h0
  have lt0 : ∀ x ∈ p0, x.block < W.heap.size := by obtain ⟨m, hm⟩ := k0; exact DataW.trod_lt m _ _ _ hm
  obtain ⟨a0, c0, L0, rfl, m0, z0, e0, g0, y0⟩ := open_ents (hval 0 22 v0 rfl rfl) h0
  have k1 := h1
  have lt1 : ∀ x ∈ p1, x.block < W.heap.size := by obtain ⟨m, hm⟩ := k1; exact DataW.trod_lt m _ _ _ hm
  obtain ⟨a1, n1, c1, F1, rfl, m1, z1, e1, g1⟩ := open_bls (hval 1 50 v1 rfl rfl) h1
  have k2 := h2
  have lt2 : ∀ x ∈ p2, x.block < W.heap.size := by obtain ⟨m, hm⟩ := k2; exact DataW.trod_lt m _ _ _ hm
  obtain ⟨x2, e2, rfl⟩ := open_byte (hval 2 5 v2 rfl rfl) h2
  clear hA0 hval0 hsz0
  refine (core a0 c0 L0 a1 n1 c1 F1 x2 W m0 z0 e0 g0 y0 m1 z1 e1 g1 e2).mono fun e W' ⟨he, bel⟩ => ?_
  subst he
  exact ⟨_, rfl, _, _, _, [], _, [], hW', trodAll_mk1 (shut_bool Try.underlying4 _), (trodAll_cons_mk (Below.trod laidOut (by kernel_rfl) (of_decide_eq_true (by kernel_rfl)) k0 bel lt0) (trodAll_cons_mk (Below.trod laidOut (by kernel_rfl) (of_decide_eq_true (by kernel_rfl)) k1 bel lt1) (trodAll_cons_mk (Below.trod laidOut (by kernel_rfl) (of_decide_eq_true (by kernel_rfl)) k2 bel lt2) trodAll_mk0))), rfl, bel.frame _, fun h => by cases h⟩

theorem over : Rows.pageGoneRow.holds Try.pinned (OpenSpec.ofChange Rows.pageGoneSpec) :=
  OpenClaim.holds_of_wide 6 Try.f6 rfl rfl rfl rfl rfl rfl rfl ⟨rfl, rfl, rfl, rfl, rfl⟩ rfl rfl rfl rfl rfl (by kernel_rfl) Try.func6 (by kernel_rfl)
    (of_decide_eq_true (by kernel_rfl)) (by unfold Func.isWrapper; first | (rw [if_pos (by decide +kernel)]; kernel_rfl) | (rw [if_neg (by decide +kernel)]; exact ⟨rfl, rfl⟩))
    (fun os started H enc _ => lifted os started H enc)

end pageGone

/-- The statement. -/
theorem pageGone_holds : Rows.PageGoneSaid := pageGone.over
#print axioms pageGone_holds
end Go.Proofs.Ytahnkkifegdjeaa
