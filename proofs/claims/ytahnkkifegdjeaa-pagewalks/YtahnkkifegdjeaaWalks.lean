/-
  PageWalks: for every row of entries, every prefix and every byte the law answers true: where the entries are few, short and fair and the prefix is short, the pages of versions and of objects, one behind the other by their tokens, are all versions and all objects under the prefix, once each and in order, however many go on a page.
-/
import Derived.Test.YtahnkkifegdjeaaRows
import Derived.WalkKit
import Derived.ProofKit
import Derived.OpenShut
import Derived.ShutString
import Derived.ChangeOld
import Derived.Below
import Derived.SizedLaws
import Derived.ChangeSame
import Derived.ChangeMaps5
import Derived.Test.YtahnkkifegdjeaaLwW
import Derived.Test.YtahnkkifegdjeaaOp8
namespace Go.Proofs.Ytahnkkifegdjeaa
namespace pageWalks
open Go.ChangeShapes Go.WideShapes Go.ChangeAt Go.RowKit Go.Shelf Go.Sort Nq
set_option linter.unusedVariables false
attribute [local go_sem ↓] Go.wp_at_zero Go.wp_at_succ

theorem own : ownKnob Try.prog.godebug = none := by kernel_rfl
theorem laidOut : laidOutB Try.prog = true := by kernel_rfl

set_option maxRecDepth 100000 in
set_option maxHeartbeats 8000000 in
theorem core (a0 : Option Addr) (c0 : Nat) (L : List En) (s : ByteArray) (m : Nat) (w : World) (h : Es w a0 L) (hz : a0 = none → L.length = 0 ∧ c0 = 0) (hn : L.length ≤ maxLen) (hc : L.length ≤ c0) (hk : ∀ i, i < L.length → L[i]!.key.size ≤ maxLen) (hs : s.size ≤ maxLen) (hm : m < 256) :
    Calls Try.prog 4 #[.slice a0 L.length c0, .string s, .int .u8 (m : Int)] w fun e w' => e = .returned (.bool true) ∧ Below w.heap.size w w' := by
  have HS : Aside (s.size ≤ maxLen) := hs
  clear hs
  have HE : Aside (Es w a0 L) := h
  have HN : Aside (L.length ≤ maxLen) := hn
  have HK : Aside (∀ i, i < L.length → L[i]!.key.size ≤ maxLen) := hk
  have cA := awake_any w
  clear h hn hk hz
  go_enter Try.func4, Try.ntmps4
  go_wp2_with fail
  go_at_call 8
  refine cA.mono ?_
  rintro e w2 ⟨rfl, k2⟩
  have B2 : Aside (Below w.heap.size w w2) := k2
  clear cA k2
  have cF := few_any a0 c0 L w2 (HE.out.keep B2.out) HN.out HK.out
  go_wp2_with fail
  go_at_call 9
  refine cF.mono ?_
  rintro e w3 ⟨⟨b1, rfl, hb1⟩, k3⟩
  have B3 : Aside (Below w.heap.size w w3) := hop B2.out k3
  clear cF k3 B2
  cases b1 with
  | false =>
    go_wp2
    go_ret
    exact ⟨rfl, B3.out⟩
  | true =>
  have HF1 : Aside (FewP L) := hb1 rfl
  have cG := fair_any a0 c0 L w3 (HE.out.keep B3.out) (by have := HF1.out.1; omega)
  clear hb1
  go_wp2_with fail
  go_at_call 10
  refine cG.mono ?_
  rintro e w4' ⟨⟨b1, rfl, hb1⟩, n4, rfl⟩
  have B4 : Aside (Below w.heap.size w (w3.drewN n4)) := bld B3.out _
  clear cG B3
  generalize w3.drewN n4 = w4 at *
  cases b1 with
  | false =>
    go_wp2
    go_ret
    exact ⟨rfl, B4.out⟩
  | true =>
  have HF2 : Aside (FairP L) := hb1 rfl
  have hl200 : L.length ≤ 200 := HF1.out.1
  clear hb1
  by_cases h100 : 100 < s.size
  · have g1 : (100 : Int) < (s.size : Int) := by omega
    have g2 : decide ((100 : Int) < (s.size : Int)) = true := decide_eq_true g1
    go_wp2
    go_ret
    exact ⟨rfl, B4.out⟩
  have g1 : ¬ (100 : Int) < (s.size : Int) := by omega
  have g2 : decide ((100 : Int) < (s.size : Int)) = false := decide_eq_false g1
  have ml : ∀ i, i < L.length → L[i]!.key.size ≤ maxLen := HK.out
  obtain ⟨n, hnn⟩ : ∃ n : Nat, n = 1 + m % 20 := ⟨_, rfl⟩
  have hn0 : 0 < n := by omega
  have hn20 : n ≤ 20 := by omega
  have hn1 : (1 : Int) ≤ ((n : Nat) : Int) := by omega
  have hn2 : ((n : Nat) : Int) ≤ 1000 := by omega
  have HNN : Aside ((1 : Int) + (m : Int) % 20 = (n : Int)) := by show _ = _; omega
  clear hnn ml
  have c1 := rversions_is a0 c0 L ⟨s, noB, 0, 1000⟩ w4 (HE.out.keep B4.out) HF1.out HF2.out HS.out (by show (0 : Nat) ≤ maxLen; unfold maxLen; omega) ⟨by show (1 : Int) ≤ 1000; decide, by show (1000 : Int) ≤ 1000; decide⟩
  rw [pgV_pre HF1.out] at c1
  obtain ⟨X, hX⟩ : ∃ X, vX L s = X := ⟨_, rfl⟩
  have HXD : Aside (X = vX L s) := hX.symm
  have hX' : (srt L).filter (fun e => pre (tx e.key) (tx s)) = X := hX
  rw [hX'] at c1
  unfold PageIs av anv noB at c1
  dsimp only at c1
  clear hX hX' h100
  go_upto_region 6 with fail
  rw [HNN.out]
  go_wp2_with fail
  go_at_call 15
  refine c1.mono ?_
  rintro e v4 ⟨a5, c5, rfl, o5, l4⟩
  obtain ⟨w5, hw, n5, m4⟩ := box_an v4 34 (.slice a5 X.length c5) false ⟨#[]⟩ 0
  have HW : Hid (v4.alloc (.cells #[.slice a5 X.length c5, .bool false, .string ⟨#[]⟩, .int .i64 0] 34) = w5) := hw
  have B5 : Aside (Below w.heap.size w w5) := hop (hop B4.out l4) m4
  have O5 : Aside (EOwn w5 0 (.slice a5 X.length c5) X) := (o5.keep m4).mono (Nat.zero_le _)
  have N5 : Aside (NAt w5 v4.heap.size (.slice a5 X.length c5) false ⟨#[]⟩ 0) := n5
  have c2 := robjects_is a0 c0 L ⟨s, noB, 0, 1000⟩ w5 (HE.out.keep B5.out) HF1.out HF2.out HS.out (by show (0 : Nat) ≤ maxLen; unfold maxLen; omega) ⟨by show (1 : Int) ≤ 1000; decide, by show (1000 : Int) ≤ 1000; decide⟩
  rw [pgO_pre HF1.out] at c2
  obtain ⟨Z, hZ⟩ : ∃ Z, oX L s = Z := ⟨_, rfl⟩
  have HZD : Aside (Z = oX L s) := hZ.symm
  have hZ' : (srt L).filter (fun e => pre (tx e.key) (tx s) && pO e) = Z := hZ
  rw [hZ'] at c2
  unfold PageIs av anv noB at c2
  dsimp only at c2
  clear hw c1 l4 m4 o5 n5 B4 hZ hZ'
  go_upto_region 7 with fail
  rw [HW.out]
  clear HW
  generalize v4.heap.size = p5 at *
  go_wp2_with fail
  go_at_call 13
  refine c2.mono ?_
  rintro e v5 ⟨a7, c7, rfl, o7, l5⟩
  obtain ⟨w6, hw, n7, m5⟩ := box_an v5 34 (.slice a7 Z.length c7) false ⟨#[]⟩ 0
  have HW : Hid (v5.alloc (.cells #[.slice a7 Z.length c7, .bool false, .string ⟨#[]⟩, .int .i64 0] 34) = w6) := hw
  have B6 : Aside (Below w.heap.size w w6) := hop (hop B5.out l5) m5
  have O7 : Aside (EOwn w6 0 (.slice a7 Z.length c7) Z) := (o7.keep m5).mono (Nat.zero_le _)
  have O6 : Aside (EOwn w6 0 (.slice a5 X.length c5) X) := O5.out.keep (hop l5 m5)
  have N6 : Aside (NAt w6 p5 (.slice a5 X.length c5) false ⟨#[]⟩ 0) := N5.out.keep (hop l5 m5)
  have N7 : Aside (NAt w6 v5.heap.size (.slice a7 Z.length c7) false ⟨#[]⟩ 0) := n7
  clear hw c2 l5 m5 o7 n7 B5 O5 N5
  go_upto_region 9 with fail
  rw [HW.out]
  clear HW
  generalize v5.heap.size = p7 at *
  obtain ⟨w7, hw7⟩ : ∃ W, w6.alloc (.cells #[.string s, .string ⟨#[]⟩, .int .i64 0, .int .i64 (n : Int)] 32) = W := ⟨_, rfl⟩
  obtain ⟨w8, hw8⟩ : ∃ W, w7.alloc (.cells #[.string s, .string ⟨#[]⟩, .int .i64 0, .int .i64 (n : Int)] 32) = W := ⟨_, rfl⟩
  have b7 : Below w6.heap.size w6 w7 := by rw [← hw7]; exact bal _ _
  have b8 : Below w7.heap.size w7 w8 := by rw [← hw8]; exact bal _ _
  have k7 : QB w7 w6.heap.size ⟨s, noB, 0, n⟩ := by rw [← hw7]; exact heap_alloc_new _ _
  have k8 : QB w8 w7.heap.size ⟨s, noB, 0, n⟩ := by rw [← hw8]; exact heap_alloc_new _ _
  have HW7 : Hid (w6.alloc (.cells #[.string s, .string ⟨#[]⟩, .int .i64 0, .int .i64 (n : Int)] 32) = w7) := hw7
  have HW8 : Hid (((w6.alloc (.cells #[.string s, .string ⟨#[]⟩, .int .i64 0, .int .i64 (n : Int)] 32)).alloc (.cells #[.string s, .string ⟨#[]⟩, .int .i64 0, .int .i64 (n : Int)] 32)) = w8) := by rw [hw7]; exact hw8
  have B8 : Aside (Below w.heap.size w w8) := hop (hop B6.out b7) b8
  have hsz : w7.heap.size = w6.heap.size + 1 := by rw [← hw7]; exact Array.size_push _
  rw [hsz] at k8
  have K7 : Aside (QB w8 w6.heap.size ⟨s, noB, 0, n⟩) := k7.keep b8 (by omega)
  have K8 : Aside (QB w8 (w6.heap.size + 1) ⟨s, noB, 0, n⟩) := k8
  have sz8 : w8.heap.size = w6.heap.size + 2 := by rw [← hw8]; exact (Array.size_push _).trans (by show w7.heap.size + 1 = _; omega)
  have BB1 : Aside (Below w6.heap.size w6 w8) := hop b7 b8
  clear hw7 hw8 b7 b8 k7 k8 hsz
  have HBW : Aside (Below w.heap.size w w8) := B8
  have BB0 : Aside (Below w6.heap.size w6 w8) := BB1
  obtain ⟨OB, hOB⟩ : ∃ p, w6.heap.size = p := ⟨_, rfl⟩
  have P6 : Aside (w8.heap.size = OB + 2) := by show _ = _; rw [← hOB]; exact sz8
  go_upto_region 10 with fail
  rw [HW8.out]
  clear HW7 HW8 HNN
  have HQI : Aside (QB w8 OB ⟨s, noB, 0, n⟩) := by show QB w8 OB _; rw [← hOB]; exact K7.out
  have HQJ : Aside (QB w8 (OB + 1) ⟨s, noB, 0, n⟩) := by show QB w8 (OB + 1) _; rw [← hOB]; exact K8.out
  have HOBW : Aside (w.heap.size ≤ OB) := by show _ ≤ _; rw [← hOB]; exact B6.out.size
  have hlt7 : p7 < OB := by rw [← hOB]; exact block_lt_of_cell N7.out.c0
  have hlt5 : p5 < OB := by rw [← hOB]; exact block_lt_of_cell N6.out.c0
  have BB : Aside (Below w6.heap.size w6 w8) := BB0
  obtain ⟨_, _, e5, s5⟩ := out_es O6.out
  injection e5 with e5a e5b e5c
  subst e5a; subst e5c
  clear e5b
  obtain ⟨_, _, e7, s7⟩ := out_es O7.out
  injection e7 with e7a e7b e7c
  subst e7a; subst e7c
  clear e7b
  have E5 : Aside (Es w8 a5 X) := s5.keep BB.out
  have E7 : Aside (Es w8 a7 Z) := s7.keep BB.out
  have NE5 : Aside (∀ x, a5 = some x → x.block ≠ OB ∧ x.block ≠ OB + 1) := by
    rintro x rfl
    have := (World.ownsRow.lt O6.out x.block rfl).2
    rw [hOB] at this
    exact ⟨by omega, by omega⟩
  have NE7 : Aside (∀ x, a7 = some x → x.block ≠ OB ∧ x.block ≠ OB + 1) := by
    rintro x rfl
    have := (World.ownsRow.lt O7.out x.block rfl).2
    rw [hOB] at this
    exact ⟨by omega, by omega⟩
  clear s5 s7
  have N6' : Aside (NAt w8 p5 (.slice a5 X.length c5) false ⟨#[]⟩ 0) := N6.out.keep BB.out
  have N7' : Aside (NAt w8 p7 (.slice a7 Z.length c7) false ⟨#[]⟩ 0) := N7.out.keep BB.out
  clear O7 O6 N6 N7 K7 K8 B6 BB
  clear hOB
  obtain ⟨OC, hOC⟩ : ∃ p, OB + 1 = p := ⟨_, rfl⟩
  have HOC : Aside (OB + 1 = OC) := hOC
  rw [hOC] at HQJ NE5 NE7
  simp only [hOC]
  clear hOC
  have HQ0 : Aside (QB w8 OB ⟨s, noB, 0, n⟩) := HQI
  have hob : OB < w8.heap.size := HQ0.out.lt
  have HXX : Aside (X.length ≤ L.length) := by show X.length ≤ L.length; rw [HXD.out]; exact vX_len L s
  clear HQI
  go_wp2_with fail
  go_loopg [16, 12] (L.length + 1) (fun kx sI sX wr => ∃ (i t : Nat) (fr : ByteArray) (fi : Int), sI = .int .i64 i ∧ i ≤ t ∧ t ≤ X.length ∧ L.length + 1 - i ≤ kx ∧ Aside (EOwn wr w8.heap.size sX (X.take t)) ∧ Aside (QB wr OB ⟨s, fr, fi, n⟩) ∧ Aside (w8.grownBy wr (some OB)) ∧ Aside ((srt L).filter (rin ⟨s, fr, fi, n⟩ true) = X.drop t))
  case atStart =>
    have h0 : Aside ((srt L).filter (rin ⟨s, noB, 0, n⟩ true) = X.drop 0) := by show _ = _; rw [HXD.out]; exact vX_start L s n
    exact ⟨0, 0, noB, 0, rfl, Nat.le_refl _, Nat.zero_le _, by omega, EOwn.start _ _, HQ0.out, ⟨rfl, rfl, rfl, Nat.le_refl _, fun _ _ _ => rfl⟩, h0⟩
  case round =>
    obtain ⟨i, t, fr, fi, rfl, hit, htx, hkx, HX, HQ, HG, HST⟩ := hrel
    have hxl := HXX.out
    have hiz : (i : Int) ≤ (L.length : Int) := by omega
    have BR : Aside (Below w.heap.size w wr) := HBW.out.grown HG.out HBW.out.size (fun k hk => by injection hk with hk; have := HOBW.out; omega)
    obtain ⟨q0, q1, q2, q3, qf⟩ := HQ.out.cells
    dsimp only at q0 q1 q2 q3
    have cX := versions_is a0 c0 L ⟨s, fr, fi, n⟩ wr (HE.out.keep BR.out) HF1.out HF2.out HS.out ⟨hn1, hn2⟩
    have hpg : pgV L ⟨s, fr, fi, n⟩ = cutA (X.drop t) (n : Int) true := by unfold pgV; rw [HST.out]
    rw [hpg] at cX
    clear hpg HST
    by_cases hmore : t + n < X.length
    · skip
      rw [page_more X t n true hn0 hmore] at cX
      unfold PageIs av anv at cX
      dsimp only at cX
      rw [if_pos rfl] at cX
      have HNX : Aside ((srt L).filter (rin ⟨s, X[t + n - 1]!.key, X[t + n - 1]!.id, n⟩ true) = X.drop (t + n)) := by
        show _ = _
        have q := vX_next HF2.out s n (t + n - 1) (by rw [← HXD.out]; omega)
        rw [← HXD.out] at q
        rw [q, show t + n - 1 + 1 = t + n by omega]
      have hln : ((X.drop t).take n).length = n := by rw [List.length_take, List.length_drop]; omega
      rw [hln] at cX
      generalize X[t + n - 1]! = e at *
      have gnn : decide ((n : Int) < (n : Int)) = false := by simp
      go_wp2_with fail
      go_at_call 14
      refine cX.mono ?_
      rintro r v7 ⟨a9, c9, rfl, o7, l7⟩
      obtain ⟨W7, hw7, n7, m7⟩ := box_an v7 28 (.slice a9 n c9) true e.key e.id
      have HW7 : Hid (v7.alloc (.cells #[.slice a9 n c9, .bool true, .string e.key, .int .i64 e.id] 28) = W7) := hw7
      have L7 : Aside (Below wr.heap.size wr W7) := hop l7 m7
      have O7 : Aside (EOwn W7 wr.heap.size (.slice a9 n c9) ((X.drop t).take n)) := o7.keep m7
      have N7 : Aside (NAt W7 v7.heap.size (.slice a9 n c9) true e.key e.id) := n7
      have LS : Aside (wr.heap.size ≤ v7.heap.size) := l7.size
      clear hw7 cX o7 l7 m7 n7 q0 q1 q2 q3 qf
      go_upto_region 14 with fail
      rw [HW7.out]
      clear HW7
      have HP7 : Aside (wr.heap.size ≤ v7.heap.size) := LS.out
      generalize v7.heap.size = p9 at *
      have HX6 : Aside (EOwn W7 w8.heap.size _ (X.take t)) := HX.out.keep L7.out
      have HQ6 : Aside (QB W7 OB ⟨s, fr, fi, n⟩) := HQ.out.keep L7.out HQ.out.lt
      have HG6 : Aside (w8.grownBy W7 (some OB)) := gb_hop HG.out L7.out
      obtain ⟨aa, ca, ea, esa, za, _, _⟩ := O7.out.es
      rw [hln] at ea
      injection ea with ea1 ea2 ea3
      subst ea1; subst ea3
      clear ea2
      have htl : (X.take t).length = t := by rw [List.length_take]; omega
      obtain ⟨vN, W8, hr8, o8, hg8, b8⟩ := appendE (c := c9) HX6.out esa za (by rw [hln, htl]; omega) HG6.out.size
      rw [hln] at hr8
      rw [take_on] at o8
      obtain ⟨aN, cN, eN, esN⟩ := out_es o8
      obtain ⟨nN, hnN⟩ : ∃ m, (X.take (t + n)).length = m := ⟨_, rfl⟩
      rw [hnN] at eN
      subst eN
      have HX7 : Aside (EOwn W8 w8.heap.size (.slice aN nN cN) (X.take (t + n))) := o8
      have HQ7 : Aside (QB W8 OB ⟨s, fr, fi, n⟩) := HQ6.out.keep b8 hob
      have HG7 : Aside (w8.grownBy W8 (some OB)) := gb_below HG6.out b8
      obtain ⟨y0, y1, y2, y3⟩ := N7.out
      have hp7 := HP7.out
      have hqz := HQ.out.lt
      have hb7 : W8.heap[p9]? = W7.heap[p9]? := hg8.block p9 (block_lt_of_cell y0) (fun e => by exact absurd (World.ownsRow.lt HX.out p9 e.symm).2 (by omega))
      have z0 := (World.cell?_of_block (w := W7) (a := ⟨p9, 0, none⟩) hb7).trans y0
      have z1 := (World.cell?_of_block (w := W7) (a := ⟨p9, 1, none⟩) hb7).trans y1
      have z2 := (World.cell?_of_block (w := W7) (a := ⟨p9, 2, none⟩) hb7).trans y2
      have z3 := (World.cell?_of_block (w := W7) (a := ⟨p9, 3, none⟩) hb7).trans y3
      obtain ⟨q0, q1, q2, q3, qf⟩ := HQ7.out.cells
      dsimp only at q0 q1 q2 q3
      have hpo : p9 ≠ OB := by omega
      have hob8 : OB < ((W8.setCell ⟨OB, 1, none⟩ (.string e.key)).setCell ⟨OB, 2, none⟩ (.int .i64 e.id)).heap.size := ((HQ7.out.set1 e.key).set2 e.id).lt
      have HQ8 : Aside (QB ((W8.setCell ⟨OB, 1, none⟩ (.string e.key)).setCell ⟨OB, 2, none⟩ (.int .i64 e.id)).drew OB ⟨s, e.key, e.id, n⟩) := ((HQ7.out.set1 e.key).set2 e.id).keep (bdn _ 1) hob8
      have HG8 : Aside (w8.grownBy ((W8.setCell ⟨OB, 1, none⟩ (.string e.key)).setCell ⟨OB, 2, none⟩ (.int .i64 e.id)).drew (some OB)) := gb_hop (gb_set (gb_set HG7.out 1 _) 2 _) (bdn _ 1)
      have HX8 : Aside (EOwn ((W8.setCell ⟨OB, 1, none⟩ (.string e.key)).setCell ⟨OB, 2, none⟩ (.int .i64 e.id)).drew w8.heap.size (.slice aN nN cN) (X.take (t + n))) := ((HX7.out.set hob).set hob).keep (bdn _ 1)
      clear o8 hg8 b8 esN esa za hb7 HX HQ HG HX6 HQ6 HG6 L7 O7 N7 htl hln hnN
      go_wp2_with (at_builtin; refine wpList_append_ran (by rfl) _ _ 22 (by rfl) _ _ _ _ (by rfl) (by rfl) hr8 ?_)
      go_big_region
      go_wp2_with fail
      generalize ((W8.setCell ⟨OB, 1, none⟩ (.string e.key)).setCell ⟨OB, 2, none⟩ (.int .i64 e.id)).drew = W9 at *
      go_roundg (L.length + 1 - (i + 1))
      case measure => omega
      case rel => exact ⟨i + 1, t + n, e.key, e.id, by go_num, by omega, by omega, by omega, HX8, HQ8, HG8, HNX⟩
    · skip
      rw [page_last X t n true (by omega)] at cX
      unfold PageIs av anv noB at cX
      dsimp only at cX
      obtain ⟨l, hln⟩ : ∃ l, (X.drop t).length = l := ⟨_, rfl⟩
      have hlx : l + t = X.length := by rw [← hln, List.length_drop]; omega
      have HLX : Aside (l + t = X.length) := hlx
      have gnl : decide ((n : Int) < (l : Int)) = false := decide_eq_false (by omega)
      have gle : l ≤ n := by omega
      rw [hln] at cX
      clear hlx
      go_wp2_with fail
      go_at_call 14
      refine cX.mono ?_
      rintro r v7 ⟨a9, c9, rfl, o7, l7⟩
      obtain ⟨W7, hw7, n7, m7⟩ := box_an v7 28 (.slice a9 l c9) false ⟨#[]⟩ 0
      have HW7 : Hid (v7.alloc (.cells #[.slice a9 l c9, .bool false, .string ⟨#[]⟩, .int .i64 0] 28) = W7) := hw7
      have L7 : Aside (Below wr.heap.size wr W7) := hop l7 m7
      have O7 : Aside (EOwn W7 wr.heap.size (.slice a9 l c9) (X.drop t)) := o7.keep m7
      have N7 : Aside (NAt W7 v7.heap.size (.slice a9 l c9) false ⟨#[]⟩ 0) := n7
      have LS : Aside (wr.heap.size ≤ v7.heap.size) := l7.size
      clear hw7 cX o7 l7 m7 n7 q0 q1 q2 q3 qf
      go_upto_region 14 with fail
      rw [HW7.out]
      clear HW7
      have HP7 : Aside (wr.heap.size ≤ v7.heap.size) := LS.out
      generalize v7.heap.size = p9 at *
      have HX6 : Aside (EOwn W7 w8.heap.size _ (X.take t)) := HX.out.keep L7.out
      have HQ6 : Aside (QB W7 OB ⟨s, fr, fi, n⟩) := HQ.out.keep L7.out HQ.out.lt
      have HG6 : Aside (w8.grownBy W7 (some OB)) := gb_hop HG.out L7.out
      obtain ⟨aa, ca, ea, esa, za, _, _⟩ := O7.out.es
      rw [hln] at ea
      injection ea with ea1 ea2 ea3
      subst ea1; subst ea3
      clear ea2
      have htl : (X.take t).length = t := by rw [List.length_take]; omega
      obtain ⟨vN, W8, hr8, o8, hg8, b8⟩ := appendE (c := c9) HX6.out esa za (by rw [hln, htl]; have := HLX.out; omega) HG6.out.size
      rw [hln] at hr8
      rw [List.take_append_drop] at o8
      obtain ⟨aN, cN, eN, esN⟩ := out_es o8
      skip
      skip
      subst eN
      have HX7 : Aside (EOwn W8 w8.heap.size (.slice aN X.length cN) X) := o8
      have HQ7 : Aside (QB W8 OB ⟨s, fr, fi, n⟩) := HQ6.out.keep b8 hob
      have HG7 : Aside (w8.grownBy W8 (some OB)) := gb_below HG6.out b8
      obtain ⟨y0, y1, y2, y3⟩ := N7.out
      have hp7 := HP7.out
      have hqz := HQ.out.lt
      have hb7 : W8.heap[p9]? = W7.heap[p9]? := hg8.block p9 (block_lt_of_cell y0) (fun e => by exact absurd (World.ownsRow.lt HX.out p9 e.symm).2 (by omega))
      have z0 := (World.cell?_of_block (w := W7) (a := ⟨p9, 0, none⟩) hb7).trans y0
      have z1 := (World.cell?_of_block (w := W7) (a := ⟨p9, 1, none⟩) hb7).trans y1
      have z2 := (World.cell?_of_block (w := W7) (a := ⟨p9, 2, none⟩) hb7).trans y2
      have z3 := (World.cell?_of_block (w := W7) (a := ⟨p9, 3, none⟩) hb7).trans y3
      obtain ⟨q0, q1, q2, q3, qf⟩ := HQ7.out.cells
      dsimp only at q0 q1 q2 q3
      have hpo : p9 ≠ OB := by omega
      have hOB8 : w8.heap.size ≤ W8.heap.size := HG7.out.size
      have BR8 : Aside (Below w.heap.size w W8) := HBW.out.grown HG7.out HBW.out.size (fun k hk => by injection hk with hk; have := HOBW.out; omega)
      have HX9 : Aside (Es W8 aN X) := esN
      clear o8 hg8 b8 esN esa za hb7 HX HQ HG HX6 HQ6 HG6 L7 O7 N7 htl hln
      go_wp2_with (at_builtin; refine wpList_append_ran (by rfl) _ _ 22 (by rfl) _ _ _ _ (by rfl) (by rfl) hr8 ?_)
      have gz : decide (n < l) = false := decide_eq_false (by omega)
      try simp only [gz]
      clear gz
      have HY : Aside (Es W8 aN X) := HX9.out
      have NEX : Aside (∀ x, aN = some x → x.block ≠ OC) := by
        rintro x rfl e
        have h1 := (World.ownsRow.lt HX7.out x.block rfl).1
        have h2 := P6.out
        have h3 := HOC.out
        omega
      have hco : OC ≠ OB := by have := HOC.out; omega
      have HE5 : Aside (Es W8 a5 X) := gb_es HG7.out E5.out (fun x hx => (NE5.out x hx).1)
      have HE7 : Aside (Es W8 a7 Z) := gb_es HG7.out E7.out (fun x hx => (NE7.out x hx).1)
      have M6 : Aside (NAt W8 p5 (.slice a5 X.length c5) false ⟨#[]⟩ 0) := gb_nat HG7.out (by omega) N6'.out
      have M7 : Aside (NAt W8 p7 (.slice a7 Z.length c7) false ⟨#[]⟩ 0) := gb_nat HG7.out (by omega) N7'.out
      have HQI : Aside (QB W8 OC ⟨s, noB, 0, n⟩) := HQJ.out.gb HG7.out hco
      have hc7 : p7 < OC := by have := HOC.out; omega
      have hc5 : p5 < OC := by have := HOC.out; omega
      have HOBX : Aside (w.heap.size ≤ OC) := by have h1 := HOBW.out; have h2 := HOC.out; show _ ≤ _; omega
      have HXW : Aside (X.length ≤ L.length) := HXX.out
      clear HBW HOBW HX9 HX7 HQ7 HG7 y0 y1 y2 y3 z0 z1 z2 z3 q0 q1 q2 q3 qf hp7 hqz hpo hob HQ0 HXX HLX gnl gle BR hxl HQJ E5 E7 N6' N7' HP7 LS hOB8
      have HBW : Aside (Below w.heap.size w W8) := BR8
      have HOBW : Aside (w.heap.size ≤ OC) := HOBX.out
      obtain ⟨aX, hax⟩ : ∃ x, x = aN := ⟨_, rfl⟩
      obtain ⟨cX, hcx⟩ : ∃ x, x = cN := ⟨_, rfl⟩
      subst hax
      subst hcx
      clear HOBX BR8
      have HQ0 : Aside (QB W8 OC ⟨s, noB, 0, n⟩) := HQI
      have hob : OC < W8.heap.size := HQ0.out.lt
      have HXX : Aside (Z.length ≤ L.length) := by show Z.length ≤ L.length; rw [HZD.out]; exact oX_len L s
      clear HQI
      go_loopg [19, 13] (L.length + 1) (fun kx sI sX wr => ∃ (i t : Nat) (fr : ByteArray), sI = .int .i64 i ∧ i ≤ t ∧ t ≤ Z.length ∧ L.length + 1 - i ≤ kx ∧ Aside (EOwn wr W8.heap.size sX (Z.take t)) ∧ Aside (QB wr OC ⟨s, fr, 0, n⟩) ∧ Aside (W8.grownBy wr (some OC)) ∧ Aside ((srt L).filter (rin ⟨s, fr, 0, n⟩ false) = Z.drop t))
      case atStart =>
        have h0 : Aside ((srt L).filter (rin ⟨s, noB, 0, n⟩ false) = Z.drop 0) := by show _ = _; rw [HZD.out]; exact oX_start L s n
        exact ⟨0, 0, noB, rfl, Nat.le_refl _, Nat.zero_le _, by omega, EOwn.start _ _, HQ0.out, ⟨rfl, rfl, rfl, Nat.le_refl _, fun _ _ _ => rfl⟩, h0⟩
      case round =>
        obtain ⟨i, t, fr, rfl, hit, htx, hkx, HX, HQ, HG, HST⟩ := hrel
        have hxl := HXX.out
        have hiz : (i : Int) ≤ (L.length : Int) := by omega
        have BR : Aside (Below w.heap.size w wr) := HBW.out.grown HG.out HBW.out.size (fun k hk => by injection hk with hk; have := HOBW.out; omega)
        obtain ⟨q0, q1, q2, q3, qf⟩ := HQ.out.cells
        dsimp only at q0 q1 q2 q3
        have cX := objects_is a0 c0 L ⟨s, fr, 0, n⟩ wr (HE.out.keep BR.out) HF1.out HF2.out HS.out ⟨hn1, hn2⟩
        have hpg : pgO L ⟨s, fr, 0, n⟩ = cutA (Z.drop t) (n : Int) false := by unfold pgO; rw [HST.out]
        rw [hpg] at cX
        clear hpg HST
        by_cases hmore : t + n < Z.length
        · skip
          rw [page_more Z t n false hn0 hmore] at cX
          unfold PageIs av anv at cX
          dsimp only at cX
          rw [if_neg Bool.false_ne_true] at cX
          have HNX : Aside ((srt L).filter (rin ⟨s, Z[t + n - 1]!.key, 0, n⟩ false) = Z.drop (t + n)) := by
            show _ = _
            have q := oX_next HF2.out s n (t + n - 1) (by rw [← HZD.out]; omega)
            rw [← HZD.out] at q
            rw [q, show t + n - 1 + 1 = t + n by omega]
          have hln : ((Z.drop t).take n).length = n := by rw [List.length_take, List.length_drop]; omega
          rw [hln] at cX
          generalize Z[t + n - 1]! = e at *
          have gnn : decide ((n : Int) < (n : Int)) = false := by simp
          go_wp2_with fail
          go_at_call 11
          refine cX.mono ?_
          rintro r v7 ⟨a9, c9, rfl, o7, l7⟩
          obtain ⟨W7, hw7, n7, m7⟩ := box_an v7 28 (.slice a9 n c9) true e.key 0
          have HW7 : Hid (v7.alloc (.cells #[.slice a9 n c9, .bool true, .string e.key, .int .i64 0] 28) = W7) := hw7
          have L7 : Aside (Below wr.heap.size wr W7) := hop l7 m7
          have O7 : Aside (EOwn W7 wr.heap.size (.slice a9 n c9) ((Z.drop t).take n)) := o7.keep m7
          have N7 : Aside (NAt W7 v7.heap.size (.slice a9 n c9) true e.key 0) := n7
          have LS : Aside (wr.heap.size ≤ v7.heap.size) := l7.size
          clear hw7 cX o7 l7 m7 n7 q0 q1 q2 q3 qf
          go_upto_region 23 with fail
          rw [HW7.out]
          clear HW7
          have HP7 : Aside (wr.heap.size ≤ v7.heap.size) := LS.out
          generalize v7.heap.size = p9 at *
          have HX6 : Aside (EOwn W7 W8.heap.size _ (Z.take t)) := HX.out.keep L7.out
          have HQ6 : Aside (QB W7 OC ⟨s, fr, 0, n⟩) := HQ.out.keep L7.out HQ.out.lt
          have HG6 : Aside (W8.grownBy W7 (some OC)) := gb_hop HG.out L7.out
          obtain ⟨aa, ca, ea, esa, za, _, _⟩ := O7.out.es
          rw [hln] at ea
          injection ea with ea1 ea2 ea3
          subst ea1; subst ea3
          clear ea2
          have htl : (Z.take t).length = t := by rw [List.length_take]; omega
          obtain ⟨vN, WQ, hr8, o8, hg8, b8⟩ := appendE (c := c9) HX6.out esa za (by rw [hln, htl]; omega) HG6.out.size
          rw [hln] at hr8
          rw [take_on] at o8
          obtain ⟨aN, cN, eN, esN⟩ := out_es o8
          obtain ⟨nN, hnN⟩ : ∃ m, (Z.take (t + n)).length = m := ⟨_, rfl⟩
          rw [hnN] at eN
          subst eN
          have HX7 : Aside (EOwn WQ W8.heap.size (.slice aN nN cN) (Z.take (t + n))) := o8
          have HQ7 : Aside (QB WQ OC ⟨s, fr, 0, n⟩) := HQ6.out.keep b8 hob
          have HG7 : Aside (W8.grownBy WQ (some OC)) := gb_below HG6.out b8
          obtain ⟨y0, y1, y2, y3⟩ := N7.out
          have hp7 := HP7.out
          have hqz := HQ.out.lt
          have hb7 : WQ.heap[p9]? = W7.heap[p9]? := hg8.block p9 (block_lt_of_cell y0) (fun e => by exact absurd (World.ownsRow.lt HX.out p9 e.symm).2 (by omega))
          have z0 := (World.cell?_of_block (w := W7) (a := ⟨p9, 0, none⟩) hb7).trans y0
          have z1 := (World.cell?_of_block (w := W7) (a := ⟨p9, 1, none⟩) hb7).trans y1
          have z2 := (World.cell?_of_block (w := W7) (a := ⟨p9, 2, none⟩) hb7).trans y2
          have z3 := (World.cell?_of_block (w := W7) (a := ⟨p9, 3, none⟩) hb7).trans y3
          obtain ⟨q0, q1, q2, q3, qf⟩ := HQ7.out.cells
          dsimp only at q0 q1 q2 q3
          have hpo : p9 ≠ OC := by omega
          have HQ8 : Aside (QB (WQ.setCell ⟨OC, 1, none⟩ (.string e.key)) OC ⟨s, e.key, 0, n⟩) := HQ7.out.set1 e.key
          have HG8 : Aside (W8.grownBy (WQ.setCell ⟨OC, 1, none⟩ (.string e.key)) (some OC)) := gb_set HG7.out 1 _
          have HX8 : Aside (EOwn (WQ.setCell ⟨OC, 1, none⟩ (.string e.key)) W8.heap.size (.slice aN nN cN) (Z.take (t + n))) := HX7.out.set hob
          clear o8 hg8 b8 esN esa za hb7 HX HQ HG HX6 HQ6 HG6 L7 O7 N7 htl hln hnN
          go_wp2_with (at_builtin; refine wpList_append_ran (by rfl) _ _ 22 (by rfl) _ _ _ _ (by rfl) (by rfl) hr8 ?_)
          generalize (WQ.setCell ⟨OC, 1, none⟩ (.string e.key)) = W9 at *
          go_roundg (L.length + 1 - (i + 1))
          case measure => omega
          case rel => exact ⟨i + 1, t + n, e.key, by go_num, by omega, by omega, by omega, HX8, HQ8, HG8, HNX⟩
        · skip
          rw [page_last Z t n false (by omega)] at cX
          unfold PageIs av anv noB at cX
          dsimp only at cX
          obtain ⟨l, hln⟩ : ∃ l, (Z.drop t).length = l := ⟨_, rfl⟩
          have hlx : l + t = Z.length := by rw [← hln, List.length_drop]; omega
          have HLX : Aside (l + t = Z.length) := hlx
          have gnl : decide ((n : Int) < (l : Int)) = false := decide_eq_false (by omega)
          have gle : l ≤ n := by omega
          rw [hln] at cX
          clear hlx
          go_wp2_with fail
          go_at_call 11
          refine cX.mono ?_
          rintro r v7 ⟨a9, c9, rfl, o7, l7⟩
          obtain ⟨W7, hw7, n7, m7⟩ := box_an v7 28 (.slice a9 l c9) false ⟨#[]⟩ 0
          have HW7 : Hid (v7.alloc (.cells #[.slice a9 l c9, .bool false, .string ⟨#[]⟩, .int .i64 0] 28) = W7) := hw7
          have L7 : Aside (Below wr.heap.size wr W7) := hop l7 m7
          have O7 : Aside (EOwn W7 wr.heap.size (.slice a9 l c9) (Z.drop t)) := o7.keep m7
          have N7 : Aside (NAt W7 v7.heap.size (.slice a9 l c9) false ⟨#[]⟩ 0) := n7
          have LS : Aside (wr.heap.size ≤ v7.heap.size) := l7.size
          clear hw7 cX o7 l7 m7 n7 q0 q1 q2 q3 qf
          go_upto_region 23 with fail
          rw [HW7.out]
          clear HW7
          have HP7 : Aside (wr.heap.size ≤ v7.heap.size) := LS.out
          generalize v7.heap.size = p9 at *
          have HX6 : Aside (EOwn W7 W8.heap.size _ (Z.take t)) := HX.out.keep L7.out
          have HQ6 : Aside (QB W7 OC ⟨s, fr, 0, n⟩) := HQ.out.keep L7.out HQ.out.lt
          have HG6 : Aside (W8.grownBy W7 (some OC)) := gb_hop HG.out L7.out
          obtain ⟨aa, ca, ea, esa, za, _, _⟩ := O7.out.es
          rw [hln] at ea
          injection ea with ea1 ea2 ea3
          subst ea1; subst ea3
          clear ea2
          have htl : (Z.take t).length = t := by rw [List.length_take]; omega
          obtain ⟨vN, WQ, hr8, o8, hg8, b8⟩ := appendE (c := c9) HX6.out esa za (by rw [hln, htl]; have := HLX.out; omega) HG6.out.size
          rw [hln] at hr8
          rw [List.take_append_drop] at o8
          obtain ⟨aN, cN, eN, esN⟩ := out_es o8
          skip
          skip
          subst eN
          have HX7 : Aside (EOwn WQ W8.heap.size (.slice aN Z.length cN) Z) := o8
          have HQ7 : Aside (QB WQ OC ⟨s, fr, 0, n⟩) := HQ6.out.keep b8 hob
          have HG7 : Aside (W8.grownBy WQ (some OC)) := gb_below HG6.out b8
          obtain ⟨y0, y1, y2, y3⟩ := N7.out
          have hp7 := HP7.out
          have hqz := HQ.out.lt
          have hb7 : WQ.heap[p9]? = W7.heap[p9]? := hg8.block p9 (block_lt_of_cell y0) (fun e => by exact absurd (World.ownsRow.lt HX.out p9 e.symm).2 (by omega))
          have z0 := (World.cell?_of_block (w := W7) (a := ⟨p9, 0, none⟩) hb7).trans y0
          have z1 := (World.cell?_of_block (w := W7) (a := ⟨p9, 1, none⟩) hb7).trans y1
          have z2 := (World.cell?_of_block (w := W7) (a := ⟨p9, 2, none⟩) hb7).trans y2
          have z3 := (World.cell?_of_block (w := W7) (a := ⟨p9, 3, none⟩) hb7).trans y3
          obtain ⟨q0, q1, q2, q3, qf⟩ := HQ7.out.cells
          dsimp only at q0 q1 q2 q3
          have hpo : p9 ≠ OC := by omega
          have hOB8 : W8.heap.size ≤ WQ.heap.size := HG7.out.size
          have BR8 : Aside (Below w.heap.size w WQ) := HBW.out.grown HG7.out HBW.out.size (fun k hk => by injection hk with hk; have := HOBW.out; omega)
          have HX9 : Aside (Es WQ aN Z) := esN
          have hzl := HXX.out
          have hxl2 := HXW.out
          have hl200' : L.length ≤ 200 := hl200
          have e1 : Es WQ aX X := gb_es HG7.out HY.out NEX.out
          have e2 : Es WQ a5 X := gb_es HG7.out HE5.out (fun x hx => (NE5.out x hx).2)
          have e3 : Es WQ a7 Z := gb_es HG7.out HE7.out (fun x hx => (NE7.out x hx).2)
          obtain ⟨x0, x1, x2, x3⟩ := gb_nat HG7.out (by omega) M6.out
          have HM7 : Aside (NAt WQ p7 (.slice a7 Z.length c7) false ⟨#[]⟩ 0) := gb_nat HG7.out (by omega) M7.out
          have cS1 := same_any aX a5 cX c5 X WQ e1 e2 (by unfold maxLen; omega)
          have cS2 := fun q => same_any aN a7 cN c7 Z (WQ.drewN q) (HX9.out.keep (bdn _ _)) (e3.keep (bdn _ _)) (by unfold maxLen; omega)
          have HBF : Aside (Below w.heap.size w WQ) := BR8
          clear o8 hg8 b8 esN esa za hb7 HX HQ HG HX6 HQ6 HG6 L7 O7 N7 htl hln
          go_wp2_with (at_builtin; refine wpList_append_ran (by rfl) _ _ 22 (by rfl) _ _ _ _ (by rfl) (by rfl) hr8 ?_)
          go_at_call 18
          refine cS1.mono ?_
          rintro r w' ⟨rfl, q9, rfl⟩
          obtain ⟨x0, x1, x2, x3⟩ := HM7.out.keep (bdn WQ q9)
          go_wp2_with fail
          go_at_call 18
          refine (cS2 _).mono ?_
          rintro r w' ⟨rfl, q10, rfl⟩
          go_wp2
          go_ret
          exact ⟨rfl, bld HBF.out _⟩


set_option maxRecDepth 100000 in
theorem lifted (os : Os) (started : os.Started) (H : Type) (enc : TypeId × Value → H) :
    ReturnsInHanded {} Try.checked os 4 .any (Rows.pageWalksSpec.pre6 enc Try.prog Try.f4 Rows.pageWalksRow.domain false) (Rows.pageWalksSpec.post enc Try.prog Try.f4 false true false false) := by
  refine returnsInHanded_of_change_sized (C := Try.checked) own started (by kernel_rfl) Try.func4
    (ChangeSpec.witness6 (enc := enc) (C := Try.checked) false ⟨#[], #[.slice none 0 0, .string ⟨#[]⟩, .int .u8 0], []⟩ 8 (by kernel_rfl) (by kernel_rfl) (by kernel_rfl) (by kernel_rfl)) ?_
  intro W base args ds gs before hval0 hW hcnd hsz0 _
  have hval : ∀ (j : Nat) t v, Try.f4.params[j]? = some t → args[j]? = some v → Value.okWide Try.prog W .any base t v := hval0
  have hsz : (DataW.weightsEach Try.prog (Try.f4.params.toList ++ Rows.pageWalksSpec.plain.varTypes Try.prog) (ds ++ gs)).all (· ≤ reachBytes) = true := hsz0
  have hW' := hW
  obtain ⟨p, q, hA0, hV, rfl, hfz, hnd⟩ := hW
  have hA : DataW.TrodAll enc Try.prog W 0 (fun _ => true) true Try.f4.params.toList args.toList ds p := hA0
  rw [Try.params4] at hA hval hsz
  obtain ⟨v0, vs0, d0, ds0, p0, q0, hargs, rfl, rfl, h0, r0⟩ := trodAll_cons hA
  obtain ⟨v1, vs1, d1, ds1, p1, q1, rfl, rfl, rfl, h1, r1⟩ := trodAll_cons r0
  obtain ⟨v2, vs2, d2, ds2, p2, q2, rfl, rfl, rfl, h2, r2⟩ := trodAll_cons r1
  obtain ⟨rfl, rfl, rfl⟩ := trodAll_nil r2
  obtain rfl : args = #[v0, v1, v2] := by cases args; simp_all
  obtain ⟨rfl, rfl⟩ := trodVars_none hV
  have k0 := h0
  have lt0 : ∀ x ∈ p0, x.block < W.heap.size := by obtain ⟨m, hm⟩ := k0; exact DataW.trod_lt m _ _ _ hm
  obtain ⟨a0, c0, L0, rfl, m0, z0, e0, g0, y0⟩ := open_ents (hval 0 22 v0 rfl rfl) h0
  have k1 := h1
  have lt1 : ∀ x ∈ p1, x.block < W.heap.size := by obtain ⟨m, hm⟩ := k1; exact DataW.trod_lt m _ _ _ hm
  obtain ⟨x1, e1, rfl⟩ := open_str (hval 1 9 v1 rfl rfl) h1
  have k2 := h2
  have lt2 : ∀ x ∈ p2, x.block < W.heap.size := by obtain ⟨m, hm⟩ := k2; exact DataW.trod_lt m _ _ _ hm
  obtain ⟨x2, e2, rfl⟩ := open_byte (hval 2 5 v2 rfl rfl) h2
  clear hA0 hval0 hsz0
  refine (core a0 c0 L0 x1 x2 W m0 z0 e0 g0 y0 e1 e2).mono fun e W' ⟨he, bel⟩ => ?_
  subst he
  exact ⟨_, rfl, _, _, _, [], _, [], hW', trodAll_mk1 (shut_bool Try.underlying4 _), (trodAll_cons_mk (Below.trod laidOut (by kernel_rfl) (of_decide_eq_true (by kernel_rfl)) k0 bel lt0) (trodAll_cons_mk (Below.trod laidOut (by kernel_rfl) (of_decide_eq_true (by kernel_rfl)) k1 bel lt1) (trodAll_cons_mk (Below.trod laidOut (by kernel_rfl) (of_decide_eq_true (by kernel_rfl)) k2 bel lt2) trodAll_mk0))), rfl, bel.frame _, fun h => by cases h⟩

theorem over : Rows.pageWalksRow.holds Try.pinned (OpenSpec.ofChange Rows.pageWalksSpec) :=
  OpenClaim.holds_of_wide 4 Try.f4 rfl rfl rfl rfl rfl rfl rfl ⟨rfl, rfl, rfl, rfl, rfl⟩ rfl rfl rfl rfl rfl (by kernel_rfl) Try.func4 (by kernel_rfl)
    (of_decide_eq_true (by kernel_rfl)) (by unfold Func.isWrapper; first | (rw [if_pos (by decide +kernel)]; kernel_rfl) | (rw [if_neg (by decide +kernel)]; exact ⟨rfl, rfl⟩))
    (fun os started H enc _ => lifted os started H enc)

end pageWalks

/-- The statement. -/
theorem pageWalks_holds : Rows.PageWalksSaid := pageWalks.over
#print axioms pageWalks_holds
end Go.Proofs.Ytahnkkifegdjeaa
