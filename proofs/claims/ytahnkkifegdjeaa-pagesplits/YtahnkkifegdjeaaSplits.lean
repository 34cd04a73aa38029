/-
  PageSplits: for every row of entries and every prefix the law answers true: where the entries are few, short and fair and the prefix is short, the page of all versions under the prefix is the page of all versions, sifted by it, and both hold all.
-/
import Derived.Test.YtahnkkifegdjeaaRows
import Derived.WalkKit
import Derived.ProofKit
import Derived.OpenShut
import Derived.ShutString
import Derived.ChangeOld
import Derived.Below
import Derived.SizedLaws
import Derived.ChangeSame
import Derived.ChangeMaps5
import Derived.Test.YtahnkkifegdjeaaLwH
import Derived.Test.YtahnkkifegdjeaaOp8
namespace Go.Proofs.Ytahnkkifegdjeaa
namespace pageSplits
open Go.ChangeShapes Go.WideShapes Go.ChangeAt Go.RowKit Go.Shelf Go.Sort Nq
set_option linter.unusedVariables false
attribute [local go_sem ↓] Go.wp_at_zero Go.wp_at_succ

theorem own : ownKnob Try.prog.godebug = none := by kernel_rfl
theorem laidOut : laidOutB Try.prog = true := by kernel_rfl

theorem core (a0 : Option Addr) (c0 : Nat) (L : List En) (s : ByteArray) (w : World) (h : Es w a0 L) (hz : a0 = none → L.length = 0 ∧ c0 = 0) (hn : L.length ≤ maxLen) (hc : L.length ≤ c0) (hk : ∀ i, i < L.length → L[i]!.key.size ≤ maxLen) (hs : s.size ≤ maxLen) :
    Calls Try.prog 7 #[.slice a0 L.length c0, .string s] w fun e w' => e = .returned (.bool true) ∧ Below w.heap.size w w' := by
  have HS : Aside (s.size ≤ maxLen) := hs
  clear hs
  have HE : Aside (Es w a0 L) := h
  have HN : Aside (L.length ≤ maxLen) := hn
  have HK : Aside (∀ i, i < L.length → L[i]!.key.size ≤ maxLen) := hk
  have cA := awake_any w
  clear h hn hk hz
  go_enter Try.func7, Try.ntmps7
  go_wp2_with fail
  go_at_call 8
  refine cA.mono ?_
  rintro e w2 ⟨rfl, k2⟩
  have B2 : Aside (Below w.heap.size w w2) := k2
  clear cA k2
  have cF := few_any a0 c0 L w2 (HE.out.keep B2.out) HN.out HK.out
  go_wp2_with fail
  go_at_call 9
  refine cF.mono ?_
  rintro e w3 ⟨⟨b1, rfl, hb1⟩, k3⟩
  have B3 : Aside (Below w.heap.size w w3) := hop B2.out k3
  clear cF k3 B2
  cases b1 with
  | false =>
    go_wp2
    go_ret
    exact ⟨rfl, B3.out⟩
  | true =>
  have HF1 : Aside (FewP L) := hb1 rfl
  have cG := fair_any a0 c0 L w3 (HE.out.keep B3.out) (by have := HF1.out.1; omega)
  clear hb1
  go_wp2_with fail
  go_at_call 10
  refine cG.mono ?_
  rintro e w4' ⟨⟨b1, rfl, hb1⟩, n4, rfl⟩
  have B4 : Aside (Below w.heap.size w (w3.drewN n4)) := bld B3.out _
  clear cG B3
  generalize w3.drewN n4 = w4 at *
  cases b1 with
  | false =>
    go_wp2
    go_ret
    exact ⟨rfl, B4.out⟩
  | true =>
  have HF2 : Aside (FairP L) := hb1 rfl
  have hl200 : L.length ≤ 200 := HF1.out.1
  clear hb1
  by_cases h100 : 100 < s.size
  · have g1 : (100 : Int) < (s.size : Int) := by omega
    have g2 : decide ((100 : Int) < (s.size : Int)) = true := decide_eq_true g1
    go_wp2
    go_ret
    exact ⟨rfl, B4.out⟩
  have g1 : ¬ (100 : Int) < (s.size : Int) := by omega
  have g2 : decide ((100 : Int) < (s.size : Int)) = false := decide_eq_false g1
  have c1 := versions_is a0 c0 L ⟨s, noB, 0, 1000⟩ w4 (HE.out.keep B4.out) HF1.out HF2.out HS.out ⟨by show (1 : Int) ≤ 1000; decide, by show (1000 : Int) ≤ 1000; decide⟩
  rw [pgV_pre HF1.out] at c1
  obtain ⟨X, hX⟩ : ∃ X, (srt L).filter (fun e => pre (tx e.key) (tx s)) = X := ⟨_, rfl⟩
  rw [hX] at c1
  have HXX : Aside ((srt L).filter (fun e => pre (tx e.key) (tx s)) = X) := hX
  unfold PageIs av anv noB at c1
  dsimp only at c1
  clear hX h100
  go_wp2_with fail
  go_at_call 14
  refine c1.mono ?_
  rintro e v4 ⟨a5, c5, rfl, o5, l4⟩
  obtain ⟨w5, hw, n5, m4⟩ := box_an v4 28 (.slice a5 X.length c5) false ⟨#[]⟩ 0
  have HW : Hid (v4.alloc (.cells #[.slice a5 X.length c5, .bool false, .string ⟨#[]⟩, .int .i64 0] 28) = w5) := hw
  have B5 : Aside (Below w.heap.size w w5) := hop (hop B4.out l4) m4
  have O5 : Aside (EOwn w5 0 (.slice a5 X.length c5) X) := (o5.keep m4).mono (Nat.zero_le _)
  have N5 : Aside (NAt w5 v4.heap.size (.slice a5 X.length c5) false ⟨#[]⟩ 0) := n5
  have c2 := versions_is a0 c0 L ⟨noB, noB, 0, 1000⟩ w5 (HE.out.keep B5.out) HF1.out HF2.out (by decide) ⟨by show (1 : Int) ≤ 1000; decide, by show (1000 : Int) ≤ 1000; decide⟩
  rw [pgV_pre HF1.out, pre_none] at c2
  unfold PageIs av anv noB at c2
  dsimp only at c2
  rw [srt_length] at c2
  clear hw c1 l4 m4 o5 n5 B4
  go_upto_region 6 with fail
  rw [HW.out]
  clear HW
  generalize v4.heap.size = p5 at *
  go_wp2_with fail
  go_at_call 14
  refine c2.mono ?_
  rintro e v5 ⟨a7, c7, rfl, o7, l5⟩
  obtain ⟨w6, hw, n7, m5⟩ := box_an v5 28 (.slice a7 L.length c7) false ⟨#[]⟩ 0
  have HW : Hid (v5.alloc (.cells #[.slice a7 L.length c7, .bool false, .string ⟨#[]⟩, .int .i64 0] 28) = w6) := hw
  have B6 : Aside (Below w.heap.size w w6) := hop (hop B5.out l5) m5
  have O7 : Aside (EOwn w6 0 (.slice a7 L.length c7) (srt L)) := (o7.keep m5).mono (Nat.zero_le _)
  have O6 : Aside (EOwn w6 0 (.slice a5 X.length c5) X) := O5.out.keep (hop l5 m5)
  have N6 : Aside (NAt w6 p5 (.slice a5 X.length c5) false ⟨#[]⟩ 0) := N5.out.keep (hop l5 m5)
  have N7 : Aside (NAt w6 v5.heap.size (.slice a7 L.length c7) false ⟨#[]⟩ 0) := n7
  clear hw c2 l5 m5 o7 n7 B5 O5 N5
  go_upto_region 7 with fail
  rw [HW.out]
  clear HW
  generalize v5.heap.size = p7 at *
  obtain ⟨x0, x1, x2, x3⟩ := N6.out
  obtain ⟨y0, y1, y2, y3⟩ := N7.out
  go_wp2_with fail
  go_loopg [9, 10] (L.length) (fun kx s9 s10 wr => ∃ (i : Nat) (Y : List En), s10 = .int .i64 i ∧ i ≤ L.length ∧ L.length - i ≤ kx ∧ Y.length ≤ i ∧ Aside (Y = ((srt L).take i).filter (fun e => pre (tx e.key) (tx s))) ∧ Aside (EOwn wr 0 s9 Y) ∧ Aside (Below w6.heap.size w6 wr) ∧ Aside (EOwn wr w6.heap.size s9 Y))
  case atStart => exact ⟨0, [], rfl, Nat.zero_le _, by omega, Nat.le_refl _, by show _ = _; simp, EOwn.start _ _, Below.refl _ _, EOwn.start _ _⟩
  case round =>
    obtain ⟨i, Y, rfl, hi, hkx, hyi, HY, HO0, HL, HO⟩ := hrel
    clear x0 x1 x2 x3 y0 y1 y2 y3
    obtain ⟨y0, y1, y2, y3⟩ := N7.out.keep HL.out
    by_cases hlt : i < L.length
    · obtain ⟨a9, c9, e9, es9⟩ := out_es (O7.out.keep HL.out)
      injection e9 with e9a e9b e9c
      subst e9a; subst e9c
      clear e9b
      obtain ⟨b, o, rfl, hcs⟩ := es9 (by rw [srt_length]; omega)
      obtain ⟨e, he⟩ : ∃ e, e = (srt L)[i]! := ⟨_, rfl⟩
      have hce := hcs i (by rw [srt_length]; exact hlt)
      rw [← he] at hce
      have hke : e.key.size ≤ maxLen := fair_keys HF1.out e (by rw [he]; exact at_mem (by rw [srt_length]; exact hlt))
      have hmo := filter_more (fun e => pre (tx e.key) (tx s)) (srt L) i (by rw [srt_length]; exact hlt)
      rw [← he, ← HY.out] at hmo
      have HM1 : Aside _ := hmo
      have cP := fun w => rprefix_any e.key s w hke HS.out
      have hiz : (i : Int) < (L.length : Int) := by omega
      obtain ⟨d0, d1, d2, d3, d4, d5⟩ := hce
      clear hcs es9 he hmo
      cases hpv : pre (tx e.key) (tx s) with
      | false =>
        rw [hpv] at cP
        have HY2 : Aside (Y = ((srt L).take (i + 1)).filter (fun e => pre (tx e.key) (tx s))) := by
          show _ = _
          rw [HM1.out, if_neg (by rw [hpv]; simp)]; simp
        clear hpv HM1 HY
        go_wp2_with fail
        go_at_call 22
        refine (cP _).mono ?_
        rintro r w' ⟨rfl, rfl⟩
        go_wp2
        go_roundg (L.length - (i + 1))
        case measure => omega
        case rel => exact ⟨i + 1, Y, by go_num, by omega, Nat.le_refl _, by omega, HY2, HO0, HL, HO⟩
      | true =>
        rw [hpv] at cP
        have HY2 : Aside (Y ++ [e] = ((srt L).take (i + 1)).filter (fun e => pre (tx e.key) (tx s))) := by
          show _ = _
          rw [HM1.out, if_pos hpv]
        obtain ⟨v9, W9, hr9, ho9, hb9⟩ := push_en e HO.out (by have := HF1.out.1; omega) HL.out.size
        have HO2 : Aside (EOwn W9 w6.heap.size v9 (Y ++ [e])) := ho9
        have HO3 : Aside (EOwn W9 0 v9 (Y ++ [e])) := ho9.mono (Nat.zero_le _)
        have HL2 : Aside (Below w6.heap.size w6 W9) := HL.out.trans hb9
        clear hpv HM1 HY ho9 hb9
        go_wp2_with fail
        go_at_call 22
        refine (cP _).mono ?_
        rintro r w' ⟨rfl, rfl⟩
        go_wp2_with (at_builtin; refine wpList_append_ran (by rfl) _ _ 22 (by rfl) _ _ _ _ (by rfl) (by rfl) hr9 ?_)
        go_roundg (L.length - (i + 1))
        case measure => omega
        case rel => exact ⟨i + 1, Y ++ [e], by go_num, by omega, Nat.le_refl _, by rw [List.length_append, List.length_singleton]; omega, HY2, HO3, HL2, HO2⟩
    · have hiz : ¬ (i : Int) < (L.length : Int) := by omega
      have hYX : Y = X := by
        have := HY.out
        rw [List.take_of_length_le (by rw [srt_length]; omega), HXX.out] at this
        exact this
      obtain ⟨a8, c8, hv8, es8⟩ := out_es HO.out
      obtain ⟨a6, c6, e6, es6⟩ := out_es (O6.out.keep HL.out)
      injection e6 with e6a e6b e6c
      subst e6a; subst e6c
      clear e6b
      obtain ⟨x0, x1, x2, x3⟩ := N6.out.keep HL.out
      have hxl : X.length ≤ maxLen := by
        have h1 := HF1.out.1
        have h2 : X.length ≤ L.length := by rw [← HXX.out, ← srt_length L]; exact List.length_filter_le _ _
        unfold maxLen; omega
      have cS := same_any a5 a8 c5 c8 X wr es6 (by rw [← hYX]; exact es8) hxl
      rw [hYX] at hv8
      have gL : ((L.length : Int) == (L.length : Int)) = true := by simp
      have HBF : Aside (Below w.heap.size w wr) := hop B6.out HL.out
      have HN6 : Aside (NAt wr p5 (.slice a5 X.length c5) false ⟨#[]⟩ 0) := ⟨x0, x1, x2, x3⟩
      have HN7 : Aside (NAt wr p7 (.slice a7 L.length c7) false ⟨#[]⟩ 0) := ⟨y0, y1, y2, y3⟩
      subst hv8
      clear hYX es8 es6 HO HO0 HY
      go_wp2_with fail
      go_at_call 18
      refine cS.mono ?_
      rintro r w' ⟨rfl, q9, rfl⟩
      obtain ⟨z0, z1, z2, z3⟩ := HN6.out.keep (bdn wr q9)
      obtain ⟨t0, t1, t2, t3⟩ := HN7.out.keep (bdn wr q9)
      go_wp2
      go_ret
      exact ⟨rfl, bld HBF.out _⟩


set_option maxRecDepth 100000 in
theorem lifted (os : Os) (started : os.Started) (H : Type) (enc : TypeId × Value → H) :
    ReturnsInHanded {} Try.checked os 7 .any (Rows.pageSplitsSpec.pre6 enc Try.prog Try.f7 Rows.pageSplitsRow.domain false) (Rows.pageSplitsSpec.post enc Try.prog Try.f7 false true false false) := by
  refine returnsInHanded_of_change_sized (C := Try.checked) own started (by kernel_rfl) Try.func7
    (ChangeSpec.witness6 (enc := enc) (C := Try.checked) false ⟨#[], #[.slice none 0 0, .string ⟨#[]⟩], []⟩ 8 (by kernel_rfl) (by kernel_rfl) (by kernel_rfl) (by kernel_rfl)) ?_
  intro W base args ds gs before hval0 hW hcnd hsz0 _
  have hval : ∀ (j : Nat) t v, Try.f7.params[j]? = some t → args[j]? = some v → Value.okWide Try.prog W .any base t v := hval0
  have hsz : (DataW.weightsEach Try.prog (Try.f7.params.toList ++ Rows.pageSplitsSpec.plain.varTypes Try.prog) (ds ++ gs)).all (· ≤ reachBytes) = true := hsz0
  have hW' := hW
  obtain ⟨p, q, hA0, hV, rfl, hfz, hnd⟩ := hW
  have hA : DataW.TrodAll enc Try.prog W 0 (fun _ => true) true Try.f7.params.toList args.toList ds p := hA0
  rw [Try.params7] at hA hval hsz
  obtain ⟨v0, vs0, d0, ds0, p0, q0, hargs, rfl, rfl, h0, r0⟩ := trodAll_cons hA
  obtain ⟨v1, vs1, d1, ds1, p1, q1, rfl, rfl, rfl, h1, r1⟩ := trodAll_cons r0
  obtain ⟨rfl, rfl, rfl⟩ := trodAll_nil r1
  obtain rfl : args = #[v0, v1] := by cases args; simp_all
  obtain ⟨rfl, rfl⟩ := trodVars_none hV
  have k0 := h0
  have lt0 : ∀ x ∈ p0, x.block < W.heap.size := by obtain ⟨m, hm⟩ := k0; exact DataW.trod_lt m _ _ _ hm
  obtain ⟨a0, c0, L0, rfl, m0, z0, e0, g0, y0⟩ := open_ents (hval 0 22 v0 rfl rfl) h0
  have k1 := h1
  have lt1 : ∀ x ∈ p1, x.block < W.heap.size := by obtain ⟨m, hm⟩ := k1; exact DataW.trod_lt m _ _ _ hm
  obtain ⟨x1, e1, rfl⟩ := open_str (hval 1 9 v1 rfl rfl) h1
  clear hA0 hval0 hsz0
  refine (core a0 c0 L0 x1 W m0 z0 e0 g0 y0 e1).mono fun e W' ⟨he, bel⟩ => ?_
  subst he
  exact ⟨_, rfl, _, _, _, [], _, [], hW', trodAll_mk1 (shut_bool Try.underlying4 _), (trodAll_cons_mk (Below.trod laidOut (by kernel_rfl) (of_decide_eq_true (by kernel_rfl)) k0 bel lt0) (trodAll_cons_mk (Below.trod laidOut (by kernel_rfl) (of_decide_eq_true (by kernel_rfl)) k1 bel lt1) trodAll_mk0)), rfl, bel.frame _, fun h => by cases h⟩

theorem over : Rows.pageSplitsRow.holds Try.pinned (OpenSpec.ofChange Rows.pageSplitsSpec) :=
  OpenClaim.holds_of_wide 7 Try.f7 rfl rfl rfl rfl rfl rfl rfl ⟨rfl, rfl, rfl, rfl, rfl⟩ rfl rfl rfl rfl rfl (by kernel_rfl) Try.func7 (by kernel_rfl)
    (of_decide_eq_true (by kernel_rfl)) (by unfold Func.isWrapper; first | (rw [if_pos (by decide +kernel)]; kernel_rfl) | (rw [if_neg (by decide +kernel)]; exact ⟨rfl, rfl⟩))
    (fun os started H enc _ => lifted os started H enc)

end pageSplits

/-- The statement. -/
theorem pageSplits_holds : Rows.PageSplitsSaid := pageSplits.over
#print axioms pageSplits_holds
end Go.Proofs.Ytahnkkifegdjeaa
