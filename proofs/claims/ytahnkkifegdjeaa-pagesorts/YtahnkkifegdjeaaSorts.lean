/-
  PageSorts: for every row of entries and every turn the law answers true: where the entries are few, short and fair, they are sorted to the same list in whatever order they came, all of them, each key's together, the greatest id first.
-/
import Derived.Test.YtahnkkifegdjeaaRows
import Derived.WalkKit
import Derived.ProofKit
import Derived.OpenShut
import Derived.ShutString
import Derived.ChangeOld
import Derived.Below
import Derived.SizedLaws
import Derived.ChangeSame
import Derived.ChangeMaps5
import Derived.Test.YtahnkkifegdjeaaLwS
import Derived.Test.YtahnkkifegdjeaaOp8
namespace Go.Proofs.Ytahnkkifegdjeaa
namespace pageSorts
open Go.ChangeShapes Go.WideShapes Go.ChangeAt Go.RowKit Go.Shelf Go.Sort Nq
set_option linter.unusedVariables false
attribute [local go_sem ↓] Go.wp_at_zero Go.wp_at_succ

theorem own : ownKnob Try.prog.godebug = none := by kernel_rfl
theorem laidOut : laidOutB Try.prog = true := by kernel_rfl

set_option maxRecDepth 100000 in
set_option maxHeartbeats 4000000 in
theorem core (a0 : Option Addr) (c0 : Nat) (L : List En) (t : Nat) (w : World) (h : Es w a0 L) (hz : a0 = none → L.length = 0 ∧ c0 = 0) (hn : L.length ≤ maxLen) (hc : L.length ≤ c0) (hk : ∀ i, i < L.length → L[i]!.key.size ≤ maxLen) (ht : t < 256) :
    Calls Try.prog 5 #[.slice a0 L.length c0, .int .u8 (t : Int)] w fun e w' => e = .returned (.bool true) ∧ Below w.heap.size w w' := by
  have HZ0 : Aside (a0 = none → L.length = 0 ∧ c0 = 0) := hz
  have HE : Aside (Es w a0 L) := h
  have HN : Aside (L.length ≤ maxLen) := hn
  have HK : Aside (∀ i, i < L.length → L[i]!.key.size ≤ maxLen) := hk
  have cA := awake_any w
  clear h hn hk hz
  go_enter Try.func5, Try.ntmps5
  go_wp2_with fail
  go_at_call 8
  refine cA.mono ?_
  rintro e w2 ⟨rfl, k2⟩
  have B2 : Aside (Below w.heap.size w w2) := k2
  clear cA k2
  have cF := few_any a0 c0 L w2 (HE.out.keep B2.out) HN.out HK.out
  go_wp2_with fail
  go_at_call 9
  refine cF.mono ?_
  rintro e w3 ⟨⟨b1, rfl, hb1⟩, k3⟩
  have B3 : Aside (Below w.heap.size w w3) := hop B2.out k3
  clear cF k3 B2
  cases b1 with
  | false =>
    go_wp2
    go_ret
    exact ⟨rfl, B3.out⟩
  | true =>
  have HF1 : Aside (FewP L) := hb1 rfl
  have cG := fair_any a0 c0 L w3 (HE.out.keep B3.out) (by have := HF1.out.1; omega)
  clear hb1
  go_wp2_with fail
  go_at_call 10
  refine cG.mono ?_
  rintro e w4' ⟨⟨b1, rfl, hb1⟩, n4, rfl⟩
  have B4 : Aside (Below w.heap.size w (w3.drewN n4)) := bld B3.out _
  clear cG B3
  generalize w3.drewN n4 = w4 at *
  cases b1 with
  | false =>
    go_wp2
    go_ret
    exact ⟨rfl, B4.out⟩
  | true =>
  have HF2 : Aside (FairP L) := hb1 rfl
  have hl200 : L.length ≤ 200 := HF1.out.1
  clear hb1
  have cS := sort_any a0 c0 L w4 (HE.out.keep B4.out) (by omega)
  obtain ⟨k, hk1, hk2⟩ : ∃ k : Nat, (k = if 0 < L.length then t % L.length else 0) ∧ k ≤ L.length := ⟨_, rfl, by split; exact Nat.le_of_lt (Nat.mod_lt _ (by omega)); exact Nat.zero_le _⟩
  have HKK : Aside (k = if 0 < L.length then t % L.length else 0) := hk1
  clear hk1
  by_cases hl0 : 0 < L.length
  · have gl : (0 : Int) < (L.length : Int) := by omega
    have HKZ : Aside ((t : Int) % (L.length : Int) = (k : Int)) := by
      show _ = _
      rw [HKK.out, if_pos hl0]; simp
    go_upto_region 8 with fail
    rw [HKZ.out]
    go_wp2_with fail
    go_at_call 19
    refine cS.mono ?_
    rintro r w5 ⟨g6, M6, rfl, e6, s6, b6, _, k6⟩
    obtain rfl := srt_all HF2.out M6 s6
    have B5 : Aside (Below w.heap.size w w5) := hop B4.out k6
    have G5 : Aside (EB w5 g6 (srt L)) := b6
    clear cS s6 b6 k6 B4
    have HKS : Aside (∀ e ∈ srt L, e.key.size ≤ maxLen) := fair_keys HF1.out
    have E5 : Aside (Es w5 a0 L) := HE.out.keep B5.out
    obtain ⟨A1, hA1⟩ : ∃ A, A = (if c0 = k then a0 else a0.map (·.add (k * 6))) := ⟨_, rfl⟩
    obtain ⟨A2, hA2⟩ : ∃ A, A = (if c0 = 0 then a0 else a0.map (·.add (0 * 6))) := ⟨_, rfl⟩
    have s1 : ∀ w', Sem.run Try.prog (Instr.slice 22 (.slice a0 L.length c0) (some (.int .i64 (k : Int))) none none) w' = .ok (.slice A1 (L.length - k) (c0 - k)) w' := fun w' => by rw [hA1]; have q := sliceE_l a0 L.length c0 k hk2 hc w'; exact q
    have s2 : ∀ w', Sem.run Try.prog (Instr.slice 22 (.slice a0 L.length c0) none (some (.int .i64 (k : Int))) none) w' = .ok (.slice A2 k c0) w' := fun w' => by rw [hA2]; have q := sliceE_h a0 L.length c0 k hk2 hc w'; exact q
    have r1 : Aside (∀ W, Below w5.heap.size w5 W → Es W A1 (L.drop k)) := fun W hb => by rw [hA1]; exact (E5.out.keep hb).behind k hc
    have r2 : Aside (∀ W, Below w5.heap.size w5 W → Es W A2 (L.take k)) := fun W hb => by rw [hA2]; exact (E5.out.keep hb).ahead k hk2
    have z1 : A1 = none → (L.drop k).length = 0 ∧ c0 - k = 0 := fun q => by
      have : a0 = none := by
        rw [hA1] at q
        by_cases e : c0 = k
        · rw [if_pos e] at q; exact q
        · rw [if_neg e] at q; cases a0 with | none => rfl | some x => cases q
      obtain ⟨j1, j2⟩ := HZ0.out this
      rw [List.length_drop]; omega
    have z2 : A2 = none → (L.take k).length = 0 ∧ c0 = 0 := fun q => by
      have : a0 = none := by
        rw [hA2] at q
        by_cases e : c0 = 0
        · rw [if_pos e] at q; exact q
        · rw [if_neg e] at q; cases a0 with | none => rfl | some x => cases q
      obtain ⟨j1, j2⟩ := HZ0.out this
      rw [List.length_take]; omega
    have l1 : (L.drop k).length = L.length - k := List.length_drop
    have l2 : (L.take k).length = k := by rw [List.length_take]; omega
    obtain ⟨w6, hw6⟩ : ∃ W, w5.drew.alloc (.cells #[] 48) = W := ⟨_, rfl⟩
    have b6 : Below w5.heap.size w5 w6 := by rw [← hw6]; exact hop (bdn w5 1) (bal _ _)
    have q6 : EOwn w6 w5.heap.size (.slice (some ⟨w5.heap.size, 0, none⟩) 0 0) [] := by rw [← hw6]; exact lit_none w5.drew
    obtain ⟨v7, w7, hr7, o7, _, b7⟩ := appendE (c := c0 - k) q6 (r1.out w6 b6) z1 (by rw [l1]; simp; omega) b6.size
    rw [l1] at hr7
    have b7' : Below w5.heap.size w5 w7 := b6.trans b7
    rw [List.nil_append] at o7
    obtain ⟨v8, w8, hr8, o8, _, b8⟩ := appendE (c := c0) o7 (r2.out w7 b7') z2 (by rw [l1, l2]; omega) b7'.size
    rw [l2] at hr8
    have b8' : Below w5.heap.size w5 w8 := b7'.trans b8
    obtain ⟨a8, c8, rfl, es8⟩ := out_es o8
    obtain ⟨a7, c7, rfl, _⟩ := out_es o7
    have hRl : (L.drop k ++ L.take k).length = L.length := (rot_perm L k).length_eq
    have cR := sort_any a8 c8 (L.drop k ++ L.take k) w8 es8 (by omega)
    rw [hRl] at cR hr8
    rw [l1] at hr7 hr8
    have K : Hid (Calls Try.prog 19 #[.slice a8 L.length c8] w8 fun r w9 => ∃ g9, r = .returned (.slice (some ⟨g9, 0, none⟩) L.length L.length) ∧ EB w9 g9 (srt L) ∧ Below w5.heap.size w5 w9) := by
      refine cR.mono ?_
      rintro r w9 ⟨g9, M9, rfl, e9, s9, q9, _, k9⟩
      obtain rfl := srt_all HF2.out M9 (sort_perm s9 (rot_perm L k))
      exact ⟨g9, by rw [srt_length], q9, hop b8' k9⟩
    have HW6 : Hid (w5.drew.alloc (.cells #[] 48) = w6) := hw6
    have E6 : Aside ((srt L).length = L.length) := srt_length L
    clear hA1 hA2 r1 r2 z1 z2 l1 l2 b6 q6 o7 b7 b7' o8 b8 b8' es8 cR hRl HKK E5
    rw [E6.out]
    go_upto_region 9 with fail
    go_region_law (first
      | refine step_append_ran (by rfl) _ _ 22 (by rfl) (.slice (some ⟨w5.heap.size, 0, none⟩) 0 0) (.slice A1 (L.length - k) (c0 - k)) (.slice a7 (L.length - k) c7) w7 (by rfl) (by rfl) (by dsimp only; with_reducible exact hr7) ?_
      | refine step_append_ran (by rfl) _ _ 22 (by rfl) (.slice a7 (L.length - k) c7) (.slice A2 k c0) (.slice a8 L.length c8) w8 (by rfl) (by rfl) (by dsimp only; with_reducible exact hr8) ?_
      | (go_simp; go_at_call 19; refine K.out.mono ?_; rintro r w9 ⟨g9, rfl, q9, k9⟩))
    all_goals
      have B9 : Aside (Below w.heap.size w w9) := hop B5.out k9
      have G6 : EB w9 g6 (srt L) := G5.out.keep k9
      have cT := same_any (some ⟨g6, 0, none⟩) (some ⟨g9, 0, none⟩) L.length L.length (srt L) w9 G6.es q9.es (by rw [E6.out]; unfold maxLen; omega)
      rw [E6.out] at cT
      have HG : Aside (EB w9 g6 (srt L)) := G6
      have gn : ((L.length : Int) != (L.length : Int)) = false := by simp
      clear G6 q9 k9 hr7 hr8 hw6 B5 G5 K
      go_wp2_with fail
      go_at_call 18
      refine cT.mono ?_
      rintro r w10' ⟨rfl, q10, rfl⟩
      have B10 : Aside (Below w.heap.size w (w9.drewN q10)) := bld B9.out _
      have HG2 : Aside (EB (w9.drewN q10) g6 (srt L)) := HG.out.keep (bdn _ _)
      clear cT B9 HG
      generalize w9.drewN q10 = w10 at *
      go_wp2_with fail
      go_loopg [8] (L.length) (fun kx s8 wr => ∃ i : Nat, s8 = .int .i64 i ∧ 1 ≤ i ∧ i ≤ L.length + 1 ∧ L.length - i ≤ kx ∧ Aside (∃ qq, wr = w10.drewN qq))
      case atStart => exact ⟨1, rfl, Nat.le_refl _, by omega, by omega, ⟨0, rfl⟩⟩
      case round =>
        obtain ⟨i, rfl, hi1, hi2, hkx, HQQ⟩ := hrel
        have HG3 : Aside (EB wr g6 (srt L)) := by
          obtain ⟨qq, e⟩ := HQQ.out
          rw [e]; exact HG2.out.keep (bdn _ _)
        have HQ3 : Aside (∀ m, ∃ qq, wr.drewN m = w10.drewN qq) := fun m => by
          obtain ⟨qq, e⟩ := HQQ.out
          exact ⟨qq + m, by rw [e, World.drewN_drewN]⟩
        have B11 : Aside (Below w.heap.size w wr) := by
          obtain ⟨qq, e⟩ := HQQ.out
          rw [e]; exact bld B10.out _
        clear HQQ
        by_cases hlt : i < L.length
        · obtain ⟨x, rfl⟩ : ∃ x, i = x + 1 := ⟨i - 1, by omega⟩
          have st := strict_step HF2.out x (by rw [E6.out]; exact hlt)
          have e1 := HG3.out.at (i := x + 1) (by rw [E6.out]; exact hlt)
          have e0 := HG3.out.at (i := x) (by rw [E6.out]; omega)
          have y1 := HKS.out _ (at_mem (L := srt L) (i := x + 1) (by rw [E6.out]; exact hlt))
          have y0 := HKS.out _ (at_mem (L := srt L) (i := x) (by rw [E6.out]; omega))
          generalize (srt L)[x + 1]! = b at *
          generalize (srt L)[x]! = a at *
          obtain ⟨q, hq⟩ : ∃ q, x * 6 = q := ⟨_, rfl⟩
          have hq2 : (x + 1) * 6 = q + 6 := by omega
          rw [hq2] at e1
          rw [hq] at e0
          obtain ⟨c1, c2, c3, c4, c5, c6⟩ := e1
          obtain ⟨d1, d2, d3, d4, d5, d6⟩ := e0
          have cL := fun w => rless_any b.key a.key w y1 y0
          rw [st.1] at cL
          have hkb := key_beq b.key a.key
          have hz2 : (x : Int) + 1 < (L.length : Int) := by omega
          have hz3 : (x : Int) < (L.length : Int) := by omega
          have hz4 : ((x : Int) + 1).toNat = x + 1 := by omega
          have hz5 : (0 : Int) ≤ (x : Int) + 1 := by omega
          have hz8 : IntKind.i64.wrap ((x : Int) + 1) = (x : Int) + 1 := by rw [IntKind.wrap_i64]; omega
          have hz9 : IntKind.i64.wrap (x : Int) = (x : Int) := by rw [IntKind.wrap_i64]; omega
          clear y0 y1
          by_cases hke : b.key = a.key
          · obtain ⟨hid, hla⟩ := st.2 hke
            rw [decide_eq_true hke] at hkb
            have hg : decide (a.id ≤ b.id) = false := decide_eq_false (by omega)
            rw [hla] at c6
            clear st hke hid hla
            go_wp2_with fail
            go_quiet ((go_at_call 21; exact Calls.quiet_of (cL _)))
            go_wp2
            go_roundg (L.length - (x + 1 + 1))
            case measure => omega
            case rel => exact ⟨x + 1 + 1, by go_num, by omega, by omega, Nat.le_refl _, HQ3.out _⟩
          · rw [decide_eq_false hke] at hkb
            clear st hke
            go_wp2_with fail
            go_quiet ((go_at_call 21; exact Calls.quiet_of (cL _)))
            go_wp2
            go_roundg (L.length - (x + 1 + 1))
            case measure => omega
            case rel => exact ⟨x + 1 + 1, by go_num, by omega, by omega, Nat.le_refl _, HQ3.out _⟩
        · have hiz : ¬ (i : Int) < (L.length : Int) := by omega
          go_wp2
          go_ret
          exact ⟨rfl, B11.out⟩
  · have gl : ¬ (0 : Int) < (L.length : Int) := by omega
    have HK0 : Aside (((k : Nat) : Int) = 0) := by show _ = _; rw [HKK.out, if_neg hl0]; rfl
    go_upto_region 8 with fail
    go_wp2_with fail
    go_at_call 19
    refine cS.mono ?_
    rintro r w5 ⟨g6, M6, rfl, e6, s6, b6, _, k6⟩
    obtain rfl := srt_all HF2.out M6 s6
    have B5 : Aside (Below w.heap.size w w5) := hop B4.out k6
    have G5 : Aside (EB w5 g6 (srt L)) := b6
    clear cS s6 b6 k6 B4
    have HKS : Aside (∀ e ∈ srt L, e.key.size ≤ maxLen) := fair_keys HF1.out
    have E5 : Aside (Es w5 a0 L) := HE.out.keep B5.out
    obtain ⟨A1, hA1⟩ : ∃ A, A = (if c0 = k then a0 else a0.map (·.add (k * 6))) := ⟨_, rfl⟩
    obtain ⟨A2, hA2⟩ : ∃ A, A = (if c0 = 0 then a0 else a0.map (·.add (0 * 6))) := ⟨_, rfl⟩
    have s1 : ∀ w', Sem.run Try.prog (Instr.slice 22 (.slice a0 L.length c0) (some (.int .i64 0)) none none) w' = .ok (.slice A1 (L.length - k) (c0 - k)) w' := fun w' => by rw [hA1]; have q := sliceE_l a0 L.length c0 k hk2 hc w'; rw [HK0.out] at q; exact q
    have s2 : ∀ w', Sem.run Try.prog (Instr.slice 22 (.slice a0 L.length c0) none (some (.int .i64 0)) none) w' = .ok (.slice A2 k c0) w' := fun w' => by rw [hA2]; have q := sliceE_h a0 L.length c0 k hk2 hc w'; rw [HK0.out] at q; exact q
    have r1 : Aside (∀ W, Below w5.heap.size w5 W → Es W A1 (L.drop k)) := fun W hb => by rw [hA1]; exact (E5.out.keep hb).behind k hc
    have r2 : Aside (∀ W, Below w5.heap.size w5 W → Es W A2 (L.take k)) := fun W hb => by rw [hA2]; exact (E5.out.keep hb).ahead k hk2
    have z1 : A1 = none → (L.drop k).length = 0 ∧ c0 - k = 0 := fun q => by
      have : a0 = none := by
        rw [hA1] at q
        by_cases e : c0 = k
        · rw [if_pos e] at q; exact q
        · rw [if_neg e] at q; cases a0 with | none => rfl | some x => cases q
      obtain ⟨j1, j2⟩ := HZ0.out this
      rw [List.length_drop]; omega
    have z2 : A2 = none → (L.take k).length = 0 ∧ c0 = 0 := fun q => by
      have : a0 = none := by
        rw [hA2] at q
        by_cases e : c0 = 0
        · rw [if_pos e] at q; exact q
        · rw [if_neg e] at q; cases a0 with | none => rfl | some x => cases q
      obtain ⟨j1, j2⟩ := HZ0.out this
      rw [List.length_take]; omega
    have l1 : (L.drop k).length = L.length - k := List.length_drop
    have l2 : (L.take k).length = k := by rw [List.length_take]; omega
    obtain ⟨w6, hw6⟩ : ∃ W, w5.drew.alloc (.cells #[] 48) = W := ⟨_, rfl⟩
    have b6 : Below w5.heap.size w5 w6 := by rw [← hw6]; exact hop (bdn w5 1) (bal _ _)
    have q6 : EOwn w6 w5.heap.size (.slice (some ⟨w5.heap.size, 0, none⟩) 0 0) [] := by rw [← hw6]; exact lit_none w5.drew
    obtain ⟨v7, w7, hr7, o7, _, b7⟩ := appendE (c := c0 - k) q6 (r1.out w6 b6) z1 (by rw [l1]; simp; omega) b6.size
    rw [l1] at hr7
    have b7' : Below w5.heap.size w5 w7 := b6.trans b7
    rw [List.nil_append] at o7
    obtain ⟨v8, w8, hr8, o8, _, b8⟩ := appendE (c := c0) o7 (r2.out w7 b7') z2 (by rw [l1, l2]; omega) b7'.size
    rw [l2] at hr8
    have b8' : Below w5.heap.size w5 w8 := b7'.trans b8
    obtain ⟨a8, c8, rfl, es8⟩ := out_es o8
    obtain ⟨a7, c7, rfl, _⟩ := out_es o7
    have hRl : (L.drop k ++ L.take k).length = L.length := (rot_perm L k).length_eq
    have cR := sort_any a8 c8 (L.drop k ++ L.take k) w8 es8 (by omega)
    rw [hRl] at cR hr8
    rw [l1] at hr7 hr8
    have K : Hid (Calls Try.prog 19 #[.slice a8 L.length c8] w8 fun r w9 => ∃ g9, r = .returned (.slice (some ⟨g9, 0, none⟩) L.length L.length) ∧ EB w9 g9 (srt L) ∧ Below w5.heap.size w5 w9) := by
      refine cR.mono ?_
      rintro r w9 ⟨g9, M9, rfl, e9, s9, q9, _, k9⟩
      obtain rfl := srt_all HF2.out M9 (sort_perm s9 (rot_perm L k))
      exact ⟨g9, by rw [srt_length], q9, hop b8' k9⟩
    have HW6 : Hid (w5.drew.alloc (.cells #[] 48) = w6) := hw6
    have E6 : Aside ((srt L).length = L.length) := srt_length L
    clear hA1 hA2 r1 r2 z1 z2 l1 l2 b6 q6 o7 b7 b7' o8 b8 b8' es8 cR hRl HKK E5
    rw [E6.out]
    go_upto_region 9 with fail
    go_region_law (first
      | refine step_append_ran (by rfl) _ _ 22 (by rfl) (.slice (some ⟨w5.heap.size, 0, none⟩) 0 0) (.slice A1 (L.length - k) (c0 - k)) (.slice a7 (L.length - k) c7) w7 (by rfl) (by rfl) (by dsimp only; with_reducible exact hr7) ?_
      | refine step_append_ran (by rfl) _ _ 22 (by rfl) (.slice a7 (L.length - k) c7) (.slice A2 k c0) (.slice a8 L.length c8) w8 (by rfl) (by rfl) (by dsimp only; with_reducible exact hr8) ?_
      | (go_simp; go_at_call 19; refine K.out.mono ?_; rintro r w9 ⟨g9, rfl, q9, k9⟩))
    all_goals
      have B9 : Aside (Below w.heap.size w w9) := hop B5.out k9
      have G6 : EB w9 g6 (srt L) := G5.out.keep k9
      have cT := same_any (some ⟨g6, 0, none⟩) (some ⟨g9, 0, none⟩) L.length L.length (srt L) w9 G6.es q9.es (by rw [E6.out]; unfold maxLen; omega)
      rw [E6.out] at cT
      have HG : Aside (EB w9 g6 (srt L)) := G6
      have gn : ((L.length : Int) != (L.length : Int)) = false := by simp
      clear G6 q9 k9 hr7 hr8 hw6 B5 G5 K
      go_wp2_with fail
      go_at_call 18
      refine cT.mono ?_
      rintro r w10' ⟨rfl, q10, rfl⟩
      have B10 : Aside (Below w.heap.size w (w9.drewN q10)) := bld B9.out _
      have HG2 : Aside (EB (w9.drewN q10) g6 (srt L)) := HG.out.keep (bdn _ _)
      clear cT B9 HG
      generalize w9.drewN q10 = w10 at *
      go_wp2_with fail
      go_loopg [8] (L.length) (fun kx s8 wr => ∃ i : Nat, s8 = .int .i64 i ∧ 1 ≤ i ∧ i ≤ L.length + 1 ∧ L.length - i ≤ kx ∧ Aside (∃ qq, wr = w10.drewN qq))
      case atStart => exact ⟨1, rfl, Nat.le_refl _, by omega, by omega, ⟨0, rfl⟩⟩
      case round =>
        obtain ⟨i, rfl, hi1, hi2, hkx, HQQ⟩ := hrel
        have HG3 : Aside (EB wr g6 (srt L)) := by
          obtain ⟨qq, e⟩ := HQQ.out
          rw [e]; exact HG2.out.keep (bdn _ _)
        have HQ3 : Aside (∀ m, ∃ qq, wr.drewN m = w10.drewN qq) := fun m => by
          obtain ⟨qq, e⟩ := HQQ.out
          exact ⟨qq + m, by rw [e, World.drewN_drewN]⟩
        have B11 : Aside (Below w.heap.size w wr) := by
          obtain ⟨qq, e⟩ := HQQ.out
          rw [e]; exact bld B10.out _
        clear HQQ
        by_cases hlt : i < L.length
        · exfalso; omega
        · have hiz : ¬ (i : Int) < (L.length : Int) := by omega
          go_wp2
          go_ret
          exact ⟨rfl, B11.out⟩


set_option maxRecDepth 100000 in
theorem lifted (os : Os) (started : os.Started) (H : Type) (enc : TypeId × Value → H) :
    ReturnsInHanded {} Try.checked os 5 .any (Rows.pageSortsSpec.pre6 enc Try.prog Try.f5 Rows.pageSortsRow.domain false) (Rows.pageSortsSpec.post enc Try.prog Try.f5 false true false false) := by
  refine returnsInHanded_of_change_sized (C := Try.checked) own started (by kernel_rfl) Try.func5
    (ChangeSpec.witness6 (enc := enc) (C := Try.checked) false ⟨#[], #[.slice none 0 0, .int .u8 0], []⟩ 8 (by kernel_rfl) (by kernel_rfl) (by kernel_rfl) (by kernel_rfl)) ?_
  intro W base args ds gs before hval0 hW hcnd hsz0 _
  have hval : ∀ (j : Nat) t v, Try.f5.params[j]? = some t → args[j]? = some v → Value.okWide Try.prog W .any base t v := hval0
  have hsz : (DataW.weightsEach Try.prog (Try.f5.params.toList ++ Rows.pageSortsSpec.plain.varTypes Try.prog) (ds ++ gs)).all (· ≤ reachBytes) = true := hsz0
  have hW' := hW
  obtain ⟨p, q, hA0, hV, rfl, hfz, hnd⟩ := hW
  have hA : DataW.TrodAll enc Try.prog W 0 (fun _ => true) true Try.f5.params.toList args.toList ds p := hA0
  rw [Try.params5] at hA hval hsz
  obtain ⟨v0, vs0, d0, ds0, p0, q0, hargs, rfl, rfl, h0, r0⟩ := trodAll_cons hA
  obtain ⟨v1, vs1, d1, ds1, p1, q1, rfl, rfl, rfl, h1, r1⟩ := trodAll_cons r0
  obtain ⟨rfl, rfl, rfl⟩ := trodAll_nil r1
  obtain rfl : args = #[v0, v1] := by cases args; simp_all
  obtain ⟨rfl, rfl⟩ := trodVars_none hV
  have k0 := h0
  have lt0 : ∀ x ∈ p0, x.block < W.heap.size := by obtain ⟨m, hm⟩ := k0; exact DataW.trod_lt m _ _ _ hm
  obtain ⟨a0, c0, L0, rfl, m0, z0, e0, g0, y0⟩ := open_ents (hval 0 22 v0 rfl rfl) h0
  have k1 := h1
  have lt1 : ∀ x ∈ p1, x.block < W.heap.size := by obtain ⟨m, hm⟩ := k1; exact DataW.trod_lt m _ _ _ hm
  obtain ⟨x1, e1, rfl⟩ := open_byte (hval 1 5 v1 rfl rfl) h1
  clear hA0 hval0 hsz0
  refine (core a0 c0 L0 x1 W m0 z0 e0 g0 y0 e1).mono fun e W' ⟨he, bel⟩ => ?_
  subst he
  exact ⟨_, rfl, _, _, _, [], _, [], hW', trodAll_mk1 (shut_bool Try.underlying4 _), (trodAll_cons_mk (Below.trod laidOut (by kernel_rfl) (of_decide_eq_true (by kernel_rfl)) k0 bel lt0) (trodAll_cons_mk (Below.trod laidOut (by kernel_rfl) (of_decide_eq_true (by kernel_rfl)) k1 bel lt1) trodAll_mk0)), rfl, bel.frame _, fun h => by cases h⟩

theorem over : Rows.pageSortsRow.holds Try.pinned (OpenSpec.ofChange Rows.pageSortsSpec) :=
  OpenClaim.holds_of_wide 5 Try.f5 rfl rfl rfl rfl rfl rfl rfl ⟨rfl, rfl, rfl, rfl, rfl⟩ rfl rfl rfl rfl rfl (by kernel_rfl) Try.func5 (by kernel_rfl)
    (of_decide_eq_true (by kernel_rfl)) (by unfold Func.isWrapper; first | (rw [if_pos (by decide +kernel)]; kernel_rfl) | (rw [if_neg (by decide +kernel)]; exact ⟨rfl, rfl⟩))
    (fun os started H enc _ => lifted os started H enc)

end pageSorts

/-- The statement. -/
theorem pageSorts_holds : Rows.PageSortsSaid := pageSorts.over
#print axioms pageSorts_holds
end Go.Proofs.Ytahnkkifegdjeaa
