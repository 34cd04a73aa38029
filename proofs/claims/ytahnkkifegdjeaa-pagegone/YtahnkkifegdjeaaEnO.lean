/-
  What page.objects answers: of each key the latest entry, if it is no marker.
-/
import Derived.Test.YtahnkkifegdjeaaEnC
namespace Go.Proofs.Ytahnkkifegdjeaa
open Go.RowKit Go.Shelf Go.Sort Nq
attribute [local go_sem ↓] Go.wp_at_zero Go.wp_at_succ
set_option linter.unusedVariables false

def pO (e : En) : Bool := e.la && !e.mr
/-- No two of one key are the latest. -/
def NoTwo (M : List En) : Prop := ∀ i j, i < j → j < M.length → M[i]!.la = true → M[j]!.la = true → M[i]!.key ≠ M[j]!.key
set_option maxRecDepth 100000 in
set_option maxHeartbeats 4000000 in
theorem objects_any (a : Option Addr) (c : Nat) (M : List En) (w : World) (h : Es w a M) (hl : M.length ≤ 900000) (hn : NoTwo M) :
    Calls Try.prog 25 #[.slice a M.length c] w fun r w' => ∃ v, r = .returned v ∧ EOwn w' w.heap.size v (M.filter pO) ∧ Below w.heap.size w w' := by
  have HE : Aside (Es w a M) := h
  have HN : Aside (NoTwo M) := hn
  clear h hn
  go_enter Try.func25, Try.ntmps25
  go_wp2
  go_loopg [9, 3, 4] (M.length) (fun kx s9 s3 s4 wr => ∃ (i : Nat) (td : Bool) (Y : List En), s9 = .int .i64 i ∧ s4 = .bool td ∧ i ≤ M.length ∧ M.length - i ≤ kx ∧ Y.length ≤ i ∧ Aside (Y = (M.take i).filter pO) ∧ Aside (td = true → ∃ j, j < i ∧ M[j]!.la = true ∧ M[j]!.key = M[i - 1]!.key) ∧ Aside (EOwn wr w.heap.size s3 Y) ∧ Aside (Below w.heap.size w wr))
  case atStart =>
    have h0 : Aside (false = true → ∃ j, j < 0 ∧ M[j]!.la = true ∧ M[j]!.key = M[0 - 1]!.key) := fun q => by cases q
    exact ⟨0, false, [], rfl, rfl, Nat.zero_le _, by omega, Nat.le_refl _, by show _ = _; simp, h0, EOwn.start _ _, Below.refl _ _⟩
  case round =>
    obtain ⟨i, td, Y, rfl, rfl, hi, hkx, hyi, HY, HT, HO, HL⟩ := hrel
    by_cases hlt : i < M.length
    · obtain ⟨b, o, rfl, hc⟩ := HE.out (by omega)
      obtain ⟨e, he⟩ : ∃ e, e = M[i]! := ⟨_, rfl⟩
      have hce := (hc i hlt).keep HL.out
      rw [← he] at hce
      have HEE : Aside (e = M[i]!) := he
      have hmo := filter_more pO M i hlt
      rw [← he, ← HY.out] at hmo
      have HM1 : Aside _ := hmo
      obtain ⟨c0, c1, c2, c3, c4, c5⟩ := hce
      have hiz : (i : Int) < (M.length : Int) := by omega
      obtain ⟨W2, hW2, h2, k2⟩ := box_en wr 48 e
      have HO2 : Aside (EOwn W2 w.heap.size _ Y) := HO.out.keep k2
      have HL2 : Aside (Below w.heap.size w W2) := HL.out.trans (k2.mono HL.out.size)
      have H2 : Aside (EAt W2 wr.heap.size 0 e) := h2
      by_cases hi0 : i = 0
      · subst hi0
        have ht : td = false := by
          cases td with
          | false => rfl
          | true => obtain ⟨j, hj, _⟩ := HT.out rfl; omega
        subst ht
        clear hc he hmo
        rw [Nat.zero_mul, Nat.add_zero] at c0 c1 c2 c3 c4 c5
        have g0 : decide ((0 : Int) < ((0 : Nat) : Int)) = false := by simp
        obtain ⟨x0, x1, x2, x3, x4, x5⟩ := h2
        clear k2 HO HL
        go_upto_region 6 with fail
        clear hW2
        generalize wr.heap.size = pb at *
        go_quiet (fail)
        have HO3 : Aside (EOwn (W2.drewN nq) w.heap.size _ Y) := HO2.out.keep (bdn _ _)
        have HL3 : Aside (Below w.heap.size w (W2.drewN nq)) := bld HL2.out _
        have H3 : Aside (EAt (W2.drewN nq) pb 0 e) := H2.out.keep (bdn _ _)
        clear x0 x1 x2 x3 x4 x5 HO2 HL2 H2
        clear c0 c1 c2 c3 c4 c5
        generalize W2.drewN nq = W4 at *
        have HO2 : Aside (EOwn W4 w.heap.size _ Y) := HO3.out
        have HL2 : Aside (Below w.heap.size w W4) := HL3.out
        obtain ⟨x0, x1, x2, x3, x4, x5⟩ := H3.out
        clear HO3 HL3 H3
        obtain ⟨i, hii⟩ : ∃ i, i = 0 := ⟨_, rfl⟩
        cases hla : e.la with
        | false =>
          have HY2 : Aside (Y = (M.take (0 + 1)).filter pO) := by
            show _ = _
            rw [HM1.out, if_neg (by unfold pO; rw [hla]; simp)]; simp
          have HT2 : Aside (false = true → ∃ j, j < 0 + 1 ∧ M[j]!.la = true ∧ M[j]!.key = M[0 + 1 - 1]!.key) := fun q => by cases q
          rw [hla] at x5
          clear hla HM1 HY HT
          go_wp2
          go_roundg (M.length - 1)
          case measure => omega
          case rel => exact ⟨1, false, Y, by go_num, rfl, by omega, Nat.le_refl _, by omega, HY2, HT2, HO2, HL2⟩
        | true =>
          have HT2 : Aside (true = true → ∃ j, j < 0 + 1 ∧ M[j]!.la = true ∧ M[j]!.key = M[0 + 1 - 1]!.key) := fun q => ⟨0, by omega, by rw [← HEE.out]; exact hla, by rw [Nat.add_sub_cancel]⟩
          cases hmr : e.mr with
          | true =>
            have HY2 : Aside (Y = (M.take (0 + 1)).filter pO) := by
              show _ = _
              rw [HM1.out, if_neg (by unfold pO; rw [hla, hmr]; simp)]; simp
            rw [hla] at x5
            rw [hmr] at x2
            clear hla hmr HM1 HY HT
            go_wp2
            go_roundg (M.length - 1)
            case measure => omega
            case rel =>
          have HT3 : Aside (true = true → ∃ j, j < 0 + 1 ∧ M[j]!.la = true ∧ M[j]!.key = M[0 + 1 - 1]!.key) := fun _ => HT2.out trivial
          exact ⟨1, true, Y, by go_num, rfl, by omega, Nat.le_refl _, by omega, HY2, HT3, HO2, HL2⟩
          | false =>
            have HY2 : Aside (Y ++ [e] = (M.take (0 + 1)).filter pO) := by
              show _ = _
              rw [HM1.out, if_pos (by unfold pO; rw [hla, hmr]; rfl)]
            have hB3 : w.heap.size ≤ W4.heap.size := HL2.out.size
            obtain ⟨v5, W5, hr5, ho5, hb5⟩ := push_en e HO2.out (by omega) hB3
            have HO5 : Aside (EOwn W5 w.heap.size v5 (Y ++ [e])) := ho5
            have HL5 : Aside (Below w.heap.size w W5) := HL2.out.trans hb5
            rw [hla] at x5
            rw [hmr] at x2
            rw [hla, hmr] at hr5
            clear hla hmr HM1 HY HT ho5 hb5 HO2 HL2
            go_wp2_with (at_builtin; refine wpList_append_ran (by rfl) _ _ 22 (by rfl) _ _ _ _ (by rfl) (by rfl) hr5 ?_)
            go_roundg (M.length - 1)
            case measure => omega
            case rel =>
          have HT3 : Aside (true = true → ∃ j, j < 0 + 1 ∧ M[j]!.la = true ∧ M[j]!.key = M[0 + 1 - 1]!.key) := fun _ => HT2.out trivial
          exact ⟨1, true, Y ++ [e], by go_num, rfl, by omega, Nat.le_refl _, by rw [List.length_append, List.length_singleton]; omega, HY2, HT3, HO5, HL5⟩

      · obtain ⟨i1, rfl⟩ : ∃ i1, i = i1 + 1 := ⟨i - 1, by omega⟩
        obtain ⟨y, hy⟩ : ∃ y, y = M[i1]! := ⟨_, rfl⟩
        have HYY : Aside (y = M[i1]!) := hy
        have hcy := (hc i1 (by omega)).keep (HL.out.trans (k2.mono HL.out.size))
        rw [← hy] at hcy
        obtain ⟨y0, y1, y2, y3, y4, y5⟩ := hcy
        have hkb := key_beq e.key y.key
        have g0 : decide ((0 : Int) < (i1 : Int) + 1) = true := decide_eq_true (by omega)
        have g1 : (0 : Int) < (i1 : Int) + 1 := by omega
        have g2 : (i1 : Int) < (M.length : Int) := by omega
        clear hc he hmo hy
        obtain ⟨x0, x1, x2, x3, x4, x5⟩ := h2
        clear k2 HO HL
        obtain ⟨i, hii⟩ : ∃ i, i = i1 + 1 := ⟨_, rfl⟩
        by_cases hky : e.key = y.key
        · rw [decide_eq_true hky] at hkb
          have hkb2 : (e.key.toList != y.key.toList) = false := by rw [bne, hkb]; rfl
          have HKY : Aside (y.key = M[i1 + 1 - 1]!.key) := by show _ = _; rw [Nat.add_sub_cancel, ← HYY.out]
          have HK2 : Aside (e.key = y.key) := hky
          clear hky
          go_upto_region 6 with fail
          clear hW2
          generalize wr.heap.size = pb at *
          go_quiet (fail)
          have HO3 : Aside (EOwn (W2.drewN nq) w.heap.size _ Y) := HO2.out.keep (bdn _ _)
          have HL3 : Aside (Below w.heap.size w (W2.drewN nq)) := bld HL2.out _
          have H3 : Aside (EAt (W2.drewN nq) pb 0 e) := H2.out.keep (bdn _ _)
          clear x0 x1 x2 x3 x4 x5 HO2 HL2 H2
          clear c0 c1 c2 c3 c4 c5 y0 y1 y2 y3 y4 y5 hkb hkb2
          generalize W2.drewN nq = W4 at *
          have HO2 : Aside (EOwn W4 w.heap.size _ Y) := HO3.out
          have HL2 : Aside (Below w.heap.size w W4) := HL3.out
          obtain ⟨x0, x1, x2, x3, x4, x5⟩ := H3.out
          clear HO3 HL3 H3
          have hky : M[i1 + 1 - 1]!.key = e.key := by rw [HK2.out]; exact HKY.out.symm
          clear hii
          cases td with
          | true =>
            have hla : e.la = false := by
              cases hla : e.la with
              | false => rfl
              | true =>
                obtain ⟨j, hj, j1, j2⟩ := HT.out rfl
                exact absurd (j2.trans (by rw [hky, HEE.out])) (HN.out j (i1 + 1) hj hlt j1 (by rw [← HEE.out]; exact hla))
            have HY2 : Aside (Y = (M.take (i1 + 1 + 1)).filter pO) := by
              show _ = _
              rw [HM1.out, if_neg (by unfold pO; rw [hla]; simp)]; simp
            have HT2 : Aside (true = true → ∃ j, j < i1 + 1 + 1 ∧ M[j]!.la = true ∧ M[j]!.key = M[i1 + 1 + 1 - 1]!.key) := fun q => by
              obtain ⟨j, hj, j1, j2⟩ := HT.out rfl
              exact ⟨j, by omega, j1, by rw [Nat.add_sub_cancel, ← HEE.out, ← hky]; exact j2⟩
            rw [hla] at x5
            clear hla HM1 HY HT hky
            go_wp2
            go_roundg (M.length - (i1 + 1 + 1))
            case measure => omega
            case rel =>
              have HT3 : Aside (true = true → ∃ j, j < i1 + 1 + 1 ∧ M[j]!.la = true ∧ M[j]!.key = M[i1 + 1 + 1 - 1]!.key) := fun _ => HT2.out trivial
              exact ⟨i1 + 1 + 1, true, Y, by go_num, rfl, by omega, Nat.le_refl _, by omega, HY2, HT3, HO2, HL2⟩
          | false =>
            clear hky
            cases hla : e.la with
            | false =>
              have HY2 : Aside (Y = (M.take (i1 + 1 + 1)).filter pO) := by
                show _ = _
                rw [HM1.out, if_neg (by unfold pO; rw [hla]; simp)]; simp
              have HT2 : Aside (false = true → ∃ j, j < i1 + 1 + 1 ∧ M[j]!.la = true ∧ M[j]!.key = M[i1 + 1 + 1 - 1]!.key) := fun q => by cases q
              rw [hla] at x5
              clear hla HM1 HY HT
              go_wp2
              go_roundg (M.length - (i1 + 1 + 1))
              case measure => omega
              case rel => exact ⟨i1 + 1 + 1, false, Y, by go_num, rfl, by omega, Nat.le_refl _, by omega, HY2, HT2, HO2, HL2⟩
            | true =>
              have HT2 : Aside (true = true → ∃ j, j < i1 + 1 + 1 ∧ M[j]!.la = true ∧ M[j]!.key = M[i1 + 1 + 1 - 1]!.key) := fun q => ⟨i1 + 1, by omega, by rw [← HEE.out]; exact hla, by rw [Nat.add_sub_cancel]⟩
              cases hmr : e.mr with
              | true =>
                have HY2 : Aside (Y = (M.take (i1 + 1 + 1)).filter pO) := by
                  show _ = _
                  rw [HM1.out, if_neg (by unfold pO; rw [hla, hmr]; simp)]; simp
                rw [hla] at x5
                rw [hmr] at x2
                clear hla hmr HM1 HY HT
                go_wp2
                go_roundg (M.length - (i1 + 1 + 1))
                case measure => omega
                case rel =>
              have HT3 : Aside (true = true → ∃ j, j < i1 + 1 + 1 ∧ M[j]!.la = true ∧ M[j]!.key = M[i1 + 1 + 1 - 1]!.key) := fun _ => HT2.out trivial
              exact ⟨i1 + 1 + 1, true, Y, by go_num, rfl, by omega, Nat.le_refl _, by omega, HY2, HT3, HO2, HL2⟩
              | false =>
                have HY2 : Aside (Y ++ [e] = (M.take (i1 + 1 + 1)).filter pO) := by
                  show _ = _
                  rw [HM1.out, if_pos (by unfold pO; rw [hla, hmr]; rfl)]
                have hB3 : w.heap.size ≤ W4.heap.size := HL2.out.size
                obtain ⟨v5, W5, hr5, ho5, hb5⟩ := push_en e HO2.out (by omega) hB3
                have HO5 : Aside (EOwn W5 w.heap.size v5 (Y ++ [e])) := ho5
                have HL5 : Aside (Below w.heap.size w W5) := HL2.out.trans hb5
                rw [hla] at x5
                rw [hmr] at x2
                rw [hla, hmr] at hr5
                clear hla hmr HM1 HY HT ho5 hb5 HO2 HL2
                go_wp2_with (at_builtin; refine wpList_append_ran (by rfl) _ _ 22 (by rfl) _ _ _ _ (by rfl) (by rfl) hr5 ?_)
                go_roundg (M.length - (i1 + 1 + 1))
                case measure => omega
                case rel =>
              have HT3 : Aside (true = true → ∃ j, j < i1 + 1 + 1 ∧ M[j]!.la = true ∧ M[j]!.key = M[i1 + 1 + 1 - 1]!.key) := fun _ => HT2.out trivial
              exact ⟨i1 + 1 + 1, true, Y ++ [e], by go_num, rfl, by omega, Nat.le_refl _, by rw [List.length_append, List.length_singleton]; omega, HY2, HT3, HO5, HL5⟩
        · rw [decide_eq_false hky] at hkb
          have hkb2 : (e.key.toList != y.key.toList) = true := by rw [bne, hkb]; rfl
          clear hky
          go_upto_region 6 with fail
          clear hW2
          generalize wr.heap.size = pb at *
          go_quiet (fail)
          have HO3 : Aside (EOwn (W2.drewN nq) w.heap.size _ Y) := HO2.out.keep (bdn _ _)
          have HL3 : Aside (Below w.heap.size w (W2.drewN nq)) := bld HL2.out _
          have H3 : Aside (EAt (W2.drewN nq) pb 0 e) := H2.out.keep (bdn _ _)
          clear x0 x1 x2 x3 x4 x5 HO2 HL2 H2
          clear c0 c1 c2 c3 c4 c5 y0 y1 y2 y3 y4 y5 hkb hkb2
          generalize W2.drewN nq = W4 at *
          have HO2 : Aside (EOwn W4 w.heap.size _ Y) := HO3.out
          have HL2 : Aside (Below w.heap.size w W4) := HL3.out
          obtain ⟨x0, x1, x2, x3, x4, x5⟩ := H3.out
          clear HO3 HL3 H3
          clear hii
          cases hla : e.la with
          | false =>
            have HY2 : Aside (Y = (M.take (i1 + 1 + 1)).filter pO) := by
              show _ = _
              rw [HM1.out, if_neg (by unfold pO; rw [hla]; simp)]; simp
            have HT2 : Aside (false = true → ∃ j, j < i1 + 1 + 1 ∧ M[j]!.la = true ∧ M[j]!.key = M[i1 + 1 + 1 - 1]!.key) := fun q => by cases q
            rw [hla] at x5
            clear hla HM1 HY HT
            go_wp2
            go_roundg (M.length - (i1 + 1 + 1))
            case measure => omega
            case rel => exact ⟨i1 + 1 + 1, false, Y, by go_num, rfl, by omega, Nat.le_refl _, by omega, HY2, HT2, HO2, HL2⟩
          | true =>
            have HT2 : Aside (true = true → ∃ j, j < i1 + 1 + 1 ∧ M[j]!.la = true ∧ M[j]!.key = M[i1 + 1 + 1 - 1]!.key) := fun q => ⟨i1 + 1, by omega, by rw [← HEE.out]; exact hla, by rw [Nat.add_sub_cancel]⟩
            cases hmr : e.mr with
            | true =>
              have HY2 : Aside (Y = (M.take (i1 + 1 + 1)).filter pO) := by
                show _ = _
                rw [HM1.out, if_neg (by unfold pO; rw [hla, hmr]; simp)]; simp
              rw [hla] at x5
              rw [hmr] at x2
              clear hla hmr HM1 HY HT
              go_wp2
              go_roundg (M.length - (i1 + 1 + 1))
              case measure => omega
              case rel =>
            have HT3 : Aside (true = true → ∃ j, j < i1 + 1 + 1 ∧ M[j]!.la = true ∧ M[j]!.key = M[i1 + 1 + 1 - 1]!.key) := fun _ => HT2.out trivial
            exact ⟨i1 + 1 + 1, true, Y, by go_num, rfl, by omega, Nat.le_refl _, by omega, HY2, HT3, HO2, HL2⟩
            | false =>
              have HY2 : Aside (Y ++ [e] = (M.take (i1 + 1 + 1)).filter pO) := by
                show _ = _
                rw [HM1.out, if_pos (by unfold pO; rw [hla, hmr]; rfl)]
              have hB3 : w.heap.size ≤ W4.heap.size := HL2.out.size
              obtain ⟨v5, W5, hr5, ho5, hb5⟩ := push_en e HO2.out (by omega) hB3
              have HO5 : Aside (EOwn W5 w.heap.size v5 (Y ++ [e])) := ho5
              have HL5 : Aside (Below w.heap.size w W5) := HL2.out.trans hb5
              rw [hla] at x5
              rw [hmr] at x2
              rw [hla, hmr] at hr5
              clear hla hmr HM1 HY HT ho5 hb5 HO2 HL2
              go_wp2_with (at_builtin; refine wpList_append_ran (by rfl) _ _ 22 (by rfl) _ _ _ _ (by rfl) (by rfl) hr5 ?_)
              go_roundg (M.length - (i1 + 1 + 1))
              case measure => omega
              case rel =>
            have HT3 : Aside (true = true → ∃ j, j < i1 + 1 + 1 ∧ M[j]!.la = true ∧ M[j]!.key = M[i1 + 1 + 1 - 1]!.key) := fun _ => HT2.out trivial
            exact ⟨i1 + 1 + 1, true, Y ++ [e], by go_num, rfl, by omega, Nat.le_refl _, by rw [List.length_append, List.length_singleton]; omega, HY2, HT3, HO5, HL5⟩
    · have hiz : ¬ (i : Int) < (M.length : Int) := by omega
      have HYY : M.filter pO = Y := by
        have := HY.out
        rw [List.take_of_length_le (by omega)] at this
        exact this.symm
      obtain ⟨a8, c8, hv8, _, _, _, _⟩ := HO.out.es
      have HR : Aside (EOwn wr w.heap.size (.slice a8 Y.length c8) (M.filter pO)) := by rw [HYY, ← hv8]; exact HO.out
      subst hv8
      clear HYY HO HY HT
      go_wp2
      go_ret
      exact ⟨_, rfl, HR.out, HL.out⟩
end Go.Proofs.Ytahnkkifegdjeaa
