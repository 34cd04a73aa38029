/-
  What the document's Sort answers: a sorted permutation.
-/
import Derived.Test.YtahnkkifegdjeaaRfA
namespace Go.Proofs.Ytahnkkifegdjeaa
open Go.RowKit Go.Shelf Go.Sort Nq Pg
attribute [local go_sem ↓] Go.wp_at_zero Go.wp_at_succ
set_option linter.unusedVariables false

set_option maxRecDepth 100000 in
set_option maxHeartbeats 8000000 in
theorem rsort_any (a : Option Addr) (c : Nat) (L : List En) (w : World) (h : Es w a L) (hl : L.length ≤ 900000) (hks : ∀ e ∈ L, e.key.size ≤ maxLen) :
    Calls Try.prog 20 #[.slice a L.length c] w fun r w' => ∃ v M, r = .returned v ∧ EOwn w' w.heap.size v M ∧ SortOf L M ∧ Below w.heap.size w w' := by
  have HE : Aside (Es w a L) := h
  have HK : Aside (∀ e ∈ L, e.key.size ≤ maxLen) := hks
  clear h hks
  go_enter Try.func20, Try.ntmps20
  go_wp2
  go_loopg [4, 3] (L.length) (fun kx s4 s3 wr => ∃ (i : Nat) (d : Array En), s4 = .int .i64 i ∧ i ≤ L.length ∧ L.length - i ≤ kx ∧ d.size = i ∧ Aside (d.toList.Perm (L.take i) ∧ SortedIn ltE 0 i d) ∧ Aside (EOwn wr w.heap.size s3 d.toList) ∧ Aside (Below w.heap.size w wr))
  case atStart => exact ⟨0, #[], rfl, Nat.zero_le _, by omega, rfl, ⟨by simp, fun p q _ _ hq => by omega⟩, EOwn.start _ _, Below.refl _ _⟩
  case round =>
    obtain ⟨i, d, rfl, hi, hkx, hd, HS, HO, HL⟩ := hrel
    by_cases hlt : i < L.length
    · obtain ⟨b, o, rfl, hc⟩ := HE.out (by omega)
      obtain ⟨e, he⟩ : ∃ e, e = L[i]! := ⟨_, rfl⟩
      have hce := (hc i hlt).keep HL.out
      rw [← he] at hce
      obtain ⟨c0, c1, c2, c3, c4, c5⟩ := hce
      have hiz : (i : Int) < (L.length : Int) := by omega
      have hB3 : w.heap.size ≤ wr.heap.size := HL.out.size
      obtain ⟨v5, W5, hr5, ho5, hb5⟩ := push_en e HO.out (by rw [Array.length_toList]; omega) hB3
      obtain ⟨d1, hd1⟩ : ∃ d1 : Array En, d1 = d.push e := ⟨_, rfl⟩
      have e5 : d.toList ++ [e] = d1.toList := by rw [hd1]; simp
      rw [e5] at ho5
      have hs1 : d1.size = i + 1 := by rw [hd1]; simp [hd]
      have HO5 : Aside (EOwn W5 w.heap.size v5 d1.toList) := ho5
      have HL5 : Aside (Below w.heap.size w W5) := HL.out.trans hb5
      have HS5 : Aside (d1.toList.Perm (L.take (i + 1)) ∧ Ins ltE 0 i i d1) := by
        refine ⟨?_, ⟨fun p q h1 h2 h3 h4 h5 => ?_, fun q h1 h2 => by omega⟩⟩
        · rw [take_more L i hlt, ← he, ← e5]; exact HS.out.1.append_right _
        · have g1 : ∀ t, t < i → d1[t]! = d[t]! := fun t ht => by rw [hd1, getElem!_pos (d.push e) t (by simp; omega), getElem!_pos d t (by omega), Array.getElem_push_lt]
          rw [g1 p (by omega), g1 q (by omega)]; exact HS.out.2 p q (Nat.zero_le _) h2 (by omega)
      obtain ⟨g5, cur5, e6, hn6, hg6, hh6, hc6, hm6, _, _⟩ : ∃ g cur, v5 = .slice (some ⟨g, 0, none⟩) (i + 1) (cur : Nat) ∧ i + 1 = d1.toList.length ∧ w.heap.size ≤ g ∧ g < W5.heap.size ∧ i + 1 ≤ cur ∧ cur ≤ maxLen ∧ True ∧ True := by
        obtain ⟨a6, c6, rfl, _, _, _, _⟩ := ho5.es
        obtain ⟨g, cur, e1, e2, e3, e4, e7, e8, _, _⟩ := ho5.row (by rw [Array.length_toList]; omega)
        subst e1
        exact ⟨g, c6, by rw [Array.length_toList, hs1], by rw [Array.length_toList, hs1], e3, (Array.getElem?_eq_some_iff.1 e4).1, by rw [Array.length_toList, hs1] at e7; exact e7, e8, trivial, trivial⟩
      subst e6
      clear hc he HS HO hd1 e5 ho5 hb5 HL hn6
      go_wp2_with (at_builtin; refine wpList_append_ran (by rfl) _ _ 22 (by rfl) _ _ _ _ (by rfl) (by rfl) hr5 ?_)
      clear hr5
      go_loopg [5] i (fun kx2 s5 wr2 => ∃ (j : Nat) (dj : Array En), s5 = .int .i64 j ∧ j ≤ i ∧ j ≤ kx2 ∧ dj.size = i + 1 ∧ Aside (dj.toList.Perm (L.take (i + 1)) ∧ Ins ltE 0 j i dj) ∧ Aside (EOwn wr2 w.heap.size (.slice (some ⟨g5, 0, none⟩) (i + 1) cur5) dj.toList) ∧ Aside (Below w.heap.size w wr2))
      case atStart => exact ⟨i, d1, by first | rfl | go_num | (congr 1; omega), Nat.le_refl _, Nat.le_refl _, hs1, HS5, HO5, HL5⟩
      case round =>
        clear HS5 HO5 HL5 c0 c1 c2 c3 c4 c5 hs1 hd
        rename_i wr0 _ _ _ _ _ _
        obtain ⟨j', dj, rfl, hji, hkx2, hdj, I, HO, HL⟩ := hrel
        by_cases hj0 : 0 < j'
        · obtain ⟨x, rfl⟩ : ∃ x, j' = x + 1 := ⟨j' - 1, by omega⟩
          obtain ⟨xv, hxv⟩ : ∃ z, z = dj[x + 1]! := ⟨_, rfl⟩
          obtain ⟨yv, hyv⟩ : ∃ z, z = dj[x]! := ⟨_, rfl⟩
          have hkx' : xv.key.size ≤ maxLen := by
            have hm : dj[x + 1]! ∈ dj.toList := by rw [getElem!_pos dj (x + 1) (by omega)]; simp
            rw [hxv]; exact HK.out _ (List.mem_of_mem_take (I.out.1.mem_iff.1 hm))
          have hky' : yv.key.size ≤ maxLen := by
            have hm : dj[x]! ∈ dj.toList := by rw [getElem!_pos dj x (by omega)]; simp
            rw [hyv]; exact HK.out _ (List.mem_of_mem_take (I.out.1.mem_iff.1 hm))
          have HXV : Aside (xv = dj[x + 1]!) := hxv
          have HYV : Aside (yv = dj[x]!) := hyv
          obtain ⟨q, hq⟩ : ∃ q, x * 6 = q := ⟨_, rfl⟩
          have hq2 : (x + 1) * 6 = q + 6 := by omega
          have e1 := HO.out.eat (x + 1) (by omega)
          have e0 := HO.out.eat x (by omega)
          rw [hq2, ← hxv] at e1
          rw [hq, ← hyv] at e0
          obtain ⟨c0, c1, c2, c3, c4, c5⟩ := e1
          obtain ⟨e0, e1, e2, e3, e4, e5⟩ := e0
          clear hxv hyv
          have g0 : decide ((0 : Int) < (x : Int) + 1) = true := decide_eq_true (by omega)
          have g1 : (0 : Int) < (x : Int) + 1 := by omega
          have hz2 : (x : Int) < (i : Int) := by omega
          have hz3 : (x : Int) < (i : Int) + 1 := by omega
          have hz4 : ((x : Int) + 1).toNat = x + 1 := by omega
          have hz5 : (0 : Int) ≤ (x : Int) + 1 := by omega
          have hz6 : (x : Int) + 1 < ((i + 1 : Nat) : Int) := by omega
          have hz7 : (x : Int) < ((i + 1 : Nat) : Int) := by omega
          have hz8 : IntKind.i64.wrap ((x : Int) + 1) = (x : Int) + 1 := by rw [IntKind.wrap_i64]; omega
          have hz9 : IntKind.i64.wrap (x : Int) = (x : Int) := by rw [IntKind.wrap_i64]; omega
          have cL := fun w => rless_any xv.key yv.key w hkx' hky'
          cases hls : ls (tx xv.key) (tx yv.key) with
          | true =>
            have hL : ltE dj[x + 1]! dj[x]! = true := by rw [← HXV.out, ← HYV.out, gtr_id, hls]; rfl
            have HP2 : Aside ((swp dj (x + 1) x).toList.Perm (L.take (i + 1)) ∧ Ins ltE 0 x i (swp dj (x + 1) x)) := ⟨(swp_perm dj (x + 1) x (by omega) (by omega)).trans I.out.1, I.out.2.step hL (Nat.zero_le _) (by omega)⟩
            clear I
            rw [hls] at cL
            clear hL hls
            go_wp2_with fail
            go_quiet ((go_at_call 21; exact Calls.quiet_of (cL _)))
            have HO2 : Aside (EOwn (wr.drewN nq) w.heap.size (.slice (some ⟨g5, 0, none⟩) (i + 1) cur5) dj.toList) := HO.out.keep (bdn _ _)
            have HL2 : Aside (Below w.heap.size w (wr.drewN nq)) := bld HL.out _
            clear HO HL c0 c1 c2 c3 c4 c5 e0 e1 e2 e3 e4 e5 cL
            generalize wr.drewN nq = w4 at *
            have HO3 : Aside (EOwn ((w4.setCells g5 (0 + (x + 1) * 6) (cellsE dj[x]!)).setCells g5 (0 + x * 6) (cellsE dj[x + 1]!)).drew w.heap.size (.slice (some ⟨g5, 0, none⟩) (i + 1) cur5) (swp dj (x + 1) x).toList) := (HO2.out.swapped (x + 1) x (by omega) (by omega) _ rfl).keep (bdn _ 1)
            have HL3 : Aside (Below w.heap.size w ((w4.setCells g5 (0 + (x + 1) * 6) (cellsE dj[x]!)).setCells g5 (0 + x * 6) (cellsE dj[x + 1]!)).drew) := bld (below_cells (below_cells HL2.out hg6 _ _) hg6 _ _) 1
            have e1 := HO2.out.eat (x + 1) (by omega)
            have e0 := HO2.out.eat x (by omega)
            have ff := HO2.out.soft (by omega)
            rw [hq2] at e1
            rw [hq] at e0
            rw [Nat.zero_add, Nat.zero_add, hq2, hq] at HO3 HL3
            rw [← HXV.out, ← HYV.out] at HO3 HL3
            rw [← HXV.out] at e1
            rw [← HYV.out] at e0
            rw [swap_cells] at HO3 HL3
            obtain ⟨c0, c1, c2, c3, c4, c5⟩ := e1
            obtain ⟨e0, e1, e2, e3, e4, e5⟩ := e0
            clear HO2 HL2
            go_wp2_with fail
            go_big_region
            generalize ((((((((((((w4.setCell ⟨g5, q + 6, none⟩ (.string yv.key)).setCell ⟨g5, q + 6 + 1, none⟩ (.int .i64 yv.id)).setCell ⟨g5, q + 6 + 2, none⟩ (.bool yv.mr)).setCell ⟨g5, q + 6 + 3, none⟩ (.int .i64 yv.sz)).setCell ⟨g5, q + 6 + 4, none⟩ (.int .u32 (yv.sm : Int))).setCell ⟨g5, q + 6 + 5, none⟩ (.bool yv.la)).setCell ⟨g5, q, none⟩ (.string xv.key)).setCell ⟨g5, q + 1, none⟩ (.int .i64 xv.id)).setCell ⟨g5, q + 2, none⟩ (.bool xv.mr)).setCell ⟨g5, q + 3, none⟩ (.int .i64 xv.sz)).setCell ⟨g5, q + 4, none⟩ (.int .u32 (xv.sm : Int))).setCell ⟨g5, q + 5, none⟩ (.bool xv.la)).drew = w6 at HO3 HL3 ⊢
            clear c0 c1 c2 c3 c4 c5 e0 e1 e2 e3 e4 e5 ff
            go_wp2
            go_roundg x
            case measure => omega
            case rel => exact ⟨x, swp dj (x + 1) x, by first | rfl | go_num | (congr 1; omega), by omega, Nat.le_refl _, by rw [size_swp]; exact hdj, HP2, HO3, HL3⟩
          | false =>
            cases heq : (xv.key.toList == yv.key.toList) with
            | false =>
              have hL : ltE dj[x + 1]! dj[x]! = false := by rw [← HXV.out, ← HYV.out, gtr_id, hls, heq]; rfl
              have HP2 : Aside (dj.toList.Perm (L.take (i + 1)) ∧ SortedIn ltE 0 (i + 1) dj) := ⟨I.out.1, I.out.2.stop swoL (Or.inr (by rw [Nat.add_sub_cancel]; exact hL))⟩
              clear I
              rw [hls] at cL
              clear hL hls
              go_wp2_with fail
              go_quiet ((go_at_call 21; exact Calls.quiet_of (cL _)))
              have HO2 : Aside (EOwn (wr.drewN nq) w.heap.size (.slice (some ⟨g5, 0, none⟩) (i + 1) cur5) dj.toList) := HO.out.keep (bdn _ _)
              have HL2 : Aside (Below w.heap.size w (wr.drewN nq)) := bld HL.out _
              clear HO HL c0 c1 c2 c3 c4 c5 e0 e1 e2 e3 e4 e5 cL
              generalize wr.drewN nq = w4 at *
              go_wp2
              go_roundg (L.length - (i + 1))
              case measure => omega
              case rel => exact ⟨i + 1, dj, by first | rfl | go_num | (congr 1; omega), by omega, Nat.le_refl _, hdj, HP2, HO2, HL2⟩
            | true =>
              cases hgt : decide (yv.id < xv.id) with
              | true =>
                have hL : ltE dj[x + 1]! dj[x]! = true := by rw [← HXV.out, ← HYV.out, gtr_id, hls, heq, hgt]; rfl
                have HP2 : Aside ((swp dj (x + 1) x).toList.Perm (L.take (i + 1)) ∧ Ins ltE 0 x i (swp dj (x + 1) x)) := ⟨(swp_perm dj (x + 1) x (by omega) (by omega)).trans I.out.1, I.out.2.step hL (Nat.zero_le _) (by omega)⟩
                clear I
                rw [hls] at cL
                clear hL hls
                go_wp2_with fail
                go_quiet ((go_at_call 21; exact Calls.quiet_of (cL _)))
                have HO2 : Aside (EOwn (wr.drewN nq) w.heap.size (.slice (some ⟨g5, 0, none⟩) (i + 1) cur5) dj.toList) := HO.out.keep (bdn _ _)
                have HL2 : Aside (Below w.heap.size w (wr.drewN nq)) := bld HL.out _
                clear HO HL c0 c1 c2 c3 c4 c5 e0 e1 e2 e3 e4 e5 cL
                generalize wr.drewN nq = w4 at *
                have HO3 : Aside (EOwn ((w4.setCells g5 (0 + (x + 1) * 6) (cellsE dj[x]!)).setCells g5 (0 + x * 6) (cellsE dj[x + 1]!)).drew w.heap.size (.slice (some ⟨g5, 0, none⟩) (i + 1) cur5) (swp dj (x + 1) x).toList) := (HO2.out.swapped (x + 1) x (by omega) (by omega) _ rfl).keep (bdn _ 1)
                have HL3 : Aside (Below w.heap.size w ((w4.setCells g5 (0 + (x + 1) * 6) (cellsE dj[x]!)).setCells g5 (0 + x * 6) (cellsE dj[x + 1]!)).drew) := bld (below_cells (below_cells HL2.out hg6 _ _) hg6 _ _) 1
                have e1 := HO2.out.eat (x + 1) (by omega)
                have e0 := HO2.out.eat x (by omega)
                have ff := HO2.out.soft (by omega)
                rw [hq2] at e1
                rw [hq] at e0
                rw [Nat.zero_add, Nat.zero_add, hq2, hq] at HO3 HL3
                rw [← HXV.out, ← HYV.out] at HO3 HL3
                rw [← HXV.out] at e1
                rw [← HYV.out] at e0
                rw [swap_cells] at HO3 HL3
                obtain ⟨c0, c1, c2, c3, c4, c5⟩ := e1
                obtain ⟨e0, e1, e2, e3, e4, e5⟩ := e0
                clear HO2 HL2
                go_wp2_with fail
                go_big_region
                generalize ((((((((((((w4.setCell ⟨g5, q + 6, none⟩ (.string yv.key)).setCell ⟨g5, q + 6 + 1, none⟩ (.int .i64 yv.id)).setCell ⟨g5, q + 6 + 2, none⟩ (.bool yv.mr)).setCell ⟨g5, q + 6 + 3, none⟩ (.int .i64 yv.sz)).setCell ⟨g5, q + 6 + 4, none⟩ (.int .u32 (yv.sm : Int))).setCell ⟨g5, q + 6 + 5, none⟩ (.bool yv.la)).setCell ⟨g5, q, none⟩ (.string xv.key)).setCell ⟨g5, q + 1, none⟩ (.int .i64 xv.id)).setCell ⟨g5, q + 2, none⟩ (.bool xv.mr)).setCell ⟨g5, q + 3, none⟩ (.int .i64 xv.sz)).setCell ⟨g5, q + 4, none⟩ (.int .u32 (xv.sm : Int))).setCell ⟨g5, q + 5, none⟩ (.bool xv.la)).drew = w6 at HO3 HL3 ⊢
                clear c0 c1 c2 c3 c4 c5 e0 e1 e2 e3 e4 e5 ff
                go_wp2
                go_roundg x
                case measure => omega
                case rel => exact ⟨x, swp dj (x + 1) x, by first | rfl | go_num | (congr 1; omega), by omega, Nat.le_refl _, by rw [size_swp]; exact hdj, HP2, HO3, HL3⟩
              | false =>
                have hL : ltE dj[x + 1]! dj[x]! = false := by rw [← HXV.out, ← HYV.out, gtr_id, hls, heq, hgt]; rfl
                have HP2 : Aside (dj.toList.Perm (L.take (i + 1)) ∧ SortedIn ltE 0 (i + 1) dj) := ⟨I.out.1, I.out.2.stop swoL (Or.inr (by rw [Nat.add_sub_cancel]; exact hL))⟩
                clear I
                rw [hls] at cL
                clear hL hls
                go_wp2_with fail
                go_quiet ((go_at_call 21; exact Calls.quiet_of (cL _)))
                have HO2 : Aside (EOwn (wr.drewN nq) w.heap.size (.slice (some ⟨g5, 0, none⟩) (i + 1) cur5) dj.toList) := HO.out.keep (bdn _ _)
                have HL2 : Aside (Below w.heap.size w (wr.drewN nq)) := bld HL.out _
                clear HO HL c0 c1 c2 c3 c4 c5 e0 e1 e2 e3 e4 e5 cL
                generalize wr.drewN nq = w4 at *
                go_wp2
                go_roundg (L.length - (i + 1))
                case measure => omega
                case rel => exact ⟨i + 1, dj, by first | rfl | go_num | (congr 1; omega), by omega, Nat.le_refl _, hdj, HP2, HO2, HL2⟩
        · have hjz : j' = 0 := by omega
          subst hjz
          have HP2 : Aside (dj.toList.Perm (L.take (i + 1)) ∧ SortedIn ltE 0 (i + 1) dj) := ⟨I.out.1, I.out.2.stop swoL (Or.inl (Nat.le_refl _))⟩
          have g0 : decide ((0 : Int) < ((0 : Nat) : Int)) = false := by simp
          clear I
          go_wp2_with fail
          go_quiet (fail)
          have HO2 : Aside (EOwn (wr.drewN nq) w.heap.size (.slice (some ⟨g5, 0, none⟩) (i + 1) cur5) dj.toList) := HO.out.keep (bdn _ _)
          have HL2 : Aside (Below w.heap.size w (wr.drewN nq)) := bld HL.out _
          clear HO HL
          generalize wr.drewN nq = w4 at *
          go_wp2
          go_roundg (L.length - (i + 1))
          case measure => omega
          case rel => exact ⟨i + 1, dj, by first | rfl | go_num | (congr 1; omega), by omega, Nat.le_refl _, hdj, HP2, HO2, HL2⟩
    · have hiz : ¬ (i : Int) < (L.length : Int) := by omega
      obtain ⟨a8, c8, hv8, _, _, _, _⟩ := HO.out.es
      have HR : Aside (SortOf L d.toList) := by
        have h1 := HS.out.1
        rw [List.take_of_length_le (by omega)] at h1
        refine ⟨h1, ?_⟩
        rw [List.pairwise_iff_getElem]
        intro p r hp hr hpr
        have hp' : p < d.size := by simpa using hp
        have hr' : r < d.size := by simpa using hr
        have := HS.out.2 p r (Nat.zero_le _) hpr (by omega)
        rw [getElem!_pos d r hr', getElem!_pos d p hp'] at this
        simpa using this
      subst hv8
      have hlen : d.toList.length = i := by rw [Array.length_toList]; exact hd
      have HO2 : Aside (EOwn wr w.heap.size (.slice a8 i c8) d.toList) := by have := HO.out; rwa [hlen] at this
      clear HS HO hlen
      go_wp2
      go_ret
      exact ⟨_, rfl, _, HO2.out, HR.out, HL.out⟩
end Go.Proofs.Ytahnkkifegdjeaa
