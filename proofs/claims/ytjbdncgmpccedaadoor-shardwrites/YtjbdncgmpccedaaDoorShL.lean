/-
  What shard.pass does with the function that Read hands to it, where the head is a good one.
-/
import Derived.Test.YtjbdncgmpccedaaDoorShJ
import Derived.Test.YtjbdncgmpccedaaDoorShK
namespace Go.Proofs.YtjbdncgmpccedaaDoor
open Go.RowKit Crc
attribute [local go_sem ↓] Go.wp_at_zero Go.wp_at_succ
set_option linter.unusedVariables false

theorem below6' {B q : Nat} {w W : World} (h : Below B w W) (hq : B ≤ q) (v0 v1 v2 v3 v4 v5 : Value) : Below B w ((((((W.setCell ⟨q, 0, none⟩ v0).setCell ⟨q, 1, none⟩ v1).setCell ⟨q, 2, none⟩ v2).setCell ⟨q, 3, none⟩ v3).setCell ⟨q, 4, none⟩ v4).setCell ⟨q, 5, none⟩ v5) :=
  (((((h.setCell (p := ⟨_, 0, none⟩) hq _).setCell (p := ⟨_, 1, none⟩) hq _).setCell (p := ⟨_, 2, none⟩) hq _).setCell (p := ⟨_, 3, none⟩) hq _).setCell (p := ⟨_, 4, none⟩) hq _).setCell (p := ⟨_, 5, none⟩) hq _
theorem dvAt_put6 {X : World} {p q : Nat} {v : Value} (h : DvAt X p v) (hq : q ≠ p) (v0 v1 v2 v3 v4 v5 : Value) : DvAt ((((((X.setCell ⟨q, 0, none⟩ v0).setCell ⟨q, 1, none⟩ v1).setCell ⟨q, 2, none⟩ v2).setCell ⟨q, 3, none⟩ v3).setCell ⟨q, 4, none⟩ v4).setCell ⟨q, 5, none⟩ v5) p v := by
  unfold DvAt
  rw [heap_setCell_other _ _ _ _ hq.symm, heap_setCell_other _ _ _ _ hq.symm, heap_setCell_other _ _ _ _ hq.symm, heap_setCell_other _ _ _ _ hq.symm, heap_setCell_other _ _ _ _ hq.symm, heap_setCell_other _ _ _ _ hq.symm]
  exact h
theorem own_put6 {X : World} {base n q : Nat} {v : Value} {f : Nat → Nat} {a b c d e g : Int} (o : Own X base v n f) (h : HdB X q a b c d e g 29) (v0 v1 v2 v3 v4 v5 : Value) : Own ((((((X.setCell ⟨q, 0, none⟩ v0).setCell ⟨q, 1, none⟩ v1).setCell ⟨q, 2, none⟩ v2).setCell ⟨q, 3, none⟩ v3).setCell ⟨q, 4, none⟩ v4).setCell ⟨q, 5, none⟩ v5) base v n f := by
  rcases o with ⟨hl, e' | ⟨g', cap, cur, e', hg, hh, hr⟩⟩
  · exact ⟨hl, .inl e'⟩
  · have hne : g' ≠ q := fun z => by
      subst z
      unfold HdB at h
      rw [hh] at h
      injection h with z
      injection z with _ z _
      cases z
    refine ⟨hl, .inr ⟨g', cap, cur, e', hg, ?_, hr⟩⟩
    rw [heap_setCell_other _ _ _ _ hne, heap_setCell_other _ _ _ _ hne, heap_setCell_other _ _ _ _ hne, heap_setCell_other _ _ _ _ hne, heap_setCell_other _ _ _ _ hne, heap_setCell_other _ _ _ _ hne]
    exact hh
/-- How pass ends. -/
def PassEnd (w0 : World) (p n K M I B S D : Nat) (G : Nat → Nat) (e : Ending) (w' : World) : Prop :=
  Below w0.heap.size w0 w' ∧ ((∃ x y : Int, e = .returned (.tuple #[nohd, .int .i64 x, .int .i64 y]) ∧ Bad n G B S y) ∨
    (e = .returned (.tuple #[hv K M I B S D, .int .i64 0, .int .i64 0]) ∧ n = plen S B (nb S B) ∧ (∀ k, k < nb S B → Fit G B S k) ∧ ∃ v, DvAt w' p v ∧ Own w' w0.heap.size v S (dat G B)))
/-- The world in a round. -/
structure PassIn (w0 wr : World) (p q0 q7 K M I B S D k : Nat) (G : Nat → Nat) : Prop where
  b : Below w0.heap.size w0 wr
  r : HdB wr q0 0 0 0 0 0 0 29
  h : HdB wr q7 K M I B S D 29
  d : ∃ v, DvAt wr p v ∧ Own wr w0.heap.size v (min (k * B) S) (dat G B)
  f : ∀ i, i < k → Fit G B S i

set_option maxRecDepth 100000 in
set_option maxHeartbeats 2000000 in
theorem pass_good (w0 w : World) (p n c K M I B S D : Nat) (a : Option Addr) (G f : Nat → Nat) (T : HalfT w0) (h : Row w0 a n G) (hn : 24 ≤ n) (hn2 : n ≤ 131072) (hc : n ≤ c) (hN : MayN K M I B S D) (hG : ∀ i, i < 24 → G i = file K M I B S D f i)
    (hb : Below w0.heap.size w0 w) (hp : w0.heap.size ≤ p) (hd : DvAt w p (.slice none 0 0)) :
    Calls Tryd.prog 26 #[.slice a n c, .func (.func 27) #[] #[.pointer (some ⟨p, 0, none⟩)]] w (PassEnd w0 p n K M I B S D G) := by
  have g1 : decide ((131072 : Int) < (n : Int)) = false := decide_eq_false (by omega)
  obtain ⟨W, hbx⟩ : ∃ W, w.alloc (.cells #[.int .i64 0, .int .i64 0, .int .i64 0, .int .i64 0, .int .i64 0, .int .i64 0] 29) = W := ⟨_, rfl⟩
  have bW : Below w.heap.size w W := by rw [← hbx]; exact bal _ _
  have hr0 : HdB W w.heap.size 0 0 0 0 0 0 29 := by rw [← hbx]; exact heap_alloc_new _ _
  have hb1 : Below w0.heap.size w0 W := hb.trans (bW.mono hb.size)
  have cH := readHead_good a n c G W K M I B S D f (T.keep hb1) (h.keep hb1) hn hc (by unfold maxLen; omega) hN hG
  have hpl : p < w.heap.size := (Array.getElem?_eq_some_iff.1 hd).1
  have hdW := hd.keep bW
  have HR0 : Hid (HdB W w.heap.size 0 0 0 0 0 0 29) := hr0
  have HB1 : Hid (Below w0.heap.size w0 W) := hb1
  have HDW : Hid (DvAt W p (.slice none 0 0)) := hdW
  have HT : Hid (HalfT w0) := T
  have HR : Hid (Row w0 a n G) := h
  have hWs : w.heap.size < W.heap.size := (Array.getElem?_eq_some_iff.1 hr0).1
  have HN : Hid (MayN K M I B S D) := hN
  clear bW hr0 hb1 hdW hd hb T h hG hN
  unfold hv at cH
  go_enter Tryd.func26, Tryd.ntmps26
  go_wp2_with fail
  go_at_call 33
  refine cH.mono ?_
  rintro e W1 ⟨rfl, b1⟩
  clear cH
  have hr1 : HdB W1 w.heap.size 0 0 0 0 0 0 29 := (b1.block _ (Array.getElem?_eq_some_iff.1 HR0.out).1).trans HR0.out
  have hd1 := HDW.out.keep b1
  have hb2 : Below w0.heap.size w0 W1 := HB1.out.trans (b1.mono HB1.out.size)
  have hs1 : w.heap.size < W1.heap.size := Nat.lt_of_lt_of_le hWs b1.size
  have HR1 : Hid (HdB W1 w.heap.size 0 0 0 0 0 0 29) := hr1
  have HD1 : Hid (DvAt W1 p (.slice none 0 0)) := hd1
  have HB2 : Hid (Below w0.heap.size w0 W1) := hb2
  obtain ⟨A, sl, rA⟩ := cut_l (c := c) HR.out 24 hn hc
  have sl' : ∀ w', Sem.run Tryd.prog (Instr.slice 24 (.slice a n c) (some (.int .i64 24)) none none) w' = .ok (.slice A (n - 24) (c - 24)) w' := sl
  have HRA : Hid (Row w0 A (n - 24) (fun i => G (24 + i))) := rA
  clear b1 hr1 hd1 hb2 HR0 HDW HB1 sl rA hWs
  go_wp2_with fail
  obtain ⟨W2, hW2⟩ : ∃ W2, W2 = W1.alloc (.cells #[.int .i64 (K : Int), .int .i64 (M : Int), .int .i64 (I : Int), .int .i64 (B : Int), .int .i64 (S : Int), .int .i64 (D : Int)] 29) := ⟨_, rfl⟩
  rw [← hW2]
  have b12 : Below W1.heap.size W1 W2 := by rw [hW2]; exact bal _ _
  have hh2 : HdB W2 W1.heap.size K M I B S D 29 := by rw [hW2]; exact heap_alloc_new _ _
  have hr2 : HdB W2 w.heap.size 0 0 0 0 0 0 29 := (b12.block _ hs1).trans HR1.out
  have hd2 := HD1.out.keep b12
  have hb3 : Below w0.heap.size w0 W2 := HB2.out.trans (b12.mono HB2.out.size)
  obtain ⟨q7, hq7⟩ : ∃ q7, q7 = W1.heap.size := ⟨_, rfl⟩
  rw [← hq7] at hh2 ⊢
  have nq7 : q7 ≠ p := by omega
  have nq0 : w.heap.size ≠ p := by omega
  have nq : q7 ≠ w.heap.size := by omega
  have HP0 : Hid (PassIn w0 W2 p w.heap.size q7 K M I B S D 0 G) := ⟨hb3, hr2, hh2, ⟨_, hd2, by rw [Nat.zero_mul, Nat.zero_min]; exact Own.start _ _ _⟩, fun i hi => absurd hi (by omega)⟩
  have x4 := hh2.at.c4
  have nq0' : Hid (w.heap.size ≠ p) := nq0
  have nq7' : Hid (q7 ≠ p) := nq7
  have hq0 : Hid (w0.heap.size ≤ w.heap.size) := by unfold Hid; omega
  clear hW2 b12 hh2 hr2 hd2 hb3 HR1 HD1 HB2 hs1 nq0 nq7 hpl hq7 hbx
  generalize hq0e : w.heap.size = q0 at *
  clear hq0e
  go_quiet (fail)
  go_wp2
  have hB16 := HN.out.b
  have hB4 := HN.out.b2
  have hS6 := HN.out.s
  go_loopw [10, 11, 12] (fun r l m wr => ∃ (k : Nat) (A' : Option Addr), k ≤ nb S B ∧ plen S B k ≤ n ∧ r = .slice A' (n - plen S B k) (c - plen S B k) ∧ Row w0 A' (n - plen S B k) (fun i => G (plen S B k + i)) ∧ l = .int .i64 ((S - k * B : Nat) : Int) ∧ m = .int .i64 (k : Int) ∧ PassIn w0 wr p q0 q7 K M I B S D k G) (fun _ l _ _ => (intOf l).toNat)
  case atStart =>
    have e0 : plen S B 0 = 24 := by unfold plen; rw [Nat.zero_mul, Nat.zero_min]
    exact ⟨0, A, by omega, by omega, by rw [e0], by rw [e0]; exact HRA.out, by rw [Nat.zero_mul, Nat.sub_zero], rfl, ⟨below_drewN HP0.out.b _, HP0.out.r, HP0.out.h, HP0.out.d, HP0.out.f⟩⟩
  case round =>
    obtain ⟨k, A', hk, hpl, rfl, hA, rfl, rfl, hP⟩ := hrel
    clear HP0 x4 sl' HRA HR g1
    obtain ⟨z0, z1, z2, z3, z4, z5⟩ := hP.r.at
    obtain ⟨y0, y1, y2, y3, y4, y5⟩ := hP.h.at
    have f0 : ∀ j, wr.frozen? ⟨q0, j, none⟩ = false := fun j => frozen_of_row wr q0 j _ _ hP.r
    have HP : Hid (PassIn w0 wr p q0 q7 K M I B S D k G) := hP
    clear hP
    by_cases hlt : k * B < S
    · have hz0 := blen_pos (B := B) (S := S) (k := k) (by omega) hlt
      have hpn := plen_next (n := S) (B := B) (k := k) (by omega)
      have hknb := lt_nb (B := B) (S := S) (k := k) (by omega) hlt
      have hdone := next_done (B := B) (S := S) (k := k) hlt
      have hleft := next_left (B := B) (S := S) (k := k) hlt
      have hzz : (B ≤ S - k * B ∧ blen S B k = B) ∨ (S - k * B < B ∧ blen S B k = S - k * B) := by unfold blen; omega
      have HL : Hid (k * B < S) := hlt
      have HKN : Hid (k < nb S B) := hknb
      have HPN : Hid (plen S B (k + 1) = plen S B k + blen S B k + 4) := hpn
      have HDN : Hid (min ((k + 1) * B) S = k * B + blen S B k) := hdone
      have HLF : Hid (S - (k + 1) * B = S - k * B - blen S B k) := hleft
      have gL : (0 : Int) < ((S - k * B : Nat) : Int) := by omega
      have uK : k ≤ 65536 := by
        have := Nat.le_mul_of_pos_right k (show 0 < B by omega)
        omega
      have uL : S - k * B ≤ 65536 := by omega
      have uN : n - plen S B k ≤ 131072 := by omega
      have hFit : Hid (Fit G B S k ↔ le4 (fun i => G (plen S B k + (blen S B k + i))) = sum (blen S B k) (fun i => G (plen S B k + i))) := by
        unfold Hid Fit
        simp only [Nat.add_assoc]
      have hub : blen S B k ≤ 4096 := by omega
      clear hpn hknb hdone hleft hlt
      by_cases hsh : n - plen S B k < blen S B k + 4
      · have HBad : Hid (Bad n G B S 2) := .inl ⟨rfl, k, HKN.out, by have := HPN.out; omega⟩
        clear hFit
        generalize n - plen S B k = N1 at *
        generalize c - plen S B k = C1 at *
        generalize S - k * B = L at *
        generalize blen S B k = z at *
        rcases hzz with ⟨e1, rfl⟩ | ⟨e1, rfl⟩
        all_goals
          go_wp2_with fail
          exact bodyPost_ret (v := .tuple #[nohd, .int .i64 0, .int .i64 2]) (by simp [results, Tryd.results26, go_sem, nohd, hv, *]) rfl ⟨below6' HP.out.b hq0.out _ _ _ _ _ _, .inl ⟨_, _, rfl, HBad.out⟩⟩
      · obtain ⟨v, hdv, hov⟩ := HP.out.d
        rw [Nat.min_eq_left (by have := HL.out; omega)] at hov
        have hz4 : blen S B k + 4 ≤ n - plen S B k := by omega
        obtain ⟨A1, hs1, hA1⟩ := cut_h (c := c - plen S B k) hA (blen S B k) (by omega) (by omega)
        obtain ⟨A2, hs2, hA2⟩ := cut_lh (c := c - plen S B k) hA (blen S B k) 4 (by omega) (by omega)
        obtain ⟨A3, hs3, hA3⟩ := cut_l (c := c - plen S B k) hA (blen S B k + 4) (by omega) (by omega)
        have hs2' : ∀ w', Sem.run Tryd.prog (Instr.slice 24 (.slice A' (n - plen S B k) (c - plen S B k)) (some (.int .i64 ((blen S B k : Nat) : Int))) (some (.int .i64 (((blen S B k : Nat) : Int) + 4))) none) w' = .ok (.slice A2 4 (c - plen S B k - blen S B k)) w' := hs2
        have hs3' : ∀ w', Sem.run Tryd.prog (Instr.slice 24 (.slice A' (n - plen S B k) (c - plen S B k)) (some (.int .i64 (((blen S B k : Nat) : Int) + 4))) none none) w' = .ok (.slice A3 (n - plen S B k - (blen S B k + 4)) (c - plen S B k - (blen S B k + 4))) w' := by
          have e : ((blen S B k + 4 : Nat) : Int) = ((blen S B k : Nat) : Int) + 4 := by omega
          rw [e] at hs3
          exact hs3
        clear hs2 hs3
        have cF : ∀ j, Calls Tryd.prog 34 #[.slice A1 (blen S B k) (c - plen S B k), .slice A2 4 (c - plen S B k - blen S B k)] (wr.drewN j) fun e w' => ∃ d : Bool, e = .returned (.bool d) ∧ (d = true ↔ Fit G B S k) ∧ ∃ j, w' = wr.drewN j := fun j => by
          have bj := HP.out.b.trans ((bdn wr j).mono HP.out.b.size)
          refine (fits_q A1 A2 (blen S B k) (c - plen S B k) (c - plen S B k - blen S B k) _ _ (wr.drewN j) (HT.out.keep bj) (hA1.keep bj) (hA2.keep bj) (by unfold maxLen; omega)).mono ?_
          rintro e w' ⟨rfl, j', rfl⟩
          exact ⟨_, rfl, by rw [decide_eq_true_iff]; exact hFit.out.symm, j + j', by simp⟩
        by_cases hft : Fit G B S k
        · replace cF : ∀ j, Calls Tryd.prog 34 #[.slice A1 (blen S B k) (c - plen S B k), .slice A2 4 (c - plen S B k - blen S B k)] (wr.drewN j) fun e w' => e = .returned (.bool true) ∧ ∃ j, w' = wr.drewN j := fun j => (cF j).mono (by
            rintro e w' ⟨d, rfl, hd, hj⟩
            rw [hd.2 hft]
            exact ⟨rfl, hj⟩)
          have cC : ∀ j, Calls Tryd.prog 27 #[.slice A1 (blen S B k) (c - plen S B k), .pointer (some ⟨p, 0, none⟩)] (wr.drewN j) fun e w' => e = .returned (.tuple #[]) ∧ PassIn w0 w' p q0 q7 K M I B S D (k + 1) G := fun j => by
            have bj := HP.out.b.trans ((bdn wr j).mono HP.out.b.size)
            refine (clo_any w0 (wr.drewN j) p (k * B) (blen S B k) (c - plen S B k) v (dat G B) _ A1 hA1 hz0 bj hp hdv hov (by have := HL.out; omega)).mono ?_
            rintro e w' ⟨rfl, hb', hst, hsz, v', hd', ho'⟩
            refine ⟨rfl, hb', (show HdB (wr.drewN j) q0 0 0 0 0 0 0 29 from HP.out.r).stillP hst nq0'.out (by decide), (show HdB (wr.drewN j) q7 K M I B S D 29 from HP.out.h).stillP hst nq7'.out (by decide), ⟨v', hd', ?_⟩, fun i hi => ?_⟩
            · rw [HDN.out]
              exact ho'.congr fun j' hj' => dat_block (by omega) HL.out _ (fun _ _ => rfl) j' hj'
            · by_cases e : i = k
              · subst e; exact hft
              · exact HP.out.f i (by omega)
          have HA3 : Hid (Row w0 A3 (n - plen S B k - (blen S B k + 4)) (fun i => G (plen S B k + (blen S B k + 4 + i)))) := hA3
          have E1 : Hid (n - plen S B (k + 1) = n - plen S B k - (blen S B k + 4)) := by have := HPN.out; unfold Hid; omega
          have E2 : Hid (c - plen S B (k + 1) = c - plen S B k - (blen S B k + 4)) := by have := HPN.out; unfold Hid; omega
          have E3 : Hid (∀ i, plen S B k + (blen S B k + 4 + i) = plen S B (k + 1) + i) := by have := HPN.out; unfold Hid; omega
          have E4 : Hid (plen S B (k + 1) ≤ n) := by have := HPN.out; unfold Hid; omega
          have uS : blen S B k ≤ S - k * B := by unfold blen; omega
          clear hA hA1 hA2 hA3 hdv hov hFit hft hpl HPN HDN HP
          have hsh' : decide (((n - plen S B k : Nat) : Int) < ((blen S B k : Nat) : Int) + 4) = false := decide_eq_false (by omega)
          clear hsh
          generalize n - plen S B k = N1 at *
          generalize c - plen S B k = C1 at *
          generalize hLe : S - k * B = L at *
          generalize hze : blen S B k = z at *
          clear hLe hze
          have i1 : (0 : Int) ≤ (L : Int) - (z : Int) := by omega
          have i2 : (L : Int) - (z : Int) = ((L - z : Nat) : Int) := by omega
          rcases hzz with ⟨e1, e2⟩ | ⟨e1, e2⟩
          · subst e2
            go_wp2_with fail
            go_quiet (fail)
            go_wp2_with fail
            go_at_call 34
            refine (cF _).mono ?_
            rintro e w8 ⟨rfl, j8, rfl⟩
            clear cF
            go_wp2_with fail
            go_at_call 27
            refine (cC _).mono ?_
            rintro e w9 ⟨rfl, hP9⟩
            clear cC
            go_wp2_with fail
            go_round
            case rel => exact ⟨k + 1, A3, HKN.out, E4.out, by rw [E1.out, E2.out], by rw [E1.out]; exact HA3.out.cast (funext fun i => by rw [E3.out i]), by first | (rw [HLF.out]; done) | (rw [HLF.out]; simp), by go_num, hP9⟩
            case measure => simp [intOf]; omega
          · subst e2
            go_wp2_with fail
            go_quiet (fail)
            go_wp2_with fail
            go_at_call 34
            refine (cF _).mono ?_
            rintro e w8 ⟨rfl, j8, rfl⟩
            clear cF
            go_wp2_with fail
            go_at_call 27
            refine (cC _).mono ?_
            rintro e w9 ⟨rfl, hP9⟩
            clear cC
            go_wp2_with fail
            go_round
            case rel => exact ⟨k + 1, A3, HKN.out, E4.out, by rw [E1.out, E2.out], by rw [E1.out]; exact HA3.out.cast (funext fun i => by rw [E3.out i]), by first | (rw [HLF.out]; done) | (rw [HLF.out]; simp), by go_num, hP9⟩
            case measure => simp [intOf]; omega
        · replace cF : ∀ j, Calls Tryd.prog 34 #[.slice A1 (blen S B k) (c - plen S B k), .slice A2 4 (c - plen S B k - blen S B k)] (wr.drewN j) fun e w' => e = .returned (.bool false) ∧ ∃ j, w' = wr.drewN j := fun j => (cF j).mono (by
            rintro e w' ⟨d, rfl, hd, hj⟩
            have hd' : d = false := by
              cases d
              · rfl
              · exact absurd (hd.1 rfl) hft
            rw [hd']
            exact ⟨rfl, hj⟩)
          have HBad : Hid (Bad n G B S 5) := .inr (.inl ⟨rfl, k, HKN.out, by have := HPN.out; omega, hft⟩)
          clear hA hA1 hA2 hA3 hdv hov hFit hft hpl HPN HDN
          have hsh' : decide (((n - plen S B k : Nat) : Int) < ((blen S B k : Nat) : Int) + 4) = false := decide_eq_false (by omega)
          clear hsh
          generalize n - plen S B k = N1 at *
          generalize c - plen S B k = C1 at *
          generalize hLe : S - k * B = L at *
          generalize hze : blen S B k = z at *
          clear hLe hze
          rcases hzz with ⟨e1, e2⟩ | ⟨e1, e2⟩
          · subst e2
            go_wp2_with fail
            go_quiet (fail)
            go_wp2_with fail
            go_at_call 34
            refine (cF _).mono ?_
            rintro e w8 ⟨rfl, j8, rfl⟩
            clear cF
            go_wp2_with fail
            exact bodyPost_ret (v := .tuple #[nohd, .int .i64 (k : Int), .int .i64 5]) (by simp [results, Tryd.results26, go_sem, nohd, hv, *]) rfl ⟨below6' (below_drewN HP.out.b _) hq0.out _ _ _ _ _ _, .inl ⟨_, _, rfl, HBad.out⟩⟩
          · subst e2
            go_wp2_with fail
            go_quiet (fail)
            go_wp2_with fail
            go_at_call 34
            refine (cF _).mono ?_
            rintro e w8 ⟨rfl, j8, rfl⟩
            clear cF
            go_wp2_with fail
            exact bodyPost_ret (v := .tuple #[nohd, .int .i64 (k : Int), .int .i64 5]) (by simp [results, Tryd.results26, go_sem, nohd, hv, *]) rfl ⟨below6' (below_drewN HP.out.b _) hq0.out _ _ _ _ _ _, .inl ⟨_, _, rfl, HBad.out⟩⟩
    · have hke : k = nb S B := by
        have := nb_le (S := S) (B := B) (k := k) (by omega) (by omega)
        omega
      have gL : S - k * B = 0 := by omega
      rw [gL]
      by_cases hr : plen S B k < n
      · have HBad : Hid (Bad n G B S 4) := .inr (.inr ⟨rfl, by rw [← hke]; exact hr⟩)
        have g2 : (0 : Int) < ((n - plen S B k : Nat) : Int) := by omega
        clear hlt gL hA hke
        generalize n - plen S B k = N1 at *
        generalize c - plen S B k = C1 at *
        go_wp2_with fail
        exact bodyPost_ret (v := .tuple #[nohd, .int .i64 0, .int .i64 4]) (by simp [results, Tryd.results26, go_sem, nohd, hv, *]) rfl ⟨below6' HP.out.b hq0.out _ _ _ _ _ _, .inl ⟨_, _, rfl, HBad.out⟩⟩
      · have hne : n - plen S B k = 0 := by omega
        have HG : Hid (n = plen S B (nb S B) ∧ (∀ k, k < nb S B → Fit G B S k) ∧ ∃ v, DvAt wr p v ∧ Own wr w0.heap.size v S (dat G B)) := by
          refine ⟨by rw [← hke]; omega, by rw [← hke]; exact HP.out.f, ?_⟩
          obtain ⟨v, h1, h2⟩ := HP.out.d
          rw [Nat.min_eq_right (by omega)] at h2
          exact ⟨v, h1, h2⟩
        rw [hne]
        clear hlt gL hA hke hne hr
        generalize c - plen S B k = C1 at *
        go_wp2_with fail
        refine bodyPost_ret (v := .tuple #[hv K M I B S D, .int .i64 0, .int .i64 0]) (by simp [results, Tryd.results26, go_sem, hv, *]) rfl ⟨below6' HP.out.b hq0.out _ _ _ _ _ _, .inr ⟨rfl, HG.out.1, HG.out.2.1, ?_⟩⟩
        obtain ⟨v, h1, h2⟩ := HG.out.2.2
        exact ⟨v, dvAt_put6 h1 nq0'.out _ _ _ _ _ _, own_put6 h2 HP.out.r _ _ _ _ _ _⟩
end Go.Proofs.YtjbdncgmpccedaaDoor
