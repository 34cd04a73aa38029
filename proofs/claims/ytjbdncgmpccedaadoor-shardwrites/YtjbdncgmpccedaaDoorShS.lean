/-
  What the document's Write answers where it may be.
-/
import Derived.Test.YtjbdncgmpccedaaDoorShR
import Derived.Test.YtjbdncgmpccedaaDoorLaid4
namespace Go.Proofs.YtjbdncgmpccedaaDoor
open Go.RowKit Crc
attribute [local go_sem ↓] Go.wp_at_zero Go.wp_at_succ
set_option linter.unusedVariables false

theorem step_file {K M I B S D k : Nat} {f : Nat → Nat} (h : k * B ≤ S) (i : Nat) (hi : i < plen S B (k + 1)) :
    cat (plen S B k + blen S B k) (cat (plen S B k) (file K M I B S D f) (fun j => f (k * B + j))) (by4 (sum (blen S B k) (fun j => f (k * B + j)))) i = file K M I B S D f i := by
  have e := plen_next h
  unfold cat
  by_cases h1 : i < plen S B k + blen S B k
  · rw [if_pos h1]
    by_cases h2 : i < plen S B k
    · rw [if_pos h2]
    · rw [if_neg h2]
      show f (k * B + (i - plen S B k)) = _
      rw [← file_data (K := K) (M := M) (I := I) (D := D) (f := f) h (show i - plen S B k < blen S B k by omega)]
      congr 1; omega
  · rw [if_neg h1, ← file_sum (K := K) (M := M) (I := I) (D := D) (f := f) h (show i - (plen S B k + blen S B k) < 4 by omega)]
    congr 1; omega

set_option maxRecDepth 100000 in
set_option maxHeartbeats 4000000 in
theorem rwrite_ok (w : World) (K M I B D n c : Nat) (a : Option Addr) (f : Nat → Nat) (h : MayN K M I B n D) (hr : Row w a n f) (hc : n ≤ c) (hn5 : n ≤ 5000) :
    Calls Tryd.prog 10 #[hv K M I B n D, .slice a n c] w fun e w' => ∃ v, e = .returned (.tuple #[v, .int .i64 0]) ∧ Own w' w.heap.size v (plen n B (nb n B)) (file K M I B n D f) ∧ Below w.heap.size w w' := by
  have hm := h.h
  obtain ⟨k1, k2, k3, k4, k5, k6, k7, k8⟩ := h
  obtain ⟨W0, hbx, hd0, hb0⟩ := box_head w 23 K M I B n D
  have cM := rmay_yes K M I B n D W0 (by omega) (by omega) (by omega) (by omega) hm
  have HD0 : Hid (HdAt W0 w.heap.size K M I B n D) := hd0
  obtain ⟨c0, c1, c2, c3, c4, c5⟩ := hd0
  have HB0 : Hid (Below w.heap.size w W0) := hb0
  have HR : Hid (Row w a n f) := hr
  have HF : Hid (∀ i, f i < 256) := hr.lt
  clear hb0 hm hr
  unfold hv at cM ⊢
  go_enter Tryd.func10, Tryd.ntmps10
  go_wp2_with fail
  go_at_call 12
  refine cM.mono ?_
  rintro e W1 ⟨rfl, b1⟩
  clear cM c0 c1 c2 c3 c4 c5
  have hd1 := HD0.out.keep b1
  have HB1 : Hid (Below w.heap.size w W1) := hop HB0.out b1
  have hlt : w.heap.size < W1.heap.size := block_lt_of_cell hd1.c0
  clear b1 HD0 HB0 hbx
  -- the literal
  obtain ⟨W2, hW2⟩ : ∃ W2, W2 = W1.alloc (.cells #[.int .u8 83, .int .u8 66, .int .u8 88, .int .u8 49] 5 (4, 5)) := ⟨_, rfl⟩
  have cs : Sem.run Tryd.prog (convert 24 24 (.slice (some ⟨W1.heap.size, 0, none⟩) 4 4)) (W1.alloc (.cells #[.int .u8 83, .int .u8 66, .int .u8 88, .int .u8 49] 5)) = .ok (.slice (some ⟨W1.heap.size, 0, none⟩) 4 4) W2 := by
    rw [hW2]; exact Lib.run_convert_bytes_const (P := Tryd.prog) W1 24 5 #[.int .u8 83, .int .u8 66, .int .u8 88, .int .u8 49] 4 4 Tryd.underlying24 Tryd.underlying5
  have b12 : Below W1.heap.size W1 W2 := by rw [hW2]; exact bal _ _
  have lit2 : ∀ i, i < 4 → W2.cell? ⟨W1.heap.size, i, none⟩ = some (.int .u8 ((sbx i : Nat) : Int)) := fun i hi => by
    rw [hW2, cell_new_any]
    match i, hi with
    | 0, _ => rfl
    | 1, _ => rfl
    | 2, _ => rfl
    | 3, _ => rfl
  obtain ⟨g, hg0, hg1, hg2, hg3, hgl⟩ : ∃ g : Nat → Nat, g 0 = K % 256 ∧ g 1 = M % 256 ∧ g 2 = I % 256 ∧ g 3 = 0 ∧ ∀ i, g i < 256 := ⟨fun i => if i = 0 then K % 256 else if i = 1 then M % 256 else if i = 2 then I % 256 else 0, rfl, rfl, rfl, rfl, fun i => by dsimp only; (repeat' split) <;> omega⟩
  obtain ⟨X2, hX2⟩ : ∃ X2, X2 = W2.alloc (.cells #[.int .u8 (K : Int), .int .u8 (M : Int), .int .u8 (I : Int), .int .u8 ((0 : Nat) : Int)] 5) := ⟨_, rfl⟩
  have bX : Below W2.heap.size W2 X2 := by rw [hX2]; exact bal _ _
  have mX : Made X2 W2.heap.size 4 g := by rw [hX2]; exact lit4 W2 K M I 0 g (by omega) (by omega) (by omega) hg3
  have hW1W2 : W1.heap.size < W2.heap.size := block_lt_of_cell (lit2 0 (by omega))
  obtain ⟨v3, W3, hr3, ho3, b3⟩ := appendN (w := X2) (base := W1.heap.size) (n := 4) (m := 4) (c' := 4) (f := sbx) (g := g) (x := ⟨W1.heap.size, 0, none⟩) (y := ⟨W2.heap.size, 0, none⟩)
    (fun i hi => by rw [add_plain, Nat.zero_add]; exact (bX.cell (p := ⟨W1.heap.size, i, none⟩) hW1W2).trans (lit2 i hi)) (fun i hi => by rw [add_plain, Nat.zero_add]; exact mX.cell i hi) (by omega) (by omega) (Nat.le_trans b12.size bX.size)
  have b13 : Below W1.heap.size W1 W3 := hop b12 (hop bX b3)
  have SB : ∀ X, Below W1.heap.size W1 X → X.cell? ⟨w.heap.size, 3, none⟩ = some (.int .i64 (B : Int)) ∧ X.cell? ⟨w.heap.size, 4, none⟩ = some (.int .i64 (n : Int)) ∧ X.cell? ⟨w.heap.size, 5, none⟩ = some (.int .i64 (D : Int)) := fun X hX =>
    ⟨(hX.cell (p := ⟨w.heap.size, 3, none⟩) hlt).trans hd1.c3, (hX.cell (p := ⟨w.heap.size, 4, none⟩) hlt).trans hd1.c4, (hX.cell (p := ⟨w.heap.size, 5, none⟩) hlt).trans hd1.c5⟩
  obtain ⟨s3, s4, s5⟩ := SB W3 b13
  have HSB : Hid (∀ X, Below W1.heap.size W1 X → X.cell? ⟨w.heap.size, 3, none⟩ = some (.int .i64 (B : Int)) ∧ X.cell? ⟨w.heap.size, 4, none⟩ = some (.int .i64 (n : Int)) ∧ X.cell? ⟨w.heap.size, 5, none⟩ = some (.int .i64 (D : Int))) := SB
  have stepL : Hid (∀ (X : World) (v : Value) (F : Nat → Nat) (m x : Nat), Own X W1.heap.size v m F → Below W1.heap.size W1 X → m ≤ 100 → x < 4294967296 → Calls Tryd.prog 20 #[.int .i64 (x : Int), .int .i64 4] X fun e X' => ∃ q c' W v', e = .returned (.slice (some ⟨q, 0, none⟩) 4 c') ∧ Below W1.heap.size W1 X' ∧ Sem.run Tryd.prog (Builtin.append_ #[24, 24] 24 #[v, .slice (some ⟨q, 0, none⟩) 4 c']) X' = .ok v' W ∧ Own W W1.heap.size v' (m + 4) (cat m F (by4 x)) ∧ Below W1.heap.size W1 W) := by
    intro X v F m x ho hX hm hx
    refine (little_any x 4 X (by omega) (by omega)).mono ?_
    rintro e X' ⟨vl, rfl, hol, hbl⟩
    obtain ⟨q, c', rfl, _, _, _, rl⟩ := hol.row (by omega) (by4_lt _)
    have bX' : Below W1.heap.size W1 X' := hop hX hbl
    obtain ⟨v', W, hrr, hor, hbr, _⟩ := appendG (c := c') (ho.keep hbl) rl (fun e => by cases e) (by omega) bX'.size
    exact ⟨q, c', W, v', rfl, bX', hrr, hor, bX'.trans hbr⟩
  have bD : Below W1.heap.size W1 W3.drew := b13.drew
  have L1 := stepL.out W3.drew v3 _ _ B (ho3.keep (Below.refl _ _).drew) bD (by omega) (by omega)
  have L2 := fun X v F => stepL.out X v F 12 n
  have L3 := fun X v F => stepL.out X v F 16 D
  have HA3 : Hid (Sem.run Tryd.prog (Builtin.append_ #[24, 24] 24 #[.slice (some ⟨W1.heap.size, 0, none⟩) 4 4, .slice (some ⟨W2.heap.size, 0, none⟩) 4 4]) X2 = .ok v3 W3) := hr3
  obtain ⟨e0, e1, e2, e3, e4, e5⟩ := hd1.keep b12
  obtain ⟨t0, t1, t2, t3, t4, t5⟩ := hd1
  have i1 : (K : Int) < 256 := by omega
  have i2 : (M : Int) < 256 := by omega
  have i3 : (I : Int) < 256 := by omega
  have hX2' : W2.alloc (.cells #[.int .u8 (K : Int), .int .u8 (M : Int), .int .u8 (I : Int), .int .u8 0] 5) = X2 := hX2.symm
  clear hW2 b12 lit2 hX2 bX mX hr3 ho3 b3 SB
  go_wp2_with (at_builtin; refine wpList_append_ran (by rfl) _ _ 24 (by rfl) _ _ _ _ (by rfl) (by rfl) HA3.out ?_)
  clear HA3 cs hX2' e0 e1 e2 e3 e4 e5 t0 t1 t2 t3 t4 t5
  go_region_held3 (fun X => X.cell? ⟨w.heap.size, 3, none⟩ = some (.int .i64 (B : Int)) ∧ X.cell? ⟨w.heap.size, 4, none⟩ = some (.int .i64 (n : Int)) ∧ X.cell? ⟨w.heap.size, 5, none⟩ = some (.int .i64 (D : Int)))
    (first | exact ⟨s3, s4, s5⟩ | exact HSB.out _ (by assumption))
    (first
      | refine step_append_ran (by rfl) _ _ 24 (by rfl) _ _ _ _ (by rfl) (by rfl) z6 ?_
      | refine step_append_ran (by rfl) _ _ 24 (by rfl) _ _ _ _ (by rfl) (by rfl) y6 ?_
      | refine step_append_ran (by rfl) _ _ 24 (by rfl) _ _ _ _ (by rfl) (by rfl) x6 ?_
      | (go_at_call 20; with_reducible refine L1.mono ?_; rintro e wx ⟨qx, cx, Wx, vx, rfl, x5, x6, x7, x8⟩)
      | (go_at_call 20; with_reducible refine (L2 Wx vx _ x7 x8 (by omega) (by omega)).mono ?_; rintro e wy ⟨qy, cy, Wy, vy, rfl, y5, y6, y7, y8⟩)
      | (go_at_call 20; with_reducible refine (L3 Wy vy _ y7 y8 (by omega) (by omega)).mono ?_; rintro e wz ⟨qz, cz, Wz, vz, rfl, z5, z6, z7, z8⟩))
  all_goals
    go_wp2_with fail
    have hz20 : Own Wz W1.heap.size vz 20 (hd20 K M I B n D) := z7.congr fun i hi => by
      have e0 : cat 0 (fun _ => 0) sbx = sbx := funext fun j => by unfold cat; rw [if_neg (by omega), Nat.sub_zero]
      have := head_cat K M I B n D f g hg0 hg1 hg2 hg3 (fun _ => 0) i hi
      rw [e0] at this
      exact this
    obtain ⟨gz, cz', rfl, q1, q2, q3, rz⟩ := hz20.row (by omega) (hd20_lt K M I B n D)
    have cS := rsum_any (some ⟨gz, 0, none⟩) 20 cz' _ Wz rz (by unfold maxLen; omega)
    have ls : sum 20 (hd20 K M I B n D) < 4294967296 := more_lt (by omega) (hd20_lt K M I B n D)
    have cB := rbytes_any (sum 20 (hd20 K M I B n D)) Wz ls
    have HZ : Hid (Own Wz W1.heap.size (.slice (some ⟨gz, 0, none⟩) 20 cz') 20 (hd20 K M I B n D)) := hz20
    have HBZ : Hid (Below W1.heap.size W1 Wz) := z8
    clear L1 L2 L3 x5 x6 x7 x8 y5 y6 y7 y8 z5 z6 z7 z8 rz q1 q2 q3 s3 s4 s5 stepL hz20
    go_at_call 19
    refine cS.mono ?_
    rintro e w' ⟨rfl, rfl⟩
    clear cS
    go_wp2_with fail
    go_at_call 18
    refine cB.mono ?_
    rintro e W6 ⟨v6, rfl, ho6, b6⟩
    clear cB
    obtain ⟨g6, c6, rfl, q1, q2, q3, r6⟩ := ho6.row (by omega) (by4_lt _)
    have hb6 : Below W1.heap.size W1 W6 := hop HBZ.out b6
    obtain ⟨v7, W7, hr7, ho7, hb7, _⟩ := appendG (c := c6) (HZ.out.keep b6) r6 (fun e => by cases e) (by omega) hb6.size
    have HA7 : Hid (Sem.run Tryd.prog (Builtin.append_ #[24, 24] 24 #[.slice (some ⟨gz, 0, none⟩) 20 cz', .slice (some ⟨g6, 0, none⟩) 4 c6]) W6 = .ok v7 W7) := hr7
    have HO7 : Hid (Own W7 W1.heap.size v7 24 (file K M I B n D f)) := ho7.congr fun i hi => by
      unfold cat file
      split
      · rfl
      · rfl
    have HB7 : Hid (Below W1.heap.size W1 W7) := hb6.trans hb7
    clear hr7 ho7 hb7 hb6 b6 ho6 r6 q1 q2 q3 HZ HBZ
    go_wp2_with (at_builtin; refine wpList_append_ran (by rfl) _ _ 24 (by rfl) _ _ _ _ (by rfl) (by rfl) HA7.out ?_)
    clear HA7
    go_loopw [6, 7] (fun b t wr => ∃ k : Nat, k ≤ nb n B ∧ t = .int .i64 ((k * B : Nat) : Int) ∧ Own wr W1.heap.size b (plen n B k) (file K M I B n D f) ∧ Below W1.heap.size W1 wr) (fun _ t _ => n - (intOf t).toNat)
    case atStart =>
      have e0 : plen n B 0 = 24 := by unfold plen; rw [Nat.zero_mul, Nat.zero_min]
      exact ⟨0, by omega, by rw [Nat.zero_mul]; rfl, by rw [e0]; exact HO7.out, HB7.out⟩
    case round =>
      obtain ⟨k, hk, rfl, ho, hb⟩ := hrel
      clear HO7 HB7
      obtain ⟨s3, s4, s5⟩ := HSB.out wr hb
      by_cases hlt' : k * B < n
      · have hz0 := blen_pos (B := B) (S := n) (k := k) (by omega) hlt'
        have hpn := plen_next (n := n) (B := B) (k := k) (by omega)
        have hknb := lt_nb (B := B) (S := n) (k := k) (by omega) hlt'
        have hpl : plen n B k ≤ 50000 := by
          unfold plen
          have := Nat.le_mul_of_pos_right k (show 0 < B by omega)
          omega
        have hub : blen n B k ≤ 4096 := by unfold blen; omega
        have b1r : Below w.heap.size w wr := hop HB1.out hb
        obtain ⟨A0, sA0, rA0⟩ := cut_lh (c := c) HR.out (k * B) (blen n B k) (by unfold blen; omega) hc
        have hzz : (k * B + B ≤ n ∧ blen n B k = B) ∨ (n < k * B + B ∧ blen n B k = n - k * B) := by unfold blen; omega
        obtain ⟨v8, W8, hr8, ho8, hb8, _⟩ := appendG (c := c - k * B) ho (rA0.keep b1r) (fun e => absurd e (row_some rA0 hz0)) (by omega) hb.size
        have hb18 : Below W1.heap.size W1 W8 := hb.trans hb8
        have cS := rsum_any A0 (blen n B k) (c - k * B) _ W8 (rA0.keep (hop HB1.out hb18)) (by unfold maxLen; omega)
        have ls : sum (blen n B k) (fun i => f (k * B + i)) < 4294967296 := more_lt (by omega) (fun i => HF.out _)
        have K18 : Hid (Calls Tryd.prog 18 #[.int .u32 ((sum (blen n B k) (fun i => f (k * B + i)) : Nat) : Int)] W8 fun e w' => ∃ q c' v9 W9, e = .returned (.slice (some ⟨q, 0, none⟩) 4 c') ∧ Sem.run Tryd.prog (Builtin.append_ #[24, 24] 24 #[v8, .slice (some ⟨q, 0, none⟩) 4 c']) w' = .ok v9 W9 ∧ Own W9 W1.heap.size v9 (plen n B (k + 1)) (file K M I B n D f) ∧ Below W1.heap.size W1 W9 ∧ W9.cell? ⟨w.heap.size, 3, none⟩ = some (.int .i64 (B : Int))) := by
          refine (rbytes_any _ W8 ls).mono ?_
          rintro e w9 ⟨v9, rfl, ho9, b9⟩
          obtain ⟨q, c', rfl, _, _, _, r9⟩ := ho9.row (by omega) (by4_lt _)
          have hb19 : Below W1.heap.size W1 w9 := hop hb18 b9
          obtain ⟨v10, W10, hr10, ho10, hb10, _⟩ := appendG (c := c') (ho8.keep b9) r9 (fun e => by cases e) (by omega) hb19.size
          rw [← hpn] at ho10
          have hbe : Below W1.heap.size W1 W10 := hb19.trans hb10
          exact ⟨q, c', v10, W10, rfl, hr10, ho10.congr fun i hi => step_file (by omega) i hi, hbe, (HSB.out W10 hbe).1⟩
        have HA8 : Hid (Sem.run Tryd.prog (Builtin.append_ #[24, 24] 24 #[u6, .slice A0 (blen n B k) (c - k * B)]) wr = .ok v8 W8) := hr8
        have gl : ((k * B : Nat) : Int) < (n : Int) := by omega
        have HKN : Hid (k < nb n B) := hknb
        have HE : Hid (k * B + B = (k + 1) * B) := by unfold Hid; rw [Nat.add_mul, Nat.one_mul]
        clear ho hr8 ho8 hb8 hb18 rA0 b1r hpn hknb hb hk HSB HR
        generalize sum (blen n B k) (fun i => f (k * B + i)) = sm at *
        generalize blen n B k = zz at *
        generalize k * B = kB at *
        rcases hzz with ⟨e1, e2⟩ | ⟨e1, e2⟩
        · have hif : ((n : Int) < (kB : Int) + (B : Int)) = False := by simp; omega
          have sA0a : ∀ w', Sem.run Tryd.prog (Instr.slice 24 (.slice a n c) (some (.int .i64 (kB : Int))) (some (.int .i64 ((kB : Int) + (B : Int)))) none) w' = .ok (.slice A0 zz (c - kB)) w' := fun w' => by
            rw [← sA0 w', e2]
          clear e1 e2 sA0
          go_wp2_with (at_builtin; refine wpList_append_ran (by rfl) _ _ 24 (by rfl) _ _ _ _ (by rfl) (by rfl) HA8.out ?_)
          go_at_call 19
          refine cS.mono ?_
          rintro e w' ⟨rfl, rfl⟩
          clear cS HA8
          go_wp2_with fail
          go_at_call 18
          refine K18.out.mono ?_
          rintro e w9 ⟨q9, c9, v9, W9, rfl, y1, y2, y3, y4⟩
          clear K18
          have HY2 : Hid _ := y2
          have HA9 : Hid _ := y1
          clear y1 y2
          go_wp2_with (at_builtin; refine wpList_append_ran (by rfl) _ _ 24 (by rfl) _ _ _ _ (by rfl) (by rfl) HA9.out ?_)
          go_wp2
          go_round
          case rel => exact ⟨k + 1, HKN.out, by rw [← HE.out]; go_num, HY2.out, y3⟩
          case measure => simp [intOf]; omega
        · have hif : ((n : Int) < (kB : Int) + (B : Int)) = True := by simp; omega
          have sA0a : ∀ w', Sem.run Tryd.prog (Instr.slice 24 (.slice a n c) (some (.int .i64 (kB : Int))) (some (.int .i64 (n : Int))) none) w' = .ok (.slice A0 zz (c - kB)) w' := fun w' => by
            rw [← sA0 w', show (kB : Int) + (zz : Int) = (n : Int) by omega]
          clear e1 e2 sA0
          go_wp2_with (at_builtin; refine wpList_append_ran (by rfl) _ _ 24 (by rfl) _ _ _ _ (by rfl) (by rfl) HA8.out ?_)
          go_at_call 19
          refine cS.mono ?_
          rintro e w' ⟨rfl, rfl⟩
          clear cS HA8
          go_wp2_with fail
          go_at_call 18
          refine K18.out.mono ?_
          rintro e w9 ⟨q9, c9, v9, W9, rfl, y1, y2, y3, y4⟩
          clear K18
          have HY2 : Hid _ := y2
          have HA9 : Hid _ := y1
          clear y1 y2
          go_wp2_with (at_builtin; refine wpList_append_ran (by rfl) _ _ 24 (by rfl) _ _ _ _ (by rfl) (by rfl) HA9.out ?_)
          go_wp2
          go_round
          case rel => exact ⟨k + 1, HKN.out, by rw [← HE.out]; go_num, HY2.out, y3⟩
          case measure => simp [intOf]; omega
      · have hke : k = nb n B := by
          have := nb_le (S := n) (B := B) (k := k) (by omega) (by omega)
          omega
        subst hke
        have hge : (n : Int) ≤ ((nb n B * B : Nat) : Int) := by omega
        have HO : Hid (Own wr W1.heap.size u6 (plen n B (nb n B)) (file K M I B n D f)) := ho
        clear ho
        generalize nb n B * B = kB at *
        go_wp2
        go_ret2
        exact ⟨_, rfl, HO.out.mono (by omega), hop HB1.out hb⟩
end Go.Proofs.YtjbdncgmpccedaaDoor
