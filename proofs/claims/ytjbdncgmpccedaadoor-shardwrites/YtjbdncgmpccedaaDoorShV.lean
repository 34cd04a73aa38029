/-
  A head that may be, with its data: what the law ShardWrites of layer 5 answers.
-/
import Derived.Test.YtjbdncgmpccedaaDoorLaid4
import Derived.Test.YtjbdncgmpccedaaDoorShP
import Derived.Test.YtjbdncgmpccedaaDoorShS
import Derived.Test.YtjbdncgmpccedaaDoorOpn
namespace Go.Proofs.YtjbdncgmpccedaaDoor
open Go.ChangeShapes Go.WideShapes Go.ChangeAt Go.RowKit Crc
attribute [local go_sem ↓] Go.wp_at_zero Go.wp_at_succ
set_option linter.unusedVariables false
set_option maxRecDepth 100000 in
set_option maxHeartbeats 8000000 in
theorem core_same (K M I B D : Nat) (a : Option Addr) (n c : Nat) (f : Nat → Nat) (a' : Option Addr) (n' c' : Nat) (f' : Nat → Nat) (w : World) (T : HalfT w) (h : Row w a n f) (hn : n ≤ 5000) (hc : n ≤ c) (h' : Row w a' n' f') (hn' : n' ≤ 50) (hN : MayN K M I B n D)  :
    Calls Tryd.prog 3 #[hv K M I B n D, .slice a n c, .slice a' n' c'] w fun e w' => e = .returned (.bool true) ∧ Below w.heap.size w w' := by
  obtain ⟨W0, hbx, hd0, b0⟩ := box_head w 23 K M I B n D
  have hlt : w.heap.size < W0.heap.size := block_lt_of_cell hd0.c0
  have cA := awake_any W0 (T.keep b0)
  have HB0 : Hid (Below w.heap.size w W0) := b0
  have HD0 : Hid (HdAt W0 w.heap.size K M I B n D) := hd0
  have HR' : Hid (Row w a' n' f') := h'
  have HR : Hid (Row w a n f) := h
  have HF : Hid (∀ i, f i < 256) := h.lt
  have HMM : Hid (MayH K M I B n D) := hN.h
  have HN : Hid (MayN K M I B n D) := hN
  have HT : Hid (HalfT w) := T
  have uS := hN.s
  have uB := hN.b
  have uB2 := hN.b2
  have k3 := hN.km
  clear T h b0 hd0 h' hN
  unfold hv
  go_enter Tryd.func3, Tryd.ntmps3
  go_wp2_with fail
  go_at_call 7
  refine cA.mono ?_
  rintro e w1 ⟨rfl, b1⟩
  clear cA hbx
  have hd1 := HD0.out.keep b1
  have HB1 : Hid (Below w.heap.size w w1) := hop HB0.out b1
  have HD1 : Hid (HdAt w1 w.heap.size K M I B n D) := hd1
  obtain ⟨x0, x1, x2, x3, x4, x5⟩ := hd1
  have cH := head_any K M I B n D w1
  clear b1 HB0 HD0
  have g1 : decide ((5000 : Int) < (n : Int)) = false := decide_eq_false (by omega)
  have g2 : decide ((50 : Int) < (n' : Int)) = false := decide_eq_false (by omega)
  unfold hv at cH
  go_wp2_with fail
  go_at_call 9
  refine cH.mono ?_
  rintro e w2 ⟨rfl, b2⟩
  clear cH x0 x1 x2 x3 x4 x5
  have HD2 : Hid (HdAt w2 w.heap.size K M I B n D) := HD1.out.keep b2
  have HB2 : Hid (Below w.heap.size w w2) := hop HB1.out b2
  have cW := write_ok w2 K M I B D n c a f (HT.out.keep HB2.out) HN.out (HR.out.keep HB2.out) hc
  clear b2 HD1 HB1
  unfold hv at cW
  go_wp2_with fail
  go_at_call 8
  refine cW.mono ?_
  rintro e w3 ⟨v3, rfl, ho3, b3⟩
  clear cW
  obtain ⟨g3, c3, rfl, q1, q2, q3, r3⟩ := ho3.row (by have := wl_24 n B n; omega) (file_lt HF.out)
  have HR3 : Hid (Row w3 (some ⟨g3, 0, none⟩) (wl n B n) (file K M I B n D f)) := r3
  clear q1 q2 q3 r3 ho3
  have HD3 : Hid (HdAt w3 w.heap.size K M I B n D) := HD2.out.keep b3
  have HB3 : Hid (Below w.heap.size w w3) := hop HB2.out b3
  obtain ⟨x0, x1, x2, x3, x4, x5⟩ := HD3.out
  have cR := rwrite_ok w3 K M I B D n c a f HN.out (HR.out.keep HB3.out) hc hn
  clear b3 HD2 HB2
  unfold hv at cR
  go_wp2_with fail
  go_at_call 10
  refine cR.mono ?_
  rintro e w4 ⟨v4, rfl, ho4, b4⟩
  clear cR x0 x1 x2 x3 x4 x5
  have hLe : plen n B (nb n B) = wl n B n := (wl_plen (by omega)).symm
  rw [hLe] at ho4
  obtain ⟨g4, c4, rfl, q1, q2, q3, r4⟩ := ho4.row (by have := wl_24 n B n; omega) (file_lt HF.out)
  have HR4 : Hid (Row w4 (some ⟨g4, 0, none⟩) (wl n B n) (file K M I B n D f)) := r4
  have HR34 : Hid (Row w4 (some ⟨g3, 0, none⟩) (wl n B n) (file K M I B n D f)) := HR3.out.keep b4
  clear q1 q2 q3 r4 ho4 hLe HR3
  have HD4 : Hid (HdAt w4 w.heap.size K M I B n D) := HD3.out.keep b4
  have HB4 : Hid (Below w.heap.size w w4) := hop HB3.out b4
  obtain ⟨x0, x1, x2, x3, x4, x5⟩ := HD4.out
  have bD : Below w4.heap.size w4 w4.drew := (Below.refl _ _).drew
  have cv1 : Sem.run Tryd.prog (convert 24 9 (.slice (some ⟨g3, 0, none⟩) (wl n B n) c3)) w4.drew = .ok (.string (str (file K M I B n D f) (wl n B n))) w4.drew := conv_row (HR34.out.keep bD) (fun e => by cases e)
  have cv2 : Sem.run Tryd.prog (convert 24 9 (.slice (some ⟨g4, 0, none⟩) (wl n B n) c4)) w4.drew = .ok (.string (str (file K M I B n D f) (wl n B n))) w4.drew := conv_row (HR4.out.keep bD) (fun e => by cases e)
  have HSS : Hid (∃ SS, str (file K M I B n D f) (wl n B n) = SS) := ⟨_, rfl⟩
  obtain ⟨SS, hSS⟩ := HSS.out
  rw [hSS] at cv1 cv2
  have HS2 : Hid (str (file K M I B n D f) (wl n B n) = SS) := hSS
  obtain ⟨L, hL⟩ : ∃ L, wl n B n = L := ⟨_, rfl⟩
  rw [hL] at cv1 cv2 HR4 HR34 HS2 ⊢
  have HL : Hid (wl n B n = L) := hL
  clear bD HSS hSS hL
  have KH : ∀ X, HdAt X w.heap.size K M I B n D → Below w.heap.size w X → Calls Tryd.prog 9 #[.agg #[.int .i64 (K : Int), .int .i64 (M : Int), .int .i64 (I : Int), .int .i64 (B : Int), .int .i64 (n : Int), .int .i64 (D : Int)]] X fun e X' => e = .returned (.agg #[.int .i64 (K : Int), .int .i64 (M : Int), .int .i64 (I : Int), .int .i64 (B : Int), .int .i64 (n : Int), .int .i64 (D : Int)]) ∧ HdAt X' w.heap.size K M I B n D ∧ Below w.heap.size w X' ∧ Below X.heap.size X X' := fun X hX bX => (head_any K M I B n D X).mono (by
    rintro e X' ⟨rfl, b⟩
    exact ⟨rfl, hX.keep b, hop bX b, b⟩)
  have KM : ∀ X, HdAt X w.heap.size K M I B n D → Below w.heap.size w X → Calls Tryd.prog 11 #[.agg #[.int .i64 (K : Int), .int .i64 (M : Int), .int .i64 (I : Int), .int .i64 (B : Int), .int .i64 (n : Int), .int .i64 (D : Int)]] X fun e X' => e = .returned (.bool true) ∧ HdAt X' w.heap.size K M I B n D ∧ Below w.heap.size w X' ∧ Below X.heap.size X X' := fun X hX bX => (may_yes K M I B n D X HMM.out).mono (by
    rintro e X' ⟨rfl, b⟩
    exact ⟨rfl, hX.keep b, hop bX b, b⟩)
  have KR : ∀ X, HdAt X w.heap.size K M I B n D → Below w.heap.size w X → Calls Tryd.prog 12 #[.agg #[.int .i64 (K : Int), .int .i64 (M : Int), .int .i64 (I : Int), .int .i64 (B : Int), .int .i64 (n : Int), .int .i64 (D : Int)]] X fun e X' => e = .returned (.bool true) ∧ HdAt X' w.heap.size K M I B n D ∧ Below w.heap.size w X' ∧ Below X.heap.size X X' := fun X hX bX => (rmay_yes K M I B n D X (by omega) (by omega) (by omega) (by omega) HMM.out).mono (by
    rintro e X' ⟨rfl, b⟩
    exact ⟨rfl, hX.keep b, hop bX b, b⟩)
  have K1 := KH w4.drew (HD4.out.keep (Below.refl _ _).drew) HB4.out.drew
  clear b4 HD3 HB3
  go_upto_region 7 with fail
  go_cut [61] (fun s wx => s = .bool false ∧ HdAt wx w.heap.size K M I B n D ∧ Below w.heap.size w wx ∧ Below w4.heap.size w4 wx)
  case first =>
    go_region_held (fun X => X.cell? ⟨w.heap.size, 0, none⟩ = some (.int .i64 (K : Int)) ∧ X.cell? ⟨w.heap.size, 1, none⟩ = some (.int .i64 (M : Int)) ∧ X.cell? ⟨w.heap.size, 2, none⟩ = some (.int .i64 (I : Int)) ∧ X.cell? ⟨w.heap.size, 3, none⟩ = some (.int .i64 (B : Int)) ∧ X.cell? ⟨w.heap.size, 4, none⟩ = some (.int .i64 (n : Int)) ∧ X.cell? ⟨w.heap.size, 5, none⟩ = some (.int .i64 (D : Int)))
      (first | exact ⟨x0, x1, x2, x3, x4, x5⟩ | exact ⟨y1.c0, y1.c1, y1.c2, y1.c3, y1.c4, y1.c5⟩ | exact ⟨y3.c0, y3.c1, y3.c2, y3.c3, y3.c4, y3.c5⟩ | exact ⟨y5.c0, y5.c1, y5.c2, y5.c3, y5.c4, y5.c5⟩ | go_keep)
      (first | (go_at_call 9; refine K1.mono ?_; rintro e wa ⟨rfl, y1, y2, y7⟩) | (go_at_call 11; refine (KM wa y1 y2).mono ?_; rintro e wb ⟨rfl, y3, y4, y8⟩) | (go_at_call 12; refine (KR wb y3 y4).mono ?_; rintro e wd ⟨rfl, y5, y6, y9⟩))
    all_goals (go_wp2_with fail; go_meet; exact ⟨by simp, y5, y6, hop (Below.refl _ _).drew (hop y7 (hop y8 y9))⟩)
  case rest =>
    obtain ⟨rfl, hd5, hb5, hb45⟩ := hcut
    have K1' := KH wc hd5 hb5
    obtain ⟨v0, v1, v2, v3, v4, v5⟩ := hd5
    have HB45 : Hid (Below w4.heap.size w4 wc) := hb45
    clear K1 x0 x1 x2 x3 x4 x5 HD4 HB4 cv1 cv2 KM hb45
    go_wp2_with fail
    go_at_call 9
    refine K1'.mono ?_
    rintro e w6 ⟨rfl, hd6, hb6, hb56⟩
    clear K1' hb5
    have cN := newW_ok w6 K M I B n D f (HT.out.keep hb6) HN.out
    have HD6 : Hid (HdAt w6 w.heap.size K M I B n D) := hd6
    have HB6 : Hid (Below w.heap.size w w6) := hb6
    have HB46 : Hid (Below w4.heap.size w4 w6) := hop HB45.out hb56
    have R6 : Hid (Row w6 a n f) := HR.out.keep hb6
    have T6 : Hid (HalfT w6) := HT.out.keep hb6
    clear hd6 hb6 v0 v1 v2 v3 v4 v5 hb56 HB45
    unfold hv at cN
    go_wp2_with fail
    go_at_call 13
    refine cN.mono ?_
    rintro e w7 ⟨p, rfl, hp, hW7, b7⟩
    clear cN
    have HB7 : Hid (Below w6.heap.size w6 w7) := b7
    have HW7 : Hid (Wr w7 w6.heap.size p K M I B n D f 0) := hW7
    clear b7 hW7
    have H6 : ∀ X, Below w6.heap.size w6 X → HdAt X w.heap.size K M I B n D ∧ Below w.heap.size w X := fun X hX => ⟨HD6.out.keep hX, hop HB6.out hX⟩
    have HH6 : Hid (∀ X, Below w6.heap.size w6 X → HdAt X w.heap.size K M I B n D ∧ Below w.heap.size w X) := H6
    clear H6
    go_wp2_with fail
    go_loopw [12, 13] (fun u i wr => ∃ t k : Nat, k ≤ n' ∧ t ≤ n ∧ t ≤ n ∧ u = .int .i64 (t : Int) ∧ i = .int .i64 (k : Int) ∧ Wr wr w6.heap.size p K M I B n D f t ∧ Below w6.heap.size w6 wr) (fun _ i _ => n' - (intOf i).toNat)
    case atStart => exact ⟨0, 0, by omega, by omega, by omega, rfl, rfl, HW7.out, HB7.out⟩
    case round =>
      obtain ⟨t, k, hk, htn, htS, rfl, rfl, hW, hb⟩ := hrel
      clear HW7 HB7
      have HW : Hid (Wr wr w6.heap.size p K M I B n D f t) := hW
      have HBR : Hid (Below w6.heap.size w6 wr) := hb
      clear hW hb
      by_cases hlt' : k < n'
      · obtain ⟨b', o', rfl, hcl⟩ := (HR'.out.keep (HH6.out wr HBR.out).2).lies (by omega)
        have c0 := hcl k hlt'
        have lx := HR'.out.lt k
        obtain ⟨x, hx⟩ : ∃ x, f' k = x := ⟨_, rfl⟩
        rw [hx] at c0 lx
        clear hcl hx
        obtain ⟨r, er⟩ : ∃ r : Nat, (n : Int) - (t : Int) = (r : Int) := ⟨n - t, by omega⟩
        have hr : r ≤ 5000 := by omega
        obtain ⟨m, hm⟩ : ∃ m, m = min x r := ⟨_, rfl⟩
        obtain ⟨A, sl, rA⟩ := cut_lh (c := c) R6.out t m (by omega) hc
        have ik : (k : Int) < (n' : Int) := by omega
        have hmm : (r < x ∧ m = r) ∨ (x ≤ r ∧ m = x) := by omega
        have Hm : Hid (t + m ≤ n) := by unfold Hid; omega
        obtain ⟨v0, v1, v2, v3, v4, v5⟩ := (HH6.out wr HBR.out).1
        have im : m ≤ 300 := by omega
        have jm : (t : Int) + (m : Int) ≤ 5000 := by omega
        have cA := add_ok w6 wr p K M I B n D t f A m (c - t) T6.out rA (by omega) HBR.out hp HW.out HF.out uB uB2 uS (by omega)
        have hle : ((t : Int) + (m : Int)) ≤ (n : Int) := by omega
        clear rA hm
        rcases hmm with ⟨e1, e2⟩ | ⟨e1, e2⟩
        · subst e2
          · go_wp2_with fail
            go_at_call 14
            refine cA.mono ?_
            rintro e w8 ⟨rfl, b8, hW8⟩
            clear cA
            have HW8 : Hid (Wr w8 w6.heap.size p K M I B n D f (t + m)) := hW8
            have HB8 : Hid (Below w6.heap.size w6 w8) := b8
            have cR8 := KR w8 (HH6.out w8 b8).1 (HH6.out w8 b8).2
            obtain ⟨s0, s1, s2, s3, s4, s5⟩ := (HH6.out w8 b8).1
            clear b8 hW8
            go_wp2_with fail
            go_at_call 12
            refine cR8.mono ?_
            rintro e w9 ⟨rfl, hd9, hb9, b9⟩
            clear cR8
            obtain ⟨z0, z1, z2, z3, z4, z5⟩ := hd9
            have HW9 : Hid (Wr w9 w6.heap.size p K M I B n D f (t + m)) := HW8.out.keep b9
            have HB9 : Hid (Below w6.heap.size w6 w9) := hop HB8.out b9
            clear b9 hb9 HW8 HB8
            go_wp2
            go_round
            case rel => exact ⟨t + m, k + 1, by omega, Hm.out, by omega, by go_num, by go_num, HW9.out, HB9.out⟩
            case measure => simp [intOf]; omega
        · subst e2
          · go_wp2_with fail
            go_at_call 14
            refine cA.mono ?_
            rintro e w8 ⟨rfl, b8, hW8⟩
            clear cA
            have HW8 : Hid (Wr w8 w6.heap.size p K M I B n D f (t + m)) := hW8
            have HB8 : Hid (Below w6.heap.size w6 w8) := b8
            have cR8 := KR w8 (HH6.out w8 b8).1 (HH6.out w8 b8).2
            obtain ⟨s0, s1, s2, s3, s4, s5⟩ := (HH6.out w8 b8).1
            clear b8 hW8
            go_wp2_with fail
            go_at_call 12
            refine cR8.mono ?_
            rintro e w9 ⟨rfl, hd9, hb9, b9⟩
            clear cR8
            obtain ⟨z0, z1, z2, z3, z4, z5⟩ := hd9
            have HW9 : Hid (Wr w9 w6.heap.size p K M I B n D f (t + m)) := HW8.out.keep b9
            have HB9 : Hid (Below w6.heap.size w6 w9) := hop HB8.out b9
            clear b9 hb9 HW8 HB8
            go_wp2
            go_round
            case rel => exact ⟨t + m, k + 1, by omega, Hm.out, by omega, by go_num, by go_num, HW9.out, HB9.out⟩
            case measure => simp [intOf]; omega
      · have hkn : (n' : Int) ≤ (k : Int) := by omega
        obtain ⟨A, sl, rA⟩ := cut_l (c := c) R6.out t htn hc
        have cA := add_ok w6 wr p K M I B n D t f A (n - t) (c - t) T6.out rA (by omega) HBR.out hp HW.out HF.out uB uB2 uS (by omega)
        rw [show t + (n - t) = n by omega] at cA
        clear rA
        go_wp2_with fail
        go_at_call 14
        refine cA.mono ?_
        rintro e w8 ⟨rfl, b8, hW8⟩
        clear cA
        have cE := end_ok w8 w6.heap.size p K M I B n D f hW8 hp
        rw [HL.out] at cE
        have HB8 : Hid (Below w6.heap.size w6 w8) := b8
        clear b8 hW8
        go_wp2_with fail
        go_at_call 15
        refine cE.mono ?_
        rintro e w9 ⟨v9, rfl, ho9, hd9, b9⟩
        clear cE
        have b69 : Below w6.heap.size w6 w9 := HB8.out.trans b9
        have hL24 : 24 ≤ L := by rw [← HL.out]; exact wl_24 n B n
        obtain ⟨g9, c9, rfl, q1, q2, q3, r9⟩ := ho9.row (by omega) (file_lt HF.out)
        have cE2 := end_dead w9 p hd9
        have HR9 : Hid (Row w9 (some ⟨g9, 0, none⟩) L (file K M I B n D f)) := r9
        have HB69 : Hid (Below w6.heap.size w6 w9) := b69
        clear q1 q2 q3 ho9 r9 b69 b9 hd9
        go_wp2_with fail
        go_at_call 15
        refine cE2.mono ?_
        rintro e w' ⟨rfl, rfl⟩
        clear cE2
        have cR8 := KR w9 (HH6.out w9 HB69.out).1 (HH6.out w9 HB69.out).2
        obtain ⟨s0, s1, s2, s3, s4, s5⟩ := (HH6.out w9 HB69.out).1
        go_wp2_with fail
        go_at_call 12
        refine cR8.mono ?_
        rintro e w10 ⟨rfl, hd10, hb10, b10⟩
        clear cR8
        obtain ⟨z0, z1, z2, z3, z4, z5⟩ := hd10
        have cv1 : ∀ X, Below w10.heap.size w10 X → Sem.run Tryd.prog (convert 24 9 (.slice (some ⟨g9, 0, none⟩) L c9)) X = .ok (.string SS) X := fun X hX => by
          rw [← HS2.out]; exact conv_row (HR9.out.keep (hop b10 hX)) (fun e => by cases e)
        have cv2 : ∀ X, Below w10.heap.size w10 X → Sem.run Tryd.prog (convert 24 9 (.slice (some ⟨g4, 0, none⟩) L c4)) X = .ok (.string SS) X := fun X hX => by
          rw [← HS2.out]; exact conv_row (HR4.out.keep (hop HB46.out (hop HB69.out (hop b10 hX)))) (fun e => by cases e)
        have cv1' := cv1 w10 (Below.refl _ _)
        have cv2' := cv2 w10 (Below.refl _ _)
        clear cv1 cv2 b10
        go_wp2
        go_ret
        exact ⟨rfl, hb10⟩
end Go.Proofs.YtjbdncgmpccedaaDoor
