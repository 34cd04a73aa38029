/-
  The law ShardBlocks of layer 5 (a file has a head, and so many blocks as the data fills, each with its sum right behind it; the data stands in it, block by block) answers true for all data and block lengths, where crc's table is as the program's text lays it.
-/
import Derived.Test.YtjbdncgmpccedaaDoorRows
import Derived.WalkKit
import Derived.ProofKit
import Derived.OpenShut
import Derived.ShutString
import Derived.ChangeOld
import Derived.Below
import Derived.SizedLaws
import Derived.LaidMore
import Derived.Stop.Joined
import Derived.SevenTiedAt
import Derived.Test.YtjbdncgmpccedaaDoorCards
import Derived.Test.YtjbdncgmpccedaaDoorTie
import Derived.Test.YtjbdncgmpccedaaDoorLaid4
import Derived.Test.YtjbdncgmpccedaaDoorShP
import Derived.Test.YtjbdncgmpccedaaDoorCrcRef
namespace Go.Proofs.YtjbdncgmpccedaaDoor
namespace shardBlocks
open Go.ChangeShapes Go.WideShapes Go.ChangeAt Go.RowKit Crc
set_option linter.unusedVariables false
attribute [local go_sem ↓] Go.wp_at_zero Go.wp_at_succ

theorem own : ownKnob Tryd.prog.godebug = none := by kernel_rfl
theorem laidOut : laidOutB Tryd.prog = true := by kernel_rfl

theorem wl_eq (S B : Nat) : wl S B S = 24 + S + 4 * nb S B := by unfold wl cb; rw [if_pos rfl]
set_option maxRecDepth 100000 in
set_option maxHeartbeats 4000000 in
theorem core (a : Option Addr) (n c : Nat) (f : Nat → Nat) (x : Nat) (w : World) (T : HalfT w) (h : Row w a n f) (z : a = none → n = 0 ∧ c = 0) (hn : n ≤ maxLen) (hc : n ≤ c) (hx : x < 256) :
    Calls Tryd.prog 6 #[.slice a n c, .int .u8 (x : Int)] w fun e w' => e = .returned (.bool true) ∧ Below w.heap.size w w' := by
  unfold maxLen at hn
  go_enter Tryd.func6, Tryd.ntmps6
  go_wp2_with fail
  go_at_call 7
  refine (awake_any w T).mono ?_
  rintro e w1 ⟨rfl, b1⟩
  have T1 : Hid (HalfT w1) := T.keep b1
  have HR : Hid (Row w1 a n f) := h.keep b1
  have HF : Hid (∀ i, f i < 256) := h.lt
  have HB1 : Hid (Below w.heap.size w w1) := b1
  have HZ : Hid (a = none → n = 0 ∧ c = 0) := z
  clear h T z
  by_cases l1 : 4000 < n
  · have g1 : (4000 : Int) < (n : Int) := by omega
    go_wp2
    go_ret
    exact ⟨rfl, b1⟩
  have g1 : decide ((4000 : Int) < (n : Int)) = false := decide_eq_false (by omega)
  have hm : n ≤ maxLen := by unfold maxLen; omega
  have cO := one_any n x w1 hm hx
  have hN := one_may n x (by omega) hx
  obtain ⟨B, hB⟩ : ∃ B, 16 + x = B := ⟨_, rfl⟩
  rw [hB] at cO hN
  have HN : Hid (MayN 2 1 1 B n 65537) := hN
  have hB0 : 0 < B := by omega
  have hB1 : B ≤ 300 := by omega
  clear b1 hN hB
  unfold hv at cO
  go_wp2_with fail
  go_at_call 16
  refine cO.mono ?_
  rintro e w2 ⟨rfl, b2⟩
  clear cO
  obtain ⟨W2, hW2⟩ : ∃ W, w2.alloc (.cells #[.int .i64 2, .int .i64 1, .int .i64 1, .int .i64 (B : Int), .int .i64 (n : Int), .int .i64 65537] 23) = W := ⟨_, rfl⟩
  have hh2 : HdB W2 w2.heap.size 2 1 1 (B : Int) (n : Int) 65537 23 := by rw [← hW2]; exact heap_alloc_new _ _
  have b12 : Below w1.heap.size w1 W2 := by rw [← hW2]; exact hop b2 (bal _ _)
  have cH := head_any 2 1 1 (B : Int) (n : Int) 65537 W2
  obtain ⟨x0, x1, x2, x3, x4, x5⟩ := hh2.at
  have HB2 : Hid (Below w1.heap.size w1 W2) := b12
  have hpl : w2.heap.size < W2.heap.size := block_lt_of_cell x3
  have X3 : Hid (W2.cell? ⟨w2.heap.size, 3, none⟩ = some (.int .i64 (B : Int))) := x3
  clear b2 b12 hh2
  unfold hv at cH
  go_wp2_with fail
  go_at_call 9
  refine cH.mono ?_
  rintro e w3 ⟨rfl, b3⟩
  clear cH hW2
  have b13 : Below w1.heap.size w1 w3 := hop HB2.out b3
  have cW := write_ok w3 2 1 1 B 65537 n c a f (T1.out.keep b13) HN.out (HR.out.keep b13) hc
  have HB23 : Hid (Below W2.heap.size W2 w3) := b3
  clear b3 b13 x0 x1 x2 x3 x4 x5
  obtain ⟨pb, hpb⟩ : ∃ pb, w2.heap.size = pb := ⟨_, rfl⟩
  rw [hpb] at X3 hpl ⊢
  clear hpb
  unfold hv at cW
  go_wp2_with fail
  go_at_call 8
  refine cW.mono ?_
  rintro e w4 ⟨v4, rfl, ho4, b4⟩
  clear cW
  have hl1 := wl_24 n B n
  have hl2 := wl_le (S := n) (B := B) (t := n) (by have := HN.out.b; omega) (Nat.le_refl _)
  obtain ⟨gb, cb, rfl, q1, hncb, q3, r4⟩ := ho4.row (by omega) (file_lt HF.out)
  have b24 : Below W2.heap.size W2 w4 := hop HB23.out b4
  have x3 : w4.cell? ⟨pb, 3, none⟩ = some (.int .i64 (B : Int)) := (b24.cell (p := ⟨pb, 3, none⟩) hpl).trans X3.out
  have HB4 : Hid (Below w1.heap.size w1 w4) := hop HB2.out b24
  have HR4 : Hid (Row w4 (some ⟨gb, 0, none⟩) (wl n B n) (file 2 1 1 B n 65537 f)) := r4
  have HW : Hid (wl n B n = plen n B (nb n B)) := wl_plen hB0
  have HWL : Hid (wl n B n = 24 + n + 4 * nb n B) := wl_eq n B
  have hpl4 : pb < w4.heap.size := Nat.lt_of_lt_of_le hpl b24.size
  have X4 : Hid (w4.cell? ⟨pb, 3, none⟩ = some (.int .i64 (B : Int))) := x3
  clear b4 b24 q1 q3 r4 ho4 HB2 HB23 X3 hpl
  have eN : ((n : Int) + (B : Int) - 1) / (B : Int) = ((nb n B : Nat) : Int) := by
    rw [show (n : Int) + (B : Int) - 1 = ((n + B - 1 : Nat) : Int) by omega]
    unfold nb
    simp
  have hNle : nb n B ≤ 5000 := by have := HWL.out; omega
  obtain ⟨L, hL⟩ : ∃ L, wl n B n = L := ⟨_, rfl⟩
  rw [hL] at HR4 HW HWL hncb hl1 hl2 ⊢
  have HL : Hid (wl n B n = L) := hL
  clear hL
  obtain ⟨N, hN⟩ : ∃ N, nb n B = N := ⟨_, rfl⟩
  rw [hN] at HW HWL eN hNle
  have HNN : Hid (nb n B = N) := hN
  have e8 : (24 : Int) + (n : Int) + 4 * (N : Int) = (L : Int) := by have := HWL.out; omega
  have i1 : (0 : Int) < (B : Int) := by omega
  have i2 : (0 : Int) ≤ (n : Int) + (B : Int) - 1 := by omega
  clear hN
  go_wp2_with fail
  rw [eN]
  clear eN e8 i2
  go_loopw [9, 10] (fun t i wr => ∃ k : Nat, k ≤ N ∧ i = .int .i64 k ∧ t = .int .i64 ((plen n B k : Nat) : Int) ∧ Below w4.heap.size w4 wr) (fun _ i _ => N - (intOf i).toNat)
  case atStart =>
    have e0 : plen n B 0 = 24 := by unfold plen; rw [Nat.zero_mul, Nat.zero_min]
    exact ⟨0, by omega, rfl, by rw [e0]; rfl, Below.refl _ _⟩
  case round =>
    obtain ⟨k, hk, rfl, rfl, hb⟩ := hrel
    have hplL : plen n B k ≤ L := by
      have := plen_mono (S := n) (B := B) (i := k) (j := N) hk
      have := HW.out
      omega
    have y3 : wr.cell? ⟨pb, 3, none⟩ = some (.int .i64 (B : Int)) := (hb.cell (p := ⟨pb, 3, none⟩) hpl4).trans X4.out
    have b1r : Below w1.heap.size w1 wr := hop HB4.out hb
    by_cases hlt : k < N
    · have hkS : k * B < n := nb_up hB0 (by rw [HNN.out]; exact hlt)
      have hz0 := blen_pos (B := B) (S := n) (k := k) hB0 hkS
      have hpn := plen_next (n := n) (B := B) (k := k) (by omega)
      have hpL2 : plen n B k + blen n B k + 4 ≤ L := by
        have := plen_mono (S := n) (B := B) (i := k + 1) (j := N) hlt
        have := HW.out
        omega
      have hdone := next_done (B := B) (S := n) (k := k) hkS
      obtain ⟨A0, sA0, rA0⟩ := cut_lh (c := c) (HR.out.keep b1r) (k * B) (blen n B k) (by omega) hc
      obtain ⟨A1, sA1, rA1⟩ := cut_lh (c := cb) (HR4.out.keep hb) (plen n B k) (blen n B k) (by omega) hncb
      obtain ⟨A2, sA2, rA2⟩ := cut_lh (c := cb) (HR4.out.keep hb) (plen n B k + blen n B k) 4 (by omega) hncb
      have ik : (k : Int) < (N : Int) := by omega
      have hsl : blen n B k ≤ 300 := by unfold blen; omega
      have ls : sum (blen n B k) (fun i => f (k * B + i)) < 4294967296 := more_lt (by omega) (fun i => HF.out _)
      -- the strings
      have v0 : ∀ X, Below wr.heap.size wr X → Sem.run Tryd.prog (convert 24 9 (.slice A0 (blen n B k) (c - k * B))) X = .ok (.string (str (fun i => f (k * B + i)) (blen n B k))) X := fun X hX => conv_row (rA0.keep hX) (fun e => absurd e (row_some rA0 hz0))
      have v1 : ∀ X, Below wr.heap.size wr X → Sem.run Tryd.prog (convert 24 9 (.slice A1 (blen n B k) (cb - plen n B k))) X = .ok (.string (str (fun i => f (k * B + i)) (blen n B k))) X := fun X hX => by
        rw [conv_row (rA1.keep hX) (fun e => absurd e (row_some rA1 hz0)), str_congr (g := fun i => f (k * B + i)) (fun i hi => file_data (by omega) hi)]
      have v2 : ∀ X, Below wr.heap.size wr X → Sem.run Tryd.prog (convert 24 9 (.slice A2 4 (cb - (plen n B k + blen n B k)))) X = .ok (.string (str (by4 (sum (blen n B k) (fun i => f (k * B + i)))) 4)) X := fun X hX => by
        rw [conv_row (rA2.keep hX) (fun e => absurd e (row_some rA2 (by omega))), str_congr (g := by4 (sum (blen n B k) (fun i => f (k * B + i)))) (fun i hi => file_sum (by omega) hi)]
      have bD : Below wr.heap.size wr wr.drew := (Below.refl _ _).drew
      have c19 := rsum_any A0 (blen n B k) (c - k * B) _ wr.drew (rA0.keep bD) (by unfold maxLen; omega)
      have K18 : Hid (Calls Tryd.prog 18 #[.int .u32 ((sum (blen n B k) (fun i => f (k * B + i)) : Nat) : Int)] wr.drew fun e w' => ∃ v, e = .returned v ∧ Sem.run Tryd.prog (convert 24 9 v) w' = .ok (.string (str (by4 (sum (blen n B k) (fun i => f (k * B + i)))) 4)) w' ∧
          Sem.run Tryd.prog (convert 24 9 (.slice A0 (blen n B k) (c - k * B))) w' = .ok (.string (str (fun i => f (k * B + i)) (blen n B k))) w' ∧
          Sem.run Tryd.prog (convert 24 9 (.slice A1 (blen n B k) (cb - plen n B k))) w' = .ok (.string (str (fun i => f (k * B + i)) (blen n B k))) w' ∧
          Sem.run Tryd.prog (convert 24 9 (.slice A2 4 (cb - (plen n B k + blen n B k)))) w' = .ok (.string (str (by4 (sum (blen n B k) (fun i => f (k * B + i)))) 4)) w' ∧ Below w4.heap.size w4 w') := by
        refine (rbytes_any _ wr.drew ls).mono ?_
        rintro e w5 ⟨v, rfl, ho, b5⟩
        obtain ⟨g5, c5, rfl, _, _, _, r5⟩ := ho.row (by omega) (by4_lt _)
        have b5' : Below wr.heap.size wr w5 := hop bD b5
        exact ⟨_, rfl, conv_row r5 (fun e => by cases e), v0 w5 b5', v1 w5 b5', v2 w5 b5', hop hb b5'⟩
      have d0 := v0 wr.drew bD
      have d1 := v1 wr.drew bD
      have d2 := v2 wr.drew bD
      have ekB : (k : Int) * (B : Int) = ((k * B : Nat) : Int) := by simp
      have ekB1 : ((k : Int) + 1) * (B : Int) = ((k * B + B : Nat) : Int) := by rw [show k * B + B = (k + 1) * B by rw [Nat.add_mul, Nat.one_mul]]; simp
      have hzz : (k * B + B ≤ n ∧ blen n B k = B) ∨ (n < k * B + B ∧ blen n B k = n - k * B) := by unfold blen; omega
      have sA2' : ∀ w', Sem.run Tryd.prog (Instr.slice 24 (.slice (some ⟨gb, 0, none⟩) L cb) (some (.int .i64 (((plen n B k : Nat) : Int) + ((blen n B k : Nat) : Int)))) (some (.int .i64 (((plen n B k : Nat) : Int) + ((blen n B k : Nat) : Int) + 4))) none) w' = .ok (.slice A2 4 (cb - (plen n B k + blen n B k))) w' := by
        have e : ((plen n B k + blen n B k : Nat) : Int) = ((plen n B k : Nat) : Int) + ((blen n B k : Nat) : Int) := by omega
        rw [e] at sA2
        exact sA2
      have HPN : Hid (plen n B (k + 1) = plen n B k + blen n B k + 4) := hpn
      clear v0 v1 v2 bD rA0 rA1 rA2 sA2 hpn hdone
      generalize str (by4 (sum (blen n B k) (fun i => f (k * B + i)))) 4 = S2 at *
      generalize str (fun i => f (k * B + i)) (blen n B k) = S1 at *
      generalize sum (blen n B k) (fun i => f (k * B + i)) = sm at *
      have HKB : Hid (k * B < n) := hkS
      generalize plen n B k = P at *
      generalize blen n B k = zz at *
      generalize k * B = kB at *
      rcases hzz with ⟨e1, e2⟩ | ⟨e1, e2⟩
      · have hif : ((n : Int) < (kB : Int) + (B : Int)) = False := by simp; omega
        have sA0a : ∀ w', Sem.run Tryd.prog (Instr.slice 24 (.slice a n c) (some (.int .i64 (kB : Int))) (some (.int .i64 ((kB : Int) + (B : Int)))) none) w' = .ok (.slice A0 zz (c - kB)) w' := fun w' => by
          rw [← sA0 w', e2]
        clear e1 e2 sA0
        have uP : P ≤ 9000 := by omega
        have jP : (P : Int) ≤ 9000 := by omega
        have jz : (zz : Int) ≤ 300 := by omega
        have jPz : (P : Int) + (zz : Int) ≤ 10000 := by omega
        have jPz4 : (P : Int) + (zz : Int) + 4 ≤ 10004 := by omega
        have wz1 : IntKind.i64.wrap ((P : Int) + (zz : Int)) = (P : Int) + (zz : Int) := by rw [IntKind.wrap_i64]; omega
        have wz2 : IntKind.i64.wrap ((P : Int) + (zz : Int) + 4) = (P : Int) + (zz : Int) + 4 := by rw [IntKind.wrap_i64]; omega
        go_upto_region 15 with fail
        go_cut [98] (fun s wx => s = .bool false ∧ Below w4.heap.size w4 wx)
        case first =>
          go_region_held (fun _ => True) (trivial)
            (first | (go_at_call 19; refine c19.mono ?_; rintro e w' ⟨rfl, rfl⟩) | (go_at_call 18; refine K18.out.mono ?_; rintro e w5 ⟨v5, rfl, y1, y2, y3', y4, y5⟩))
          all_goals (go_wp2_with fail; go_meet; exact ⟨by simp, y5⟩)
        case rest =>
          obtain ⟨rfl, hb5⟩ := hcut
          clear K18 c19 d0 d1 d2 sA0a sA1 sA2'
          go_wp2
          go_round
          case rel => exact ⟨k + 1, hlt, by go_num, by have := HPN.out; rw [this]; go_num, hb5⟩
          case measure => simp [intOf]; omega
      · have hif : ((n : Int) < (kB : Int) + (B : Int)) = True := by simp; omega
        have sA0a : ∀ w', Sem.run Tryd.prog (Instr.slice 24 (.slice a n c) (some (.int .i64 (kB : Int))) (some (.int .i64 (n : Int))) none) w' = .ok (.slice A0 zz (c - kB)) w' := fun w' => by
          rw [← sA0 w', show (kB : Int) + (zz : Int) = (n : Int) by omega]
        clear e1 e2 sA0
        have uP : P ≤ 9000 := by omega
        have jP : (P : Int) ≤ 9000 := by omega
        have jz : (zz : Int) ≤ 300 := by omega
        have jPz : (P : Int) + (zz : Int) ≤ 10000 := by omega
        have jPz4 : (P : Int) + (zz : Int) + 4 ≤ 10004 := by omega
        have wz1 : IntKind.i64.wrap ((P : Int) + (zz : Int)) = (P : Int) + (zz : Int) := by rw [IntKind.wrap_i64]; omega
        have wz2 : IntKind.i64.wrap ((P : Int) + (zz : Int) + 4) = (P : Int) + (zz : Int) + 4 := by rw [IntKind.wrap_i64]; omega
        go_upto_region 15 with fail
        go_cut [98] (fun s wx => s = .bool false ∧ Below w4.heap.size w4 wx)
        case first =>
          go_region_held (fun _ => True) (trivial)
            (first | (go_at_call 19; refine c19.mono ?_; rintro e w' ⟨rfl, rfl⟩) | (go_at_call 18; refine K18.out.mono ?_; rintro e w5 ⟨v5, rfl, y1, y2, y3', y4, y5⟩))
          all_goals (go_wp2_with fail; go_meet; exact ⟨by simp, y5⟩)
        case rest =>
          obtain ⟨rfl, hb5⟩ := hcut
          clear K18 c19 d0 d1 d2 sA0a sA1 sA2'
          go_wp2
          go_round
          case rel => exact ⟨k + 1, hlt, by go_num, by have := HPN.out; rw [this]; go_num, hb5⟩
          case measure => simp [intOf]; omega
    · have hke : k = N := by omega
      subst hke
      have hPL : plen n B k = L := HW.out.symm
      rw [hPL]
      have R4 := HR4.out.keep hb
      obtain ⟨A1, sA1, rA1⟩ := cut_lh (c := cb) R4 20 4 (by omega) hncb
      obtain ⟨A2, sA2, rA2⟩ := cut_h (c := cb) R4 20 (by omega) hncb
      have sA1' : ∀ w', Sem.run Tryd.prog (Instr.slice 24 (.slice (some ⟨gb, 0, none⟩) L cb) (some (.int .i64 20)) (some (.int .i64 24)) none) w' = .ok (.slice A1 4 (cb - 20)) w' := sA1
      have sA2' : ∀ w', Sem.run Tryd.prog (Instr.slice 24 (.slice (some ⟨gb, 0, none⟩) L cb) none (some (.int .i64 20)) none) w' = .ok (.slice A2 20 cb) w' := sA2
      have hsE : sum 20 (file 2 1 1 B n 65537 f) = sum 20 (hd20 2 1 1 B n 65537) := more_congr fun i hi => file_head _ _ _ _ _ _ _ hi
      have ls : sum 20 (hd20 2 1 1 B n 65537) < 4294967296 := more_lt (by omega) (hd20_lt _ _ _ _ _ _)
      have v1 : ∀ X, Below wr.heap.size wr X → Sem.run Tryd.prog (convert 24 9 (.slice A1 4 (cb - 20))) X = .ok (.string (str (by4 (sum 20 (hd20 2 1 1 B n 65537))) 4)) X := fun X hX => by
        rw [conv_row (rA1.keep hX) (fun e => absurd e (row_some rA1 (by omega))), str_congr (g := by4 (sum 20 (hd20 2 1 1 B n 65537))) (fun i hi => file_hsum _ _ _ _ _ _ _ hi)]
      have bD : Below wr.heap.size wr wr.drew := (Below.refl _ _).drew
      have c19 := rsum_any A2 20 cb _ wr.drew (rA2.keep bD) (by unfold maxLen; omega)
      rw [hsE] at c19
      have K18 : Hid (Calls Tryd.prog 18 #[.int .u32 ((sum 20 (hd20 2 1 1 B n 65537) : Nat) : Int)] wr.drew fun e w' => ∃ v, e = .returned v ∧ Sem.run Tryd.prog (convert 24 9 v) w' = .ok (.string (str (by4 (sum 20 (hd20 2 1 1 B n 65537))) 4)) w' ∧
          Sem.run Tryd.prog (convert 24 9 (.slice A1 4 (cb - 20))) w' = .ok (.string (str (by4 (sum 20 (hd20 2 1 1 B n 65537))) 4)) w' ∧ Below w4.heap.size w4 w') := by
        refine (rbytes_any _ wr.drew ls).mono ?_
        rintro e w5 ⟨v, rfl, ho, b5⟩
        obtain ⟨g5, c5, rfl, _, _, _, r5⟩ := ho.row (by omega) (by4_lt _)
        have b5' : Below wr.heap.size wr w5 := hop bD b5
        exact ⟨_, rfl, conv_row r5 (fun e => by cases e), v1 w5 b5', hop hb b5'⟩
      have d1 := v1 wr.drew bD
      have gk : decide ((k : Int) < (k : Int)) = false := by simp
      have gL : ((L : Int) == (L : Int)) = true := by simp
      clear v1 bD rA1 rA2 sA1 sA2 R4 hsE hPL HW hplL hlt y3
      generalize str (by4 (sum 20 (hd20 2 1 1 B n 65537))) 4 = S2 at *
      generalize sum 20 (hd20 2 1 1 B n 65537) = sm at *
      go_wp2_with fail
      go_region_held (fun _ => True) (trivial)
        (first | (go_at_call 19; refine c19.mono ?_; rintro e w' ⟨rfl, rfl⟩) | (go_at_call 18; refine K18.out.mono ?_; rintro e w5 ⟨v5, rfl, y1, y2, y5⟩))
      all_goals
        go_wp2
        go_ret
        exact ⟨by simp, hop HB1.out (hop HB4.out y5)⟩


set_option maxRecDepth 100000 in
theorem lifted (os : Os) (started : os.Started) (H : Type) (enc : TypeId × Value → H) :
    ReturnsInHanded {} Tryd.checked os 6 .any (fun w args => (Rows.shardBlocksSpec.pre enc Tryd.prog Tryd.f6 [] false w args ∧ laidMetH Tryd.prog laidAll w) ∧ sizedMet enc Tryd.prog Tryd.f6 (OpenSpec.ofChange Rows.shardBlocksSpec) false w args) (Rows.shardBlocksSpec.post enc Tryd.prog Tryd.f6 false true false false) := by
  refine returnsInHanded_of_change_and (C := Tryd.checked) (X := fun w _ => laidMetH Tryd.prog laidAll w) (fun _ _ _ hh h => h.of_heap hh) own started (by kernel_rfl) Tryd.func6
    (ChangeSpec.witness_shaped (enc := enc) (C := Tryd.checked) (os := os) (X := fun w _ => laidMetH Tryd.prog laidAll w) false (World.doorLaid Tryd.prog 400 os) #[.slice none 0 0, .int .u8 0] 8 rfl (World.shaped_of_RefB (by kernel_rfl) (by kernel_rfl)) (by kernel_rfl) (by kernel_rfl) (by kernel_rfl) (door_met os _)) ?_
  intro W base args ds gs before hval0 hW _ hsz0 hL _
  have hval : ∀ (j : Nat) t v, Tryd.f6.params[j]? = some t → args[j]? = some v → Value.okWide Tryd.prog W .any base t v := hval0
  have hW' := hW
  obtain ⟨p, q, hA0, hV, rfl, hfz, hnd⟩ := hW
  have hA : DataW.TrodAll enc Tryd.prog W 0 (fun _ => true) true Tryd.f6.params.toList args.toList ds p := hA0
  rw [Tryd.params6] at hA hval
  have T := halfT_of hL
  obtain ⟨v0, vs0, d0, ds0, p0, q0, hargs, rfl, rfl, h0, r0⟩ := trodAll_cons hA
  obtain ⟨v1, vs1, d1, ds1, p1, q1, rfl, rfl, rfl, h1, r1⟩ := trodAll_cons r0
  obtain ⟨rfl, rfl, rfl⟩ := trodAll_nil r1
  obtain rfl : args = #[v0, v1] := by cases args; simp_all
  obtain ⟨rfl, rfl⟩ := trodVars_none hV
  obtain ⟨a0, len0, cap0, rfl⟩ := okWide_slice Tryd.underlying24 (hval 0 24 v0 rfl rfl)
  have k0 := h0
  have lt0 : ∀ x ∈ p0, x.block < W.heap.size := by obtain ⟨m, hm⟩ := k0; exact DataW.trod_lt m _ _ _ hm
  obtain ⟨f0, m0, z0, e0, c0⟩ := open_row h0
  have k1 := h1
  have lt1 : ∀ x ∈ p1, x.block < W.heap.size := by obtain ⟨m, hm⟩ := k1; exact DataW.trod_lt m _ _ _ hm
  obtain ⟨x1, e1, rfl⟩ := open_u8 (hval 1 5 v1 rfl rfl) h1
  clear hA0 hval0 hsz0 hL
  refine (core a0 len0 cap0 f0 x1 W T m0 z0 e0 c0 e1).mono fun e W' ⟨he, bel⟩ => ?_
  subst he
  exact ⟨_, rfl, _, _, _, [], _, [], hW', trodAll_mk1 (shut_bool Tryd.underlying4 _), (trodAll_cons_mk (Below.trod laidOut (by kernel_rfl) (of_decide_eq_true (by kernel_rfl)) k0 bel lt0) (trodAll_cons_mk (Below.trod laidOut (by kernel_rfl) (of_decide_eq_true (by kernel_rfl)) k1 bel lt1) trodAll_mk0)), rfl, bel.frame _, fun h => by cases h⟩

theorem over : Rows.shardBlocksRow.holds Tryd.pinned (OpenSpec.ofChange Rows.shardBlocksSpec) :=
  OpenClaim.holds_of_wide 6 Tryd.f6 rfl rfl rfl rfl rfl rfl rfl ⟨rfl, rfl, rfl, rfl, rfl⟩ rfl rfl rfl rfl rfl (by kernel_rfl) Tryd.func6 (by kernel_rfl)
    (of_decide_eq_true (by kernel_rfl)) (by unfold Func.isWrapper; first | (rw [if_pos (by decide +kernel)]; kernel_rfl) | (rw [if_neg (by decide +kernel)]; exact ⟨rfl, rfl⟩))
    (fun os started H enc _ => lifted os started H enc)

end shardBlocks

/-- The statement. -/
theorem shardBlocks_holds : Rows.ShardBlocksCardSaid :=
  Claim7.holds_tied_plain_at .later [] [.data] true (true, "9b2e8d71bbdfd75aae88c0846095cf4bcf21937ec3a365648ee7d2fc33c80607") false
    shardBlocks.over (fun _ h => by cases h) (by kernel_rfl) (fun _ h => by cases h) shardBlocks_row_tie rfl ⟨rfl, rfl⟩ (by kernel_rfl) rfl
    (fun f fn hf hfn => by
      obtain rfl : f = 6 := Option.some.inj ((show Tryd.prog.funcNamed "strongbox/strongboxlaw5.ShardBlocks" = some 6 by kernel_rfl).symm.trans hf) |>.symm
      obtain rfl : fn = Tryd.f6 := (Option.some.inj (Tryd.func6.symm.trans hfn)).symm
      exact ⟨by kernel_rfl, fun j t ht => by
        rw [Tryd.params6] at ht
        have hm : t ∈ [24, 5] := by simpa using Array.mem_of_getElem? ht
        have hall : ([24, 5].all fun u => !Tryd.prog.wantsStandIn u) = true := by kernel_rfl
        exact (show Tryd.prog.wantsStandIn t = false by simpa using List.all_eq_true.1 hall t hm)⟩)
    (by kernel_rfl)
#print axioms shardBlocks_holds
end Go.Proofs.YtjbdncgmpccedaaDoor
