/-
  A head that may not be: what the law ShardWrites of layer 5 answers.
-/
import Derived.Test.YtjbdncgmpccedaaDoorLaid4
import Derived.Test.YtjbdncgmpccedaaDoorShP
import Derived.Test.YtjbdncgmpccedaaDoorShS
import Derived.Test.YtjbdncgmpccedaaDoorOpn
namespace Go.Proofs.YtjbdncgmpccedaaDoor
open Go.ChangeShapes Go.WideShapes Go.ChangeAt Go.RowKit Crc
attribute [local go_sem ↓] Go.wp_at_zero Go.wp_at_succ
set_option linter.unusedVariables false
set_option maxRecDepth 100000 in
set_option maxHeartbeats 4000000 in
/-- A head that may not be. -/
theorem core_bad (K M I B S D : Int) (a : Option Addr) (n c : Nat) (f : Nat → Nat) (a' : Option Addr) (n' c' : Nat) (f' : Nat → Nat) (w : World) (T : HalfT w) (iK : I64 K) (iM : I64 M) (iS : I64 S) (h : Row w a n f) (hn : n ≤ 5000) (hc : n ≤ c) (h' : Row w a' n' f') (hn' : n' ≤ 50) (hM : ¬ MayH K M I B S D) :
    Calls Tryd.prog 3 #[hv K M I B S D, .slice a n c, .slice a' n' c'] w fun e w' => e = .returned (.bool true) ∧ Below w.heap.size w w' := by
  obtain ⟨W0, hbx, hd0, b0⟩ := box_head w 23 K M I B S D
  have hlt : w.heap.size < W0.heap.size := block_lt_of_cell hd0.c0
  have cA := awake_any W0 (T.keep b0)
  have HB0 : Hid (Below w.heap.size w W0) := b0
  have HD0 : Hid (HdAt W0 w.heap.size K M I B S D) := hd0
  have HR' : Hid (Row w a' n' f') := h'
  have HR : Hid (Row w a n f) := h
  have HMM : Hid (¬ MayH K M I B S D) := hM
  clear T h b0 hd0 h' hM
  unfold hv
  go_enter Tryd.func3, Tryd.ntmps3
  go_wp2_with fail
  go_at_call 7
  refine cA.mono ?_
  rintro e w1 ⟨rfl, b1⟩
  clear cA hbx
  have hd1 := HD0.out.keep b1
  have HB1 : Hid (Below w.heap.size w w1) := hop HB0.out b1
  have HD1 : Hid (HdAt w1 w.heap.size K M I B S D) := hd1
  obtain ⟨x0, x1, x2, x3, x4, x5⟩ := hd1
  have cH := head_any K M I B S D w1
  clear b1 HB0 HD0
  have g1 : decide ((5000 : Int) < (n : Int)) = false := decide_eq_false (by omega)
  have g2 : decide ((50 : Int) < (n' : Int)) = false := decide_eq_false (by omega)
  unfold hv at cH
  go_wp2_with fail
  go_at_call 9
  refine cH.mono ?_
  rintro e w2 ⟨rfl, b2⟩
  clear cH x0 x1 x2 x3 x4 x5
  have cW := write_no w2 K M I B S D (.slice a n c) HMM.out
  have HD2 : Hid (HdAt w2 w.heap.size K M I B S D) := HD1.out.keep b2
  have HB2 : Hid (Below w.heap.size w w2) := hop HB1.out b2
  clear b2 HD1 HB1
  unfold hv at cW
  go_wp2_with fail
  go_at_call 8
  refine cW.mono ?_
  rintro e w3 ⟨rfl, b3⟩
  clear cW
  have HD3 : Hid (HdAt w3 w.heap.size K M I B S D) := HD2.out.keep b3
  have HB3 : Hid (Below w.heap.size w w3) := hop HB2.out b3
  obtain ⟨x0, x1, x2, x3, x4, x5⟩ := HD3.out
  have cR := rwrite_no w3 K M I B S D (.slice a n c) iK iM HMM.out
  clear b3 HD2 HB2
  unfold hv at cR
  go_wp2_with fail
  go_at_call 10
  refine cR.mono ?_
  rintro e w4 ⟨rfl, b4⟩
  clear cR x0 x1 x2 x3 x4 x5
  have HD4 : Hid (HdAt w4 w.heap.size K M I B S D) := HD3.out.keep b4
  have HB4 : Hid (Below w.heap.size w w4) := hop HB3.out b4
  obtain ⟨x0, x1, x2, x3, x4, x5⟩ := HD4.out
  have cv : ∀ X, Sem.run Tryd.prog (convert 24 9 (.slice none 0 0)) X = .ok (.string (str (fun _ => 0) 0)) X := fun X => conv_row (Row.nil X none) (fun _ => rfl)
  have KH : ∀ X, HdAt X w.heap.size K M I B S D → Below w.heap.size w X → Calls Tryd.prog 9 #[.agg #[.int .i64 K, .int .i64 M, .int .i64 I, .int .i64 B, .int .i64 S, .int .i64 D]] X fun e X' => e = .returned (.agg #[.int .i64 K, .int .i64 M, .int .i64 I, .int .i64 B, .int .i64 S, .int .i64 D]) ∧ HdAt X' w.heap.size K M I B S D ∧ Below w.heap.size w X' := fun X hX bX => (head_any K M I B S D X).mono (by
    rintro e X' ⟨rfl, b⟩
    exact ⟨rfl, hX.keep b, hop bX b⟩)
  have KM : ∀ X, HdAt X w.heap.size K M I B S D → Below w.heap.size w X → Calls Tryd.prog 11 #[.agg #[.int .i64 K, .int .i64 M, .int .i64 I, .int .i64 B, .int .i64 S, .int .i64 D]] X fun e X' => e = .returned (.bool false) ∧ HdAt X' w.heap.size K M I B S D ∧ Below w.heap.size w X' := fun X hX bX => (may_no K M I B S D X HMM.out).mono (by
    rintro e X' ⟨rfl, b⟩
    exact ⟨rfl, hX.keep b, hop bX b⟩)
  have KR : ∀ X, HdAt X w.heap.size K M I B S D → Below w.heap.size w X → Calls Tryd.prog 12 #[.agg #[.int .i64 K, .int .i64 M, .int .i64 I, .int .i64 B, .int .i64 S, .int .i64 D]] X fun e X' => e = .returned (.bool false) ∧ HdAt X' w.heap.size K M I B S D ∧ Below w.heap.size w X' := fun X hX bX => (rmay_no K M I B S D X iK.1 iK.2 iM.1 iM.2 HMM.out).mono (by
    rintro e X' ⟨rfl, b⟩
    exact ⟨rfl, hX.keep b, hop bX b⟩)
  have K1 := KH w4.drew (HD4.out.keep (Below.refl _ _).drew) HB4.out.drew
  clear b4 HD3 HB3
  generalize str (fun _ => 0) 0 = SS at *
  go_upto_region 7 with fail
  go_cut [61] (fun s wx => s = .bool false ∧ HdAt wx w.heap.size K M I B S D ∧ Below w.heap.size w wx)
  case first =>
    go_region_held (fun X => X.cell? ⟨w.heap.size, 0, none⟩ = some (.int .i64 K) ∧ X.cell? ⟨w.heap.size, 1, none⟩ = some (.int .i64 M) ∧ X.cell? ⟨w.heap.size, 2, none⟩ = some (.int .i64 I) ∧ X.cell? ⟨w.heap.size, 3, none⟩ = some (.int .i64 B) ∧ X.cell? ⟨w.heap.size, 4, none⟩ = some (.int .i64 S) ∧ X.cell? ⟨w.heap.size, 5, none⟩ = some (.int .i64 D))
      (first | exact ⟨x0, x1, x2, x3, x4, x5⟩ | exact ⟨y1.c0, y1.c1, y1.c2, y1.c3, y1.c4, y1.c5⟩ | exact ⟨y3.c0, y3.c1, y3.c2, y3.c3, y3.c4, y3.c5⟩ | exact ⟨y5.c0, y5.c1, y5.c2, y5.c3, y5.c4, y5.c5⟩ | go_keep)
      (first | (go_at_call 9; refine K1.mono ?_; rintro e wa ⟨rfl, y1, y2⟩) | (go_at_call 11; refine (KM wa y1 y2).mono ?_; rintro e wb ⟨rfl, y3, y4⟩) | (go_at_call 12; refine (KR wb y3 y4).mono ?_; rintro e wd ⟨rfl, y5, y6⟩))
    all_goals (go_wp2_with fail; go_meet; exact ⟨by simp, y5, y6⟩)
  case rest =>
    obtain ⟨rfl, hd5, hb5⟩ := hcut
    have K1' := KH wc hd5 hb5
    obtain ⟨v0, v1, v2, v3, v4, v5⟩ := hd5
    clear K1 x0 x1 x2 x3 x4 x5 HD4 HB4 cv KM
    go_wp2_with fail
    go_at_call 9
    refine K1'.mono ?_
    rintro e w6 ⟨rfl, hd6, hb6⟩
    clear K1' hb5
    have cN := newW_bad w6 K M I B S D HMM.out
    have HD6 : Hid (HdAt w6 w.heap.size K M I B S D) := hd6
    have HB6 : Hid (Below w.heap.size w w6) := hb6
    clear hd6 hb6 v0 v1 v2 v3 v4 v5
    unfold hv at cN
    go_wp2_with fail
    go_at_call 13
    refine cN.mono ?_
    rintro e w7 ⟨p, rfl, hp, hdead, b7⟩
    clear cN
    have HD7 : Hid (HdAt w7 w.heap.size K M I B S D) := HD6.out.keep b7
    have HB7 : Hid (Below w.heap.size w w7) := hop HB6.out b7
    have HDD : Hid (Dead w7 p) := hdead
    clear b7 hdead HD6 HB6 hp
    go_wp2_with fail
    go_loopw [12, 13] (fun t i wr => t = .int .i64 0 ∧ i = .int .i64 0 ∧ wr = w7) (fun _ _ _ => 0)
    case atStart => exact ⟨rfl, rfl, rfl⟩
    case round =>
      obtain ⟨rfl, rfl, rfl⟩ := hrel
      have cR7 := KR wr HD7.out HB7.out
      by_cases hz : n' = 0
      · subst hz
        obtain ⟨A, sl, rA⟩ := cut_l (c := c) HR.out 0 (by omega) hc
        have sl' : ∀ w', Sem.run Tryd.prog (Instr.slice 24 (.slice a n c) (some (.int .i64 0)) none none) w' = .ok (.slice A n (c - 0)) w' := sl
        clear sl rA
        have cA := add_dead wr p (.slice A n (c - 0)) HDD.out
        have cE := end_dead wr p HDD.out
        obtain ⟨v0, v1, v2, v3, v4, v5⟩ := HD7.out
        go_wp2_with fail
        go_at_call 14
        refine cA.mono ?_
        rintro e w' ⟨rfl, rfl⟩
        go_wp2_with fail
        go_at_call 15
        refine cE.mono ?_
        rintro e w' ⟨rfl, rfl⟩
        go_wp2_with fail
        go_at_call 15
        refine cE.mono ?_
        rintro e w' ⟨rfl, rfl⟩
        go_wp2_with fail
        go_at_call 12
        refine cR7.mono ?_
        rintro e w8 ⟨rfl, hd8, hb8⟩
        go_wp2
        go_ret
        exact ⟨rfl, hb8⟩
      · obtain ⟨b', o', rfl, hcl⟩ := (HR'.out.keep HB7.out).lies (by omega)
        have c0 := hcl 0 (by omega)
        simp only [Nat.add_zero] at c0
        have lx := HR'.out.lt 0
        obtain ⟨x, hx⟩ : ∃ x, f' 0 = x := ⟨_, rfl⟩
        rw [hx] at c0 lx
        clear hcl hx
        obtain ⟨m, hm⟩ : ∃ m, m = min x n := ⟨_, rfl⟩
        obtain ⟨A, sl, rA⟩ := cut_lh (c := c) HR.out 0 m (by omega) hc
        have sl' : ∀ w', Sem.run Tryd.prog (Instr.slice 24 (.slice a n c) (some (.int .i64 0)) (some (.int .i64 (m : Int))) none) w' = .ok (.slice A m (c - 0)) w' := fun w' => by
          have := sl w'
          rw [show ((0 : Nat) : Int) + (m : Int) = (m : Int) by omega] at this
          exact this
        clear sl rA
        have cA := add_dead wr p (.slice A m (c - 0)) HDD.out
        obtain ⟨v0, v1, v2, v3, v4, v5⟩ := HD7.out
        have gz : (0 : Int) < (n' : Int) := by omega
        have hmm : (n < x ∧ m = n) ∨ (x ≤ n ∧ m = x) := by omega
        clear hm
        rcases hmm with ⟨e1, e2⟩ | ⟨e1, e2⟩
        all_goals
          subst e2
          go_wp2_with fail
          go_at_call 14
          refine cA.mono ?_
          rintro e w' ⟨rfl, rfl⟩
          go_wp2_with fail
          go_at_call 12
          refine cR7.mono ?_
          rintro e w8 ⟨rfl, hd8, hb8⟩
          go_wp2
          go_ret
          exact ⟨rfl, hb8⟩
end Go.Proofs.YtjbdncgmpccedaaDoor
