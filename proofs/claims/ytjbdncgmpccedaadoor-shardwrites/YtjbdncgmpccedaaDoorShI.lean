/-
  What shard.readHead answers.
-/
import Derived.Test.YtjbdncgmpccedaaDoorShG
import Derived.Deep.DeepCutAuto
namespace Go.Proofs.YtjbdncgmpccedaaDoor
open Go.RowKit Crc
attribute [local go_sem ↓] Go.wp_at_zero Go.wp_at_succ
set_option linter.unusedVariables false

theorem below6 {w W : World} (h : Below w.heap.size w W) (v0 v1 v2 v3 v4 v5 : Value) : Below w.heap.size w ((((((W.setCell ⟨w.heap.size, 0, none⟩ v0).setCell ⟨w.heap.size, 1, none⟩ v1).setCell ⟨w.heap.size, 2, none⟩ v2).setCell ⟨w.heap.size, 3, none⟩ v3).setCell ⟨w.heap.size, 4, none⟩ v4).setCell ⟨w.heap.size, 5, none⟩ v5) :=
  (((((h.setCell (p := ⟨_, 0, none⟩) (Nat.le_refl _) _).setCell (p := ⟨_, 1, none⟩) (Nat.le_refl _) _).setCell (p := ⟨_, 2, none⟩) (Nat.le_refl _) _).setCell (p := ⟨_, 3, none⟩) (Nat.le_refl _) _).setCell (p := ⟨_, 4, none⟩) (Nat.le_refl _) _).setCell (p := ⟨_, 5, none⟩) (Nat.le_refl _) _
theorem drewN_drewN (w : World) (a b : Nat) : (w.drewN a).drewN b = w.drewN (a + b) := by simp
def nohd : Value := hv 0 0 0 0 0 0
set_option maxRecDepth 100000 in
theorem readHead_short (a : Option Addr) (n c : Nat) (w : World) (hn : n < 24) :
    Calls Tryd.prog 33 #[.slice a n c] w fun e w' => e = .returned (.tuple #[nohd, .int .i64 0, .int .i64 2]) ∧ Below w.heap.size w w' := by
  have g1 : (n : Int) < 24 := by omega
  go_enter Tryd.func33, Tryd.ntmps33
  go_wp2
  exact bodyPost_ret (v := .tuple #[nohd, .int .i64 0, .int .i64 2]) (by simp [results, Tryd.results33, go_sem, nohd, hv]) rfl ⟨rfl, bal _ _⟩

theorem str_sbx (G : Nat → Nat) (h : ∀ i, i < 4 → G i = sbx i) : str G 4 = { data := #[83, 66, 88, 49] } := by
  rw [str_congr h]; rfl

/-- A head that is refused. -/
def HdBad (w : World) (e : Ending) (w' : World) : Prop := ∃ (x y : Int), (y = 4 ∨ y = 5) ∧ e = .returned (.tuple #[nohd, .int .i64 x, .int .i64 y]) ∧ Below w.heap.size w w'
set_option maxRecDepth 100000 in
set_option maxHeartbeats 1000000 in
theorem readHead_bad (a : Option Addr) (n c : Nat) (G : Nat → Nat) (w : World) (T : HalfT w) (h : Row w a n G) (hn : 24 ≤ n) (hc : n ≤ c) (hm : n ≤ maxLen) (hx : le4 (fun i => G (20 + i)) ≠ sum 20 G) :
    Calls Tryd.prog 33 #[.slice a n c] w (HdBad w) := by
  unfold maxLen at hm
  have g1 : ¬ ((n : Int) < 24) := by omega
  obtain ⟨W, hbx⟩ : ∃ W, w.alloc (.cells #[.int .i64 0, .int .i64 0, .int .i64 0, .int .i64 0, .int .i64 0, .int .i64 0] 29) = W := ⟨_, rfl⟩
  have hb : Below w.heap.size w W := by rw [← hbx]; exact bal _ _
  have hd : HdB W w.heap.size 0 0 0 0 0 0 29 := by rw [← hbx]; exact heap_alloc_new _ _
  have hR := h.keep hb
  obtain ⟨A1, s1, r1⟩ := cut_h (c := c) hR 4 (by omega) hc
  have cv := conv_row (c := c) r1 (fun e => absurd e (row_some r1 (by omega)))
  obtain ⟨A2, s2, r2⟩ := cut_h (c := c) hR 20 (by omega) hc
  obtain ⟨A3, s3, r3⟩ := cut_lh (c := c) hR 20 4 (by omega) hc
  have cF : ∀ k, Calls Tryd.prog 34 #[.slice A2 20 c, .slice A3 4 (c - 20)] (W.drewN k) fun e w' => e = .returned (.bool false) ∧ ∃ j, w' = W.drewN j := fun k => by
    have bk := bdn W k
    refine (fits_q A2 A3 20 c (c - 20) G _ (W.drewN k) (T.keep (hop hb bk)) (r2.keep bk) (r3.keep bk) (by unfold maxLen; omega)).mono ?_
    rintro e w' ⟨rfl, j, rfl⟩
    rw [decide_eq_false hx]
    exact ⟨rfl, k + j, by simp⟩
  have s1' : ∀ w', Sem.run Tryd.prog (Instr.slice 24 (.slice a n c) none (some (.int .i64 4)) none) w' = .ok (.slice A1 4 c) w' := s1
  have s2' : ∀ w', Sem.run Tryd.prog (Instr.slice 24 (.slice a n c) none (some (.int .i64 20)) none) w' = .ok (.slice A2 20 c) w' := s2
  have s3' : ∀ w', Sem.run Tryd.prog (Instr.slice 24 (.slice a n c) (some (.int .i64 20)) (some (.int .i64 24)) none) w' = .ok (.slice A3 4 (c - 20)) w' := s3
  clear s1 s2 s3
  have g1' : decide ((n : Int) < 24) = false := decide_eq_false g1
  obtain ⟨c0, c1, c2, c3, c4, c5⟩ := hd.at
  have f0 : ∀ j, W.frozen? ⟨w.heap.size, j, none⟩ = false := fun j => frozen_of_row W w.heap.size j _ _ hd
  have HB : Hid (Below w.heap.size w W) := hb
  clear hb hd hR r1 r2 r3 h T hx
  by_cases hS : str G 4 = { data := #[83, 66, 88, 49] }
  · rw [hS] at cv
    clear hS
    go_enter Tryd.func33, Tryd.ntmps33
    go_wp2_with fail
    go_quiet ((go_at_call 34; refine (cF _).mono ?_; rintro e w9 ⟨rfl, j, rfl⟩; exact ⟨rfl, _, rfl⟩))
    go_wp2
    exact bodyPost_ret (v := .tuple #[nohd, .int .i64 (-1), .int .i64 5]) (by simp [results, Tryd.results33, go_sem, nohd, hv, *]) rfl ⟨_, _, .inr rfl, rfl, below6 (hop HB.out (bdn _ _)) _ _ _ _ _ _⟩
  · have hne : ((str G 4).toList == [83, 66, 88, 49]) = false := by
      rw [ByteArray.toList_eq, beq_eq_false_iff_ne]
      intro e
      exact hS (ByteArray.ext (Array.toList_inj.1 (by simpa using e)))
    clear hS
    generalize str G 4 = S at *
    go_enter Tryd.func33, Tryd.ntmps33
    go_wp2_with fail
    exact bodyPost_ret (v := .tuple #[nohd, .int .i64 0, .int .i64 4]) (by simp [results, Tryd.results33, go_sem, nohd, hv, *]) rfl ⟨_, _, .inl rfl, rfl, below6 HB.out _ _ _ _ _ _⟩

theorem file_head (K M I B S D : Nat) (f : Nat → Nat) {i : Nat} (h : i < 20) : file K M I B S D f i = hd20 K M I B S D i := by unfold file; rw [if_pos h]
theorem file_hsum (K M I B S D : Nat) (f : Nat → Nat) {i : Nat} (h : i < 4) : file K M I B S D f (20 + i) = by4 (sum 20 (hd20 K M I B S D)) i := by
  unfold file; rw [if_neg (by omega), if_pos (by omega), Nat.add_sub_cancel_left]
theorem hd20_n (K M I B S D : Nat) {i : Nat} (h : i < 4) : hd20 K M I B S D (8 + i) = by4 B i ∧ hd20 K M I B S D (12 + i) = by4 S i ∧ hd20 K M I B S D (16 + i) = by4 D i := by
  refine ⟨?_, ?_, ?_⟩
  · unfold hd20; rw [if_neg (by omega), if_neg (by omega), if_pos (by omega), Nat.add_sub_cancel_left]
  · unfold hd20; rw [if_neg (by omega), if_neg (by omega), if_neg (by omega), if_pos (by omega), Nat.add_sub_cancel_left]
  · unfold hd20; rw [if_neg (by omega), if_neg (by omega), if_neg (by omega), if_neg (by omega), if_pos (by omega), Nat.add_sub_cancel_left]
theorem le4_congr {g h : Nat → Nat} (e : ∀ i, i < 4 → g i = h i) : le4 g = le4 h := by
  unfold le4; rw [e 0 (by omega), e 1 (by omega), e 2 (by omega), e 3 (by omega)]

theorem cell_dn (w : World) (n : Nat) (cs : Array Value) (t : TypeId) (i : Nat) : ((w.drewN n).alloc (.cells cs t)).cell? ⟨w.heap.size, i, none⟩ = cs[i]? := World.cell?_alloc_new (w.drewN n) cs t i
theorem frozen_dn (w : World) (n : Nat) (cs : Array Value) (t : TypeId) (i : Nat) : ((w.drewN n).alloc (.cells cs t)).frozen? ⟨w.heap.size, i, none⟩ = false := World.frozen?_alloc_new (w.drewN n) cs t i
theorem hdB_put6 {X : World} {q : Nat} {a b c d e f : Int} (h : HdB X q a b c d e f 29) (k m i bb s dd : Int) :
    HdB ((((((X.setCell ⟨q, 0, none⟩ (.int .i64 k)).setCell ⟨q, 1, none⟩ (.int .i64 m)).setCell ⟨q, 2, none⟩ (.int .i64 i)).setCell ⟨q, 3, none⟩ (.int .i64 bb)).setCell ⟨q, 4, none⟩ (.int .i64 s)).setCell ⟨q, 5, none⟩ (.int .i64 dd)) q k m i bb s dd 29 :=
  heap_setCell_same _ _ _ _ _ _ (heap_setCell_same _ _ _ _ _ _ (heap_setCell_same _ _ _ _ _ _ (heap_setCell_same _ _ _ _ _ _ (heap_setCell_same _ _ _ _ _ _ (heap_setCell_same _ _ _ _ _ _ h)))))
theorem wrap_n {k : Nat} (h : k < 256) : IntKind.i64.wrap (k : Int) = (k : Int) := by rw [IntKind.wrap_i64]; omega
attribute [local go_sem] cell_dn frozen_dn
set_option maxRecDepth 100000 in
set_option maxHeartbeats 2000000 in
theorem readHead_good (a : Option Addr) (n c : Nat) (G : Nat → Nat) (w : World) (K M I B S D : Nat) (f : Nat → Nat) (T : HalfT w) (h : Row w a n G) (hn : 24 ≤ n) (hc : n ≤ c) (hm : n ≤ maxLen) (hN : MayN K M I B S D) (hG : ∀ i, i < 24 → G i = file K M I B S D f i) :
    Calls Tryd.prog 33 #[.slice a n c] w fun e w' => e = .returned (.tuple #[hv K M I B S D, .int .i64 0, .int .i64 0]) ∧ Below w.heap.size w w' := by
  unfold maxLen at hm
  have g1 : ¬ ((n : Int) < 24) := by omega
  obtain ⟨W, hbx⟩ : ∃ W, w.alloc (.cells #[.int .i64 0, .int .i64 0, .int .i64 0, .int .i64 0, .int .i64 0, .int .i64 0] 29) = W := ⟨_, rfl⟩
  have hb : Below w.heap.size w W := by rw [← hbx]; exact bal _ _
  have hd : HdB W w.heap.size 0 0 0 0 0 0 29 := by rw [← hbx]; exact heap_alloc_new _ _
  have hR := h.keep hb
  obtain ⟨A1, s1, r1⟩ := cut_h (c := c) hR 4 (by omega) hc
  have cv := conv_row (c := c) r1 (fun e => absurd e (row_some r1 (by omega)))
  rw [str_sbx G (fun i hi => by rw [hG i (by omega), file_head _ _ _ _ _ _ _ (by omega)]; unfold hd20 sbx; rw [if_pos hi])] at cv
  obtain ⟨A2, s2, r2⟩ := cut_h (c := c) hR 20 (by omega) hc
  obtain ⟨A3, s3, r3⟩ := cut_lh (c := c) hR 20 4 (by omega) hc
  have hx : le4 (fun i => G (20 + i)) = sum 20 G := by
    have e1 : sum 20 G = sum 20 (hd20 K M I B S D) := more_congr fun i hi => by rw [hG i (by omega), file_head _ _ _ _ _ _ _ hi]
    rw [e1, le4_congr (h := by4 (sum 20 (hd20 K M I B S D))) (fun i hi => by rw [hG _ (by omega), file_hsum _ _ _ _ _ _ _ hi]), le4_by4 (s := sum 20 (hd20 K M I B S D)) (more_lt (by omega) (hd20_lt _ _ _ _ _ _))]
  have cF : ∀ k, Calls Tryd.prog 34 #[.slice A2 20 c, .slice A3 4 (c - 20)] (W.drewN k) fun e w' => e = .returned (.bool true) ∧ ∃ j, w' = W.drewN j := fun k => by
    have bk := bdn W k
    refine (fits_q A2 A3 20 c (c - 20) G _ (W.drewN k) (T.keep (hop hb bk)) (r2.keep bk) (r3.keep bk) (by unfold maxLen; omega)).mono ?_
    rintro e w' ⟨rfl, j, rfl⟩
    rw [decide_eq_true hx]
    exact ⟨rfl, k + j, by simp⟩
  obtain ⟨A4, s4, r4⟩ := cut_lh (c := c) hR 8 4 (by omega) hc
  obtain ⟨A5, s5, r5⟩ := cut_lh (c := c) hR 12 4 (by omega) hc
  obtain ⟨A6, s6, r6⟩ := cut_lh (c := c) hR 16 4 (by omega) hc
  have num : ∀ (A : Option Addr) (cc off x : Nat), Row W A 4 (fun i => G (off + i)) → (∀ i, i < 4 → G (off + i) = by4 x i) → x < 4294967296 → ∀ w', Below W.heap.size W w' → Calls Tryd.prog 35 #[.slice A 4 cc] w' fun e w'' => e = .returned (.int .i64 (x : Int)) ∧ ∃ j, w'' = w'.drewN j := fun A cc off x r e hx w' hb' => by
    refine (readNum_q A cc _ w' (r.keep hb')).mono ?_
    rintro e' w'' ⟨rfl, j, rfl⟩
    rw [le4_congr e, le4_by4 hx]
    exact ⟨rfl, j, rfl⟩
  have n4 := num A4 (c - 8) 8 B r4 (fun i hi => by rw [hG _ (by omega), file_head _ _ _ _ _ _ _ (by omega), (hd20_n K M I B S D hi).1]) (by have := hN.b2; omega)
  have n5 := num A5 (c - 12) 12 S r5 (fun i hi => by rw [hG _ (by omega), file_head _ _ _ _ _ _ _ (by omega), (hd20_n K M I B S D hi).2.1]) (by have := hN.s; omega)
  have n6 := num A6 (c - 16) 16 D r6 (fun i hi => by rw [hG _ (by omega), file_head _ _ _ _ _ _ _ (by omega), (hd20_n K M I B S D hi).2.2]) (by have := hN.d; omega)
  have s1' : ∀ w', Sem.run Tryd.prog (Instr.slice 24 (.slice a n c) none (some (.int .i64 4)) none) w' = .ok (.slice A1 4 c) w' := s1
  have s2' : ∀ w', Sem.run Tryd.prog (Instr.slice 24 (.slice a n c) none (some (.int .i64 20)) none) w' = .ok (.slice A2 20 c) w' := s2
  have s3' : ∀ w', Sem.run Tryd.prog (Instr.slice 24 (.slice a n c) (some (.int .i64 20)) (some (.int .i64 24)) none) w' = .ok (.slice A3 4 (c - 20)) w' := s3
  have s4' : ∀ w', Sem.run Tryd.prog (Instr.slice 24 (.slice a n c) (some (.int .i64 8)) (some (.int .i64 12)) none) w' = .ok (.slice A4 4 (c - 8)) w' := s4
  have s5' : ∀ w', Sem.run Tryd.prog (Instr.slice 24 (.slice a n c) (some (.int .i64 12)) (some (.int .i64 16)) none) w' = .ok (.slice A5 4 (c - 12)) w' := s5
  have s6' : ∀ w', Sem.run Tryd.prog (Instr.slice 24 (.slice a n c) (some (.int .i64 16)) (some (.int .i64 20)) none) w' = .ok (.slice A6 4 (c - 16)) w' := s6
  obtain ⟨b, o, rfl, hcl⟩ := hR.lies (by omega)
  have b4 : W.cell? ⟨b, o + 4, none⟩ = some (.int .u8 (K : Int)) := by
    rw [hcl 4 (by omega), hG 4 (by omega), file_head _ _ _ _ _ _ _ (by omega)]
    show some (Value.int .u8 ((K % 256 : Nat) : Int)) = _
    rw [Nat.mod_eq_of_lt (by have := hN.km; omega)]
  have b5 : W.cell? ⟨b, o + 5, none⟩ = some (.int .u8 (M : Int)) := by
    rw [hcl 5 (by omega), hG 5 (by omega), file_head _ _ _ _ _ _ _ (by omega)]
    show some (Value.int .u8 ((M % 256 : Nat) : Int)) = _
    rw [Nat.mod_eq_of_lt (by have := hN.km; omega)]
  have b6 : W.cell? ⟨b, o + 6, none⟩ = some (.int .u8 (I : Int)) := by
    rw [hcl 6 (by omega), hG 6 (by omega), file_head _ _ _ _ _ _ _ (by omega)]
    show some (Value.int .u8 ((I % 256 : Nat) : Int)) = _
    rw [Nat.mod_eq_of_lt (by have := hN.km; have := hN.i; omega)]
  have b7 : W.cell? ⟨b, o + 7, none⟩ = some (.int .u8 0) := by
    rw [hcl 7 (by omega), hG 7 (by omega), file_head _ _ _ _ _ _ _ (by omega)]
    rfl
  have hbl : b < W.heap.size := block_lt_of_cell b4
  have ne4 := World.new_ne W _ b4
  have ne5 := World.new_ne W _ b5
  have ne6 := World.new_ne W _ b6
  have ne7 : b ≠ W.heap.size := by omega
  clear s1 s2 s3 s4 s5 s6 num
  have g1' : decide ((n : Int) < 24) = false := decide_eq_false g1
  have HD : Hid (HdB W w.heap.size 0 0 0 0 0 0 29) := hd
  have HB : Hid (Below w.heap.size w W) := hb
  have HM : Hid (MayN K M I B S D) := hN
  have i7 : (7 : Int) < (n : Int) := by omega
  have i4 : (4 : Int) < (n : Int) := by omega
  have i5 : (5 : Int) < (n : Int) := by omega
  have i6 : (6 : Int) < (n : Int) := by omega
  have lK : K < 256 := by have := hN.km; omega
  have lM : M < 256 := by have := hN.km; omega
  have lI : I < 256 := by have := hN.km; have := hN.i; omega
  clear hb hd hR r1 r2 r3 r4 r5 r6 h T hx hN hG hcl g1
  go_enter Tryd.func33, Tryd.ntmps33
  go_wp2_with fail
  go_quiet ((go_at_call 34; refine (cF _).mono ?_; rintro e w9 ⟨rfl, j, rfl⟩; exact ⟨rfl, _, rfl⟩))
  go_upto_region 7 with fail
  go_cut [5] (fun q wx => q = .pointer (some ⟨W.heap.size, 0, none⟩) ∧ HdB wx W.heap.size K M I B S D 29 ∧ Below W.heap.size W wx)
  case first =>
    go_region_held3 (fun w' => w'.cell? ⟨b, o + 4, none⟩ = some (.int .u8 (K : Int)) ∧ w'.cell? ⟨b, o + 5, none⟩ = some (.int .u8 (M : Int)) ∧ w'.cell? ⟨b, o + 6, none⟩ = some (.int .u8 (I : Int))) (go_keep)
      (first | (go_at_call 35; with_reducible refine (n4 _ ?_).mono ?_; (repeat (first | with_reducible exact Below.refl _ _ | refine Below.drew ?_ | refine below_drewN ?_ _ | refine hop ?_ (bal _ _))); rintro e w' ⟨rfl, j4, rfl⟩) | (go_at_call 35; with_reducible refine (n5 _ ?_).mono ?_; (repeat (first | with_reducible exact Below.refl _ _ | refine Below.drew ?_ | refine below_drewN ?_ _ | refine hop ?_ (bal _ _))); rintro e w' ⟨rfl, j5, rfl⟩) | (go_at_call 35; with_reducible refine (n6 _ ?_).mono ?_; (repeat (first | with_reducible exact Below.refl _ _ | refine Below.drew ?_ | refine below_drewN ?_ _ | refine hop ?_ (bal _ _))); rintro e w' ⟨rfl, j6, rfl⟩))
    all_goals
      go_wp2_with fail
      go_meet
      rw [wrap_n lK, wrap_n lM, wrap_n lI]
      exact ⟨rfl, hdB_put6 (heap_alloc_new (W.drewN _) _) _ _ _ _ _ _, below6 (by (repeat (first | with_reducible exact Below.refl _ _ | refine Below.drew ?_ | refine below_drewN ?_ _ | refine hop ?_ (bal _ _)))) _ _ _ _ _ _⟩
  case rest =>
    obtain ⟨rfl, hd1, hb1⟩ := hcut
    have e7 : wc.cell? ⟨b, o + 7, none⟩ = some (.int .u8 0) := (hb1.cell (p := ⟨b, o + 7, none⟩) hbl).trans b7
    obtain ⟨x0, x1, x2, x3, x4, x5⟩ := hd1.at
    have hd0 : HdB wc w.heap.size 0 0 0 0 0 0 29 := (hb1.block w.heap.size (Array.getElem?_eq_some_iff.1 HD.out).1).trans HD.out
    have cM := may_yes K M I B S D wc HM.out.h
    have HD1 : Hid (HdB wc W.heap.size K M I B S D 29) := hd1
    have HD0 : Hid (HdB wc w.heap.size 0 0 0 0 0 0 29) := hd0
    have HB1 : Hid (Below W.heap.size W wc) := hb1
    clear hd1 hd0 hb1 n4 n5 n6 s1' s2' s3' s4' s5' s6' b4 b5 b6 b7 cv cF HD
    unfold hv at cM
    go_wp2_with fail
    go_at_call 11
    refine cM.mono ?_
    rintro e w8 ⟨rfl, b8⟩
    clear cM
    have hd8 : HdB w8 W.heap.size K M I B S D 29 := (b8.block _ (Array.getElem?_eq_some_iff.1 HD1.out).1).trans HD1.out
    have hd9 : HdB w8 w.heap.size 0 0 0 0 0 0 29 := (b8.block _ (Array.getElem?_eq_some_iff.1 HD0.out).1).trans HD0.out
    obtain ⟨y0, y1, y2, y3, y4, y5⟩ := hd8.at
    obtain ⟨z0, z1, z2, z3, z4, z5⟩ := hd9.at
    have f0 : ∀ j, w8.frozen? ⟨w.heap.size, j, none⟩ = false := fun j => frozen_of_row w8 w.heap.size j _ _ hd9
    have HB8 : Hid (Below w.heap.size w w8) := hop HB.out (hop HB1.out b8)
    clear b8 hd8 hd9 HD1 HD0 HB1 x0 x1 x2 x3 x4 x5 e7
    go_wp2_with fail
    exact bodyPost_ret (v := .tuple #[hv K M I B S D, .int .i64 0, .int .i64 0]) (by simp [results, Tryd.results33, go_sem, hv, *]) rfl ⟨rfl, below6 HB8.out _ _ _ _ _ _⟩
end Go.Proofs.YtjbdncgmpccedaaDoor
