/-
  What the document's Decode answers: bytes that have a journal's form.
-/
import Derived.Test.YtigjhdcinaefbaaDoorJnYa
namespace Go.Proofs.YtigjhdcinaefbaaDoor
open Go.RowKit Crc
attribute [local go_sem ↓] Go.wp_at_zero Go.wp_at_succ
set_option linter.unusedVariables false

set_option maxRecDepth 100000 in
set_option maxHeartbeats 8000000 in
theorem rdecode_form (a : Option Addr) (n c : Nat) (f : Nat → Nat) (w : World) (h : Row w a n f) (hlo : 15 ≤ n) (hhi : n ≤ 262144) (hc : n ≤ c) (h3 : fit n f) (h4 : frm n f) :
    Calls Tryd.prog 17 #[.slice a n c] w (RDecEnd n f w) := by
  obtain ⟨W, hbx⟩ : ∃ W, w.alloc (.cells #[.int .i64 0, .string noS, .slice none 0 0] 24) = W := ⟨_, rfl⟩
  have hb : Below w.heap.size w W := by rw [← hbx]; exact bal _ _
  have hd : JB W w.heap.size 0 noS (.slice none 0 0) 24 := by rw [← hbx]; exact heap_alloc_new _ _
  obtain ⟨c0, c1, c2⟩ := hd.at
  have f0 : ∀ j, W.frozen? ⟨w.heap.size, j, none⟩ = false := hd.soft
  have HB : Hid (Below w.heap.size w W) := hb
  have HD : Hid (JB W w.heap.size 0 noS (.slice none 0 0) 24) := hd
  have hR := h.keep hb
  have hwl : w.heap.size < W.heap.size := block_lt_of_cell c0
  clear hb hd
  unfold noS at *
  have g1 : decide ((262144 : Int) < (n : Int)) = false := decide_eq_false (by omega)
  have g2 : decide ((n : Int) < 15) = false := decide_eq_false (by omega)
  have e1 : (n : Int) - 4 = ((n - 4 : Nat) : Int) := by omega
  obtain ⟨A2, s2, r2⟩ := cut_h (c := c) hR (n - 4) (by omega) hc
  obtain ⟨A1, s1, r1⟩ := cut_h (c := c) hR 4 (by omega) hc
  have s1' : ∀ w', Sem.run Tryd.prog (Instr.slice 27 (.slice a n c) none (some (.int .i64 4)) none) w' = .ok (.slice A1 4 c) w' := s1
  have cv : ∀ q, Sem.run Tryd.prog (convert 27 9 (.slice A1 4 c)) (W.drewN q) = .ok (.string (str f 4)) (W.drewN q) := fun q => conv_row (c := c) (r1.keep (bdn W q)) (fun e => absurd e (row_some r1 (by omega)))
  have cG : ∀ q, Calls Tryd.prog 42 #[.slice a n c, .int .i64 ((n - 4 : Nat) : Int), .int .i64 4] (W.drewN q) fun e w' => e = .returned (.int .i64 ((sum (n - 4) f : Nat) : Int)) ∧ w' = W.drewN q := fun q => by
    have := get_any a n c (n - 4) 4 f (W.drewN q) (hR.keep (bdn W q)) (by omega) (by omega) (by omega)
    rw [gvr_four, show le4 (fun i => f (n - 4 + i)) = sum (n - 4) f from h3] at this
    exact this.mono fun e w' ⟨h1, h2⟩ => ⟨h1, h2.symm⟩
  have cS : ∀ q, Calls Tryd.prog 36 #[.slice A2 (n - 4) c] (W.drewN q) fun e w' => e = .returned (.int .u32 ((sum (n - 4) f : Nat) : Int)) ∧ w' = W.drewN q := fun q =>
    (rsum_any A2 (n - 4) c f (W.drewN q) (r2.keep (bdn W q)) (by unfold maxLen; omega)).mono fun e w' ⟨h1, h2⟩ => ⟨h1, h2.symm⟩
  have cK : ∀ q, Calls Tryd.prog 42 #[.slice a n c, .int .i64 8, .int .i64 2] (W.drewN q) fun e w' => e = .returned (.int .i64 ((rk f : Nat) : Int)) ∧ W.drewN q = w' := fun q => by
    have := get_any a n c 8 2 f (W.drewN q) (hR.keep (bdn W q)) (by omega) (by omega) (by omega)
    rw [gvr_two] at this
    exact this
  have lx : sum (n - 4) f < 4294967296 := more_lt (by omega) h.lt
  have lx' : ((sum (n - 4) f : Nat) : Int) < 4294967296 := by omega
  have lk : rk f < 65536 := by have a := h.lt 8; have b := h.lt 9; unfold rk; omega
  obtain ⟨hm, hk, hcn⟩ := h4
  rw [str_sbj f hm] at cv
  obtain ⟨b, o, rfl, hA⟩ := hR.lies (by omega)
  have cv0 := hA (10 + rk f) (by omega)
  have lc := h.lt (10 + rk f)
  have HC : Hid (f (10 + rk f) = rc f) := rfl
  rw [HC.out] at cv0 lc
  have g3 : decide (((n - 4 : Nat) : Int) < 11 + ((rk f : Nat) : Int)) = false := decide_eq_false (by omega)
  have g4 : (10 : Int) + ((rk f : Nat) : Int) = ((10 + rk f : Nat) : Int) := by omega
  have g5 : ((10 + rk f : Nat) : Int) < (n : Int) := by omega
  have g6 : 10 + rk f < n := by omega
  have g7 : (((n - 4 : Nat) : Int) != 11 + ((rk f : Nat) : Int) + 13 * ((rc f : Nat) : Int)) = false := by
    rw [bne_eq_false_iff_eq]; omega
  obtain ⟨A5, s5, r5⟩ := cut_lh (c := c) hR 10 (rk f) (by omega) hc
  have s5' : ∀ w', Sem.run Tryd.prog (Instr.slice 27 (.slice (some ⟨b, o, none⟩) n c) (some (.int .i64 10)) (some (.int .i64 ((10 + rk f : Nat) : Int))) none) w' = .ok (.slice A5 (rk f) (c - 10)) w' := fun w' => by rw [← s5 w', ← g4]; rfl
  have HGood : Hid (mks f (11 + rk f) (rc f) = true → mayJ (rt f) (rk f) (rc f) (rF f) = true → JGood n f) := fun q1 q2 => ⟨hlo, hhi, h3, ⟨hm, hk, hcn⟩, q1, q2⟩
  have HBad1 : Hid (mks f (11 + rk f) (rc f) = false → JBad n f 4) := fun q => .inr (.inr (.inr (.inr (.inl ⟨rfl, hlo, hhi, h3, ⟨hm, hk, hcn⟩, q⟩))))
  have HBad2 : Hid (mks f (11 + rk f) (rc f) = true → mayJ (rt f) (rk f) (rc f) (rF f) = false → JBad n f 4) := fun q1 q2 => .inr (.inr (.inr (.inr (.inr ⟨rfl, hlo, hhi, h3, ⟨hm, hk, hcn⟩, q1, q2⟩))))
  have HFl : Hid (∀ i, f i < 256) := h.lt
  have HN4 : Hid (n - 4 = 11 + rk f + 13 * rc f) := by unfold Hid; omega
  have HRow : Hid (Row W (some ⟨b, o, none⟩) n f) := hR
  have R5 : Hid (Row W A5 (rk f) (fun i => f (10 + i))) := r5
  clear h hR r1 r2 h3 hm s1 hk hA HC hcn s5 r5
  obtain ⟨C, hC⟩ : ∃ C, rc f = C := ⟨_, rfl⟩
  obtain ⟨K, hK⟩ : ∃ K, rk f = K := ⟨_, rfl⟩
  have hEnd : Hid (∀ e w', Below w.heap.size w w' → JGood n f → (∃ v, e = .returned (.tuple #[v, .int .i64 0]) ∧ Jn w' v ((rt f : Nat) : Int) (str (fun i => f (10 + i)) K) C (rF f)) → RDecEnd n f w e w') := fun e w' h1 h2 h3 => ⟨h1, .inl ⟨h2, by rw [hK, hC]; exact h3⟩⟩
  have hEndB : Hid (∀ e w', Below w.heap.size w w' → JBad n f 4 → e = .returned (.tuple #[nojn, .int .i64 4]) → RDecEnd n f w e w') := fun e w' h1 h2 h3 => ⟨h1, .inr ⟨4, h2, h3⟩⟩
  have HKK : Hid (rk f = K) := hK
  rw [hC] at HGood HBad1 HBad2 HN4
  rw [hK] at HGood HBad1 HBad2 HN4 R5
  rw [hC] at cv0 lc g7
  rw [hK] at cv0 g3 g4 g5 g6 g7 lk s5'
  have cK' : ∀ q, Calls Tryd.prog 42 #[.slice (some ⟨b, o, none⟩) n c, .int .i64 8, .int .i64 2] (W.drewN q) fun e w' => e = .returned (.int .i64 (K : Int)) ∧ W.drewN q = w' := fun q => by rw [← hK]; exact cK q
  clear cK
  have cK := cK'
  clear cK' hC hK
  generalize sum (n - 4) f = y at *
  obtain ⟨N4, hN4⟩ : ∃ N4, n - 4 = N4 := ⟨_, rfl⟩
  have hn4 : N4 = 11 + K + 13 * C := by rw [← hN4]; exact HN4.out
  have hnn : n = N4 + 4 := by omega
  rw [hN4] at *
  have HNN : Hid (N4 = 11 + K + 13 * C ∧ n = N4 + 4) := ⟨hn4, hnn⟩
  clear hn4 hnn hN4 HN4
  obtain ⟨K3, hK3⟩ : ∃ K3, 10 + K = K3 := ⟨_, rfl⟩
  have HK3 : Hid (10 + K = K3) := hK3
  rw [hK3] at cv0 g4 g5 g6 s5'
  have wK3 : IntKind.i64.wrap ((K3 : Nat) : Int) = ((K3 : Nat) : Int) := wraps_i64' _ (by omega) (by omega)
  have lK3 : ((K3 : Nat) : Int) < 65546 := by omega
  clear hK3
  go_enter Tryd.func17, Tryd.ntmps17
  go_wp2_with fail
  go_quiet (first | (go_at_call 42; refine Calls.quiet_of_same (cG _)) | (go_at_call 36; refine Calls.quiet_of_same (cS _)))
  go_wp2_with fail
  go_at_call 42
  refine (cK _).mono ?_
  rintro e w' ⟨rfl, rfl⟩
  clear cG cS cK
  go_upto_region 11 with fail
  obtain ⟨Xw, hXw⟩ : ∃ Xw, W.drewN nq = Xw := ⟨_, rfl⟩
  have bXw : Below W.heap.size W Xw := by rw [← hXw]; exact bdn W nq
  rw [hXw]
  clear hXw cv
  have HDX : Hid (JB Xw w.heap.size 0 { data := #[] } (.slice none 0 0) 24) := HD.out.keep bXw
  have RX : Hid (Row Xw (some ⟨b, o, none⟩) n f) := HRow.out.keep bXw
  have HBX : Hid (Below w.heap.size w Xw) := hop HB.out bXw
  have R5X : Hid (Row Xw A5 K (fun i => f (10 + i))) := R5.out.keep bXw
  have hwX : w.heap.size < Xw.heap.size := Nat.lt_of_lt_of_le hwl bXw.size
  clear HD HRow HB R5 bXw f0 c0 c1 c2 hbx cv0
  have cN : Hid (∀ X, Below Xw.heap.size Xw X → Sem.run Tryd.prog (convert 27 9 (.slice A5 K (c - 10))) X = .ok (.string (str (fun i => f (10 + i)) K)) X) := fun X hX => conv_row (R5X.out.keep hX) (fun e => Nat.eq_zero_of_not_pos fun hp => row_some R5X.out hp e)
  have cT : Hid (∀ X, Below Xw.heap.size Xw X → Calls Tryd.prog 42 #[.slice (some ⟨b, o, none⟩) n c, .int .i64 4, .int .i64 4] X fun e w' => e = .returned (.int .i64 ((rt f : Nat) : Int)) ∧ X = w') := fun X hX => by
    have := get_any (some ⟨b, o, none⟩) n c 4 4 f X (RX.out.keep hX) (by omega) (by omega) (by omega)
    rw [gvr_four] at this
    exact this
  have ltT : rt f < 4294967296 := le4_lt (fun i => HFl.out _)
  obtain ⟨S, hS⟩ : ∃ S, str (fun i => f (10 + i)) K = S := ⟨_, rfl⟩
  have HSs : Hid (S.size = K) := by unfold Hid; rw [← hS]; exact str_size _ _
  rw [hS] at cN hEnd
  clear hS
  obtain ⟨TT, hTT⟩ : ∃ TT, rt f = TT := ⟨_, rfl⟩
  rw [hTT] at cT ltT hEnd HGood HBad2
  clear hTT
  have bD : Below Xw.heap.size Xw Xw.drew := (Below.refl _ _).drew
  have bE : Below Xw.heap.size Xw (Xw.alloc (.cells #[.int .i64 0, .string { data := #[] }, .slice none 0 0] 24)).drew := (bal _ _).drew
  have q1 := cN.out _ bD
  have q2 := cN.out _ bE
  have t1 := cT.out _ bD
  have t2 := cT.out _ bE
  go_cut [6] (fun p wx => p = .pointer (some ⟨Xw.heap.size, 0, none⟩) ∧ JB wx Xw.heap.size (TT : Int) S (.slice none 0 0) 24 ∧ Below Xw.heap.size Xw wx)
  case first =>
    go_region_held3 (fun X => Sem.run Tryd.prog (convert 27 9 (.slice A5 K (c - 10))) X = .ok (.string S) X)
      (first | with_reducible exact q1 | with_reducible exact q2 | exact cN.out _ (by (repeat (first | with_reducible exact Below.refl _ _ | refine Below.drew ?_ | refine hop ?_ (bal _ _) | refine Below.setCell ?_ (Nat.le_refl _) _))))
      (first
        | (go_at_call 42; with_reducible refine t1.mono ?_; rintro e wx ⟨rfl, rfl⟩)
        | (go_at_call 42; with_reducible refine t2.mono ?_; rintro e wx ⟨rfl, rfl⟩))
    all_goals
      go_wp2_with fail
      go_meet
      refine ⟨rfl, ?_, (bal _ _).drew⟩
      exact (heap_alloc_new _ _ : JB (Xw.alloc (.cells #[.int .i64 (TT : Int), .string S, .slice none 0 0] 24)) Xw.heap.size (TT : Int) S (.slice none 0 0) 24)
  case rest =>
    obtain ⟨rfl, hj0, hb0⟩ := hcut
    have HJ0 : Hid (JB wc Xw.heap.size (TT : Int) S (.slice none 0 0) 24) := hj0
    have HB0 : Hid (Below Xw.heap.size Xw wc) := hb0
    clear hj0 hb0 q1 q2 t1 t2 bD bE cN cT s5' wK3 lK3 g4 g5 g6 R5X s2 s1' HK3 g1 g2 g3 g7 e1 lx lx'
    go_wp2_with fail
    go_loopw [7] (fun i wr => ∃ (k p cc : Nat) (av : Option Addr) (G : Nat → Ver), k ≤ C ∧ p = 11 + K + 13 * k ∧ i = .int .i64 p ∧ JB wr Xw.heap.size (TT : Int) S (.slice av k cc) 24 ∧ VOwn wr Xw.heap.size (.slice av k cc) k G ∧ (∀ i, (G i).fits) ∧ (∀ i, i < k → G i = rF f i) ∧ mks f (11 + K) k = true ∧ Below Xw.heap.size Xw wr) (fun i _ => n - (intOf i).toNat)
    case atStart => exact ⟨0, 11 + K, 0, none, fun _ => zeroV, by omega, by omega, by go_num, HJ0.out, VOwn.start _ _ _, fun _ => zeroV_fits, fun i hi => absurd hi (by omega), rfl, HB0.out⟩
    case round =>
      obtain ⟨k, p, cc, av, G, hk, hp, rfl, hO, hV, hGf, hGe, hms, hB⟩ := hrel
      clear HJ0 HB0
      obtain ⟨hn4, hnn⟩ := HNN.out
      by_cases hlt : k < C
      · have ik : (p : Int) < ((n - 4 : Nat) : Int) := by omega
        have hRr := RX.out.keep hB
        obtain ⟨b1, o1, ea, hA⟩ := hRr.lies (by omega)
        cases ea
        have x4 := hA (p + 4) (by omega)
        have ly := HFl.out (p + 4)
        by_cases hm : f (p + 4) ≤ 1
        rotate_left
        · have HE : Hid (∀ e w', Below w.heap.size w w' → e = .returned (.tuple #[nojn, .int .i64 4]) → RDecEnd n f w e w') := fun e w' h1 h2 => hEndB.out e w' h1 (HBad1.out (mks_stop hlt (by rw [← hp]; omega))) h2
          have hr3 := HDX.out.keep hB
          obtain ⟨q0, q1, q2⟩ := hr3.at
          have fq : ∀ j, wr.frozen? ⟨w.heap.size, j, none⟩ = false := hr3.soft
          have HBr : Hid (Below w.heap.size w wr) := hop HBX.out hB
          obtain ⟨p4, hp4⟩ : ∃ p4, p + 4 = p4 := ⟨_, rfl⟩
          have k4 : (p : Int) + 4 = (p4 : Int) := by omega
          have k5 : (p4 : Int) < (n : Int) := by omega
          have k6 : p4 < n := by omega
          have k7 : IntKind.i64.wrap (p4 : Int) = (p4 : Int) := wraps_i64' _ (by omega) (by omega)
          rw [hp4] at x4 hm ly
          have gy : decide ((1 : Int) < ((f p4 : Nat) : Int)) = true := decide_eq_true (by omega)
          have gy' : (1 : Int) < ((f p4 : Nat) : Int) := by omega
          clear hA hRr hO hV hGf hGe hms hB hp hp4 hm hn4 hnn hr3
          generalize f p4 = y1 at *
          go_wp2_with fail
          exact bodyPost_ret (v := .tuple #[nojn, .int .i64 4]) (by simp [results, Tryd.results17, go_sem, nojn, jv, noS, *]) rfl (HE.out _ _ (below3 HBr.out (Nat.le_refl _) _ _ _) rfl)
        · have hms' : mks f (11 + K) (k + 1) = true := mks_succ hms (by rw [← hp]; exact hm)
          have hrF : rF f k = rv f p := by unfold rF; rw [HKK.out, ← hp]
          obtain ⟨v, hv⟩ : ∃ v, rv f p = v := ⟨_, rfl⟩
          have hvf : v.fits := by rw [← hv]; exact rv_fits HFl.out p
          have gA : ∀ X, Below wr.heap.size wr X → Calls Tryd.prog 42 #[.slice (some ⟨b, o, none⟩) n c, .int .i64 (p : Int), .int .i64 4] X fun e w' => e = .returned (.int .i64 v.id) ∧ X = w' := fun X hX => by
            have := get_any (some ⟨b, o, none⟩) n c p 4 f X (hRr.keep hX) (by omega) (by omega) (by omega)
            rw [gvr_four] at this
            rw [← hv]; exact this
          have gB : ∀ X, Below wr.heap.size wr X → Calls Tryd.prog 42 #[.slice (some ⟨b, o, none⟩) n c, .int .i64 ((p + 5 : Nat) : Int), .int .i64 4] X fun e w' => e = .returned (.int .i64 v.sz) ∧ X = w' := fun X hX => by
            have := get_any (some ⟨b, o, none⟩) n c (p + 5) 4 f X (hRr.keep hX) (by omega) (by omega) (by omega)
            rw [gvr_four] at this
            rw [← hv]; exact this
          have gC : ∀ X, Below wr.heap.size wr X → Calls Tryd.prog 42 #[.slice (some ⟨b, o, none⟩) n c, .int .i64 ((p + 9 : Nat) : Int), .int .i64 4] X fun e w' => e = .returned (.int .i64 ((v.sm : Nat) : Int)) ∧ X = w' := fun X hX => by
            have := get_any (some ⟨b, o, none⟩) n c (p + 9) 4 f X (hRr.keep hX) (by omega) (by omega) (by omega)
            rw [gvr_four] at this
            rw [← hv]; exact this
          have gm : (((f (p + 4) : Nat) : Int) == 1) = v.mr := by
            rw [← hv]; unfold rv; dsimp only
            by_cases q : f (p + 4) = 1
            · rw [q]; rfl
            · rw [decide_eq_false q, beq_eq_false_iff_ne]; omega
          have bR : Below wr.heap.size wr wr.drew := (Below.refl _ _).drew
          have a0 := gA _ (Below.refl _ _)
          have a1 := gA _ bR
          have b0 := gB _ (Below.refl _ _)
          have b1 := gB _ bR
          have d0 := gC _ (Below.refl _ _)
          have d1 := gC _ bR
          obtain ⟨E, hE⟩ : ∃ E, (wr.alloc (.cells #[.int .i64 v.id, .bool v.mr, .int .i64 v.sz, .int .u32 (v.sm : Int)] 46)).drew = E := ⟨_, rfl⟩
          have hE' : wr.drew.alloc (.cells #[.int .i64 v.id, .bool v.mr, .int .i64 v.sz, .int .u32 (v.sm : Int)] 46) = E := hE
          have bE : Below wr.heap.size wr E := by rw [← hE]; exact (bal _ _).drew
          have lE : Vs E (some ⟨wr.heap.size, 0, none⟩) 1 (fun _ => v) := by
            rw [← hE']; exact litV wr.drew v hvf
          obtain ⟨v', Y, hr, oY, gY, bY⟩ := appendV (c := 1) (hV.keep bE) lE (fun e => by cases e) (by omega) (Nat.le_trans hB.size bE.size)
          have hfit : ∀ i, (catV k G (fun _ => v) i).fits := fun i => by unfold catV; split; exact hGf _; exact hvf
          have hGe' : ∀ i, i < k + 1 → catV k G (fun _ => v) i = rF f i := fun i hi => by
            unfold catV
            by_cases h : i < k
            · rw [if_pos h]; exact hGe i h
            · rw [if_neg h, show i = k by omega, hrF, hv]
          obtain ⟨a', c', rfl, _, _, _, _⟩ := oY.vs hfit
          have hOY : JB Y Xw.heap.size (TT : Int) S (.slice av k cc) 24 := JB.grown (hV.keep bE) gY (by decide) (hO.keep bE)
          have oY' : VOwn (Y.setCell ⟨Xw.heap.size, 2, none⟩ (.slice a' (k + 1) c')) Xw.heap.size (.slice a' (k + 1) c') (k + 1) (catV k G (fun _ => v)) := oY.put fun cur hY => by
            have h := hOY
            unfold JB at h
            rw [h] at hY
            injection hY with hY
            injection hY with _ hY _
            cases hY
          have HO : Hid (JB (Y.setCell ⟨Xw.heap.size, 2, none⟩ (.slice a' (k + 1) c')) Xw.heap.size (TT : Int) S (.slice a' (k + 1) c') 24) := heap_setCell_same _ Xw.heap.size 2 _ _ _ hOY
          have HV : Hid (VOwn (Y.setCell ⟨Xw.heap.size, 2, none⟩ (.slice a' (k + 1) c')) Xw.heap.size (.slice a' (k + 1) c') (k + 1) (catV k G (fun _ => v))) := oY'
          have HBr : Hid (Below Xw.heap.size Xw (Y.setCell ⟨Xw.heap.size, 2, none⟩ (.slice a' (k + 1) c'))) := ((hB.trans (bE.mono hB.size)).trans bY).setCell (p := ⟨Xw.heap.size, 2, none⟩) (Nat.le_refl _) _
          have HGf : Hid (∀ i, (catV k G (fun _ => v) i).fits) := hfit
          have HGe : Hid (∀ i, i < k + 1 → catV k G (fun _ => v) i = rF f i) := hGe'
          have HMs : Hid (mks f (11 + K) (k + 1) = true) := hms'
          obtain ⟨j0, j1, j2⟩ := hOY.at
          have jz := hOY.soft
          obtain ⟨q0, q1, q2⟩ := hO.at
          obtain ⟨q0', q1', q2'⟩ := (hO.keep bE).at
          have x4' : wr.drew.cell? ⟨b, o + (p + 4), none⟩ = some (.int .u8 ((f (p + 4) : Nat) : Int)) := x4
          have x4'' := (hRr.keep bE).lies (by omega)
          obtain ⟨b2, o2, ea2, hA2⟩ := x4''
          cases ea2
          have x4'' := hA2 (p + 4) (by omega)
          obtain ⟨b3, o3, ea3, hA3⟩ := (RX.out.keep ((hB.trans (bE.mono hB.size)).trans bY)).lies (by omega)
          cases ea3
          have x4Y := hA3 (p + 4) (by omega)
          have HA : Hid (Sem.run Tryd.prog (Builtin.append_ #[22, 22] 22 #[.slice av k cc, .slice (some ⟨wr.heap.size, 0, none⟩) 1 1]) E = .ok (.slice a' (k + 1) c') Y) := hr
          have lv : ((v.sm : Nat) : Int) < 4294967296 := by have := hvf.s1; omega
          have wv : IntKind.u32.wrap ((v.sm : Nat) : Int) = ((v.sm : Nat) : Int) := by have := hvf.s1; rw [IntKind.wrap_u32]; omega
          have gy : decide ((1 : Int) < ((f (p + 4) : Nat) : Int)) = false := decide_eq_false (by omega)
          obtain ⟨p4, hp4⟩ : ∃ p4, p + 4 = p4 := ⟨_, rfl⟩
          have k4 : (p : Int) + 4 = (p4 : Int) := by omega
          have k5 : (p4 : Int) < (n : Int) := by omega
          have k6 : p4 < n := by omega
          have k7 : IntKind.i64.wrap (p4 : Int) = (p4 : Int) := wraps_i64' _ (by omega) (by omega)
          obtain ⟨p5, hp5⟩ : ∃ p5, p + 5 = p5 := ⟨_, rfl⟩
          have m4 : (p : Int) + 5 = (p5 : Int) := by omega
          have m7 : IntKind.i64.wrap (p5 : Int) = (p5 : Int) := wraps_i64' _ (by omega) (by omega)
          obtain ⟨p9, hp9⟩ : ∃ p9, p + 9 = p9 := ⟨_, rfl⟩
          have n4' : (p : Int) + 9 = (p9 : Int) := by omega
          have n7 : IntKind.i64.wrap (p9 : Int) = (p9 : Int) := wraps_i64' _ (by omega) (by omega)
          have n13 : IntKind.i64.wrap ((p : Int) + 13) = (p : Int) + 13 := wraps_i64' _ (by omega) (by omega)
          have HP : Hid (p + 13 = 11 + K + 13 * (k + 1) ∧ p + 13 ≤ n) := ⟨by omega, by omega⟩
          rw [hp4] at x4 x4' x4'' x4Y ly gm gy
          rw [hp5] at b0 b1
          rw [hp9] at d0 d1
          clear hA hA2 hA3 hRr hO hV hGf hGe hms hB hp hp4 hp5 hp9 hm hn4 hnn gA gB gC bR bE lE hr oY gY bY hfit hGe' hOY oY' hE' hms' hrF hv hvf
          generalize catV k G (fun _ => v) = GG at *
          generalize f p4 = y1 at *
          obtain ⟨vi, vm, vz, vs⟩ := v
          dsimp only at *
          go_upto_region 17 with fail
          go_region_law (first
            | refine step_append_ran (by rfl) _ _ 22 (by rfl) (.slice av k cc) (.slice (some ⟨wr.heap.size, 0, none⟩) 1 1) (.slice a' (k + 1) c') Y (by rfl) (by rfl) (by dsimp only; with_reducible exact HA.out) ?_
            | (go_simp; go_at_call 42; with_reducible refine a1.mono ?_; rintro e wx ⟨rfl, rfl⟩)
            | (go_simp; go_at_call 42; with_reducible refine b1.mono ?_; rintro e wx ⟨rfl, rfl⟩)
            | (go_simp; go_at_call 42; with_reducible refine d1.mono ?_; rintro e wx ⟨rfl, rfl⟩))
          all_goals
            go_wp2
            go_round
            case rel => exact ⟨k + 1, p + 13, c', a', GG, by omega, HP.out.1, by go_num, HO.out, HV.out, HGf.out, HGe.out, HMs.out, HBr.out⟩
            case measure => have := HP.out.2; simp [intOf]; omega
      · have hkC : k = C := by omega
        subst hkC
        have ik : ¬ ((p : Int) < ((n - 4 : Nat) : Int)) := by omega
        have ik' : decide ((p : Int) < ((n - 4 : Nat) : Int)) = false := decide_eq_false ik
        obtain ⟨a1, c1, e1, hvs, hz, hcc, _⟩ := hV.vs hGf
        injection e1 with e1 e2 e3
        subst e1; subst e3
        have cM : Calls Tryd.prog 15 #[.agg #[.int .i64 (TT : Int), .string S, .slice av k cc]] wr fun e w' => e = .returned (.bool (mayJ (TT : Int) K k (rF f))) ∧ Below wr.heap.size wr w' := by
          have := rmay_any (TT : Int) S av k cc G wr hvs (by rw [HSs.out]; unfold maxLen; omega) (by unfold maxLen; omega)
          rw [HSs.out, mayJ_congr hGe] at this
          exact this
        obtain ⟨j0, j1, j2⟩ := hO.at
        have HO : Hid (JB wr Xw.heap.size (TT : Int) S (.slice av k cc) 24) := hO
        have HV : Hid (VOwn wr Xw.heap.size (.slice av k cc) k G) := hV
        have HGf : Hid (∀ i, (G i).fits) := hGf
        have HGe : Hid (∀ i, i < k → G i = rF f i) := hGe
        have HBr : Hid (Below Xw.heap.size Xw wr) := hB
        obtain ⟨M, hM⟩ : ∃ M, mayJ (TT : Int) K k (rF f) = M := ⟨_, rfl⟩
        have HE1 : Hid (M = false → ∀ e w', Below w.heap.size w w' → e = .returned (.tuple #[nojn, .int .i64 4]) → RDecEnd n f w e w') := fun q e w' h1 h2 => hEndB.out e w' h1 (HBad2.out hms (by rw [hM]; exact q)) h2
        have HE2 : Hid (M = true → ∀ e w', Below w.heap.size w w' → (∃ v, e = .returned (.tuple #[v, .int .i64 0]) ∧ Jn w' v ((TT : Nat) : Int) S k (rF f)) → RDecEnd n f w e w') := fun q e w' h1 h2 => hEnd.out e w' h1 (HGood.out hms (by rw [hM]; exact q)) h2
        rw [hM] at cM
        clear hM hms hO hV hGf hGe hB hvs hz hcc hp hn4 hnn hlt
        go_wp2_with fail
        go_at_call 15
        refine cM.mono ?_
        rintro e w5 ⟨rfl, b5⟩
        clear cM j0 j1 j2
        have hr5 := HDX.out.keep (hop HBr.out b5)
        have hO5 := HO.out.keep b5
        have hV5 := HV.out.keep b5
        obtain ⟨d0, d1, d2⟩ := hr5.at
        have fr5 : ∀ j, w5.frozen? ⟨w.heap.size, j, none⟩ = false := hr5.soft
        obtain ⟨k0, k1, k2⟩ := hO5.at
        have HB5 : Hid (Below w.heap.size w w5) := hop HBX.out (hop HBr.out b5)
        have HJn : Hid (∀ v0 v1 v2, Jn (((w5.setCell ⟨w.heap.size, 0, none⟩ v0).setCell ⟨w.heap.size, 1, none⟩ v1).setCell ⟨w.heap.size, 2, none⟩ v2) (jv (TT : Int) S (.slice av k cc)) (TT : Int) S k (rF f)) := fun v0 v1 v2 => by
          have q : ∀ (X : World) (x0 x1 x2 : Value), X.heap[w.heap.size]? = some (.cells #[x0, x1, x2] 24 (0, 0)) → ∀ cur, X.heap[w.heap.size]? ≠ some (.cells cur 46 (0, 0)) := fun X x0 x1 x2 hX cur hY => by
            rw [hX] at hY
            injection hY with hY
            injection hY with _ hY _
            cases hY
          have k1 := heap_setCell_same _ w.heap.size 0 _ _ v0 hr5
          have k2 := heap_setCell_same _ w.heap.size 1 _ _ v1 k1
          obtain ⟨a', c', e, hvs, hz, hc, _⟩ := (((hV5.put (j := 0) (u := v0) (q _ _ _ _ hr5)).put (j := 1) (u := v1) (q _ _ _ _ k1)).put (j := 2) (u := v2) (q _ _ _ _ k2)).vs HGf.out
          injection e with e1 e2 e3
          subst e1; subst e3
          refine ⟨_, _, rfl, ⟨fun i => rF_fits HFl.out i, fun h0 => ?_⟩, hz, hc⟩
          obtain ⟨b, o, e, hcc⟩ := hvs.lies h0
          exact ⟨b, o, e, fun i hi => by rw [← HGe.out i hi]; exact hcc i hi⟩
        clear b5 hr5 hO5 hV5
        cases hm : M with
        | false =>
          have H1 : Hid _ := HE1.out hm
          clear HE1 HE2 hm HJn
          go_wp2_with fail
          exact bodyPost_ret (v := .tuple #[nojn, .int .i64 4]) (by simp [results, Tryd.results17, go_sem, nojn, jv, noS, *]) rfl (H1.out _ _ (below3 HB5.out (Nat.le_refl _) _ _ _) rfl)
        | true =>
          have H2 : Hid _ := HE2.out hm
          clear HE1 HE2 hm
          go_wp2_with fail
          exact bodyPost_ret (v := .tuple #[jv (TT : Int) S (.slice av k cc), .int .i64 0]) (by simp [results, Tryd.results17, go_sem, jv, *]) rfl (H2.out _ _ (below3 HB5.out (Nat.le_refl _) _ _ _) ⟨_, rfl, HJn.out _ _ _⟩)
end Go.Proofs.YtigjhdcinaefbaaDoor
