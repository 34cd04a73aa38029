/-
  What the document's Encode answers where the journal may be.
-/
import Derived.Test.YtigjhdcinaefbaaDoorJnT
namespace Go.Proofs.YtigjhdcinaefbaaDoor
open Go.RowKit Crc
attribute [local go_sem ↓] Go.wp_at_zero Go.wp_at_succ
set_option linter.unusedVariables false

theorem head_jb' {t N n : Nat} {nm : Nat → Nat} {F : Nat → Ver} (hn : n < 256) (i : Nat) (hi : i < 11 + N) :
    cat (10 + N) (cat 10 (cat 8 (cat 4 sbj (by4 t)) (by4 N)) nm) (fun _ => n) i = jb t N nm n F i := by
  unfold cat jb
  by_cases h1 : i < 4
  · rw [if_pos (by omega), if_pos (by omega), if_pos (by omega), if_pos h1, if_pos h1]
  · rw [if_neg h1, if_neg h1]
    by_cases h2 : i < 8
    · rw [if_pos (by omega), if_pos (by omega), if_pos h2, if_pos h2]
    · rw [if_neg h2, if_neg h2]
      by_cases h3 : i < 10
      · rw [if_pos (by omega), if_pos h3, if_pos h3]
      · rw [if_neg h3, if_neg h3]
        by_cases h4 : i < 10 + N
        · rw [if_pos h4, if_pos h4]
        · rw [if_neg h4, if_neg h4, if_pos hi]; show n = _; omega
set_option maxRecDepth 100000 in
set_option maxHeartbeats 8000000 in
theorem rencode_ok (t : Nat) (s : ByteArray) (a : Option Addr) (n c : Nat) (F : Nat → Ver) (w : World) (h : Vs w a n F) (hm : mayJ t s.size n F = true) :
    Calls Tryd.prog 13 #[jv t s (.slice a n c)] w fun e w' => ∃ v, e = .returned (.tuple #[v, .int .i64 0]) ∧ Own w' w.heap.size v (jl s.size n + 4) (jf t s.size (sb s) n F) ∧ Below w.heap.size w w' := by
  obtain ⟨m1, m2, m3, m4, m5⟩ := mayJ_iff.1 hm
  obtain ⟨W, hbx, hj, hb⟩ := box_jn w 24 t s (.slice a n c)
  have cM := rmay_any t s a n c F W (h.keep hb) (by unfold maxLen; omega) (by unfold maxLen; omega)
  rw [hm] at cM
  have HB : Hid (Below w.heap.size w W) := hb
  have HJ : Hid (JAt W w.heap.size t s (.slice a n c)) := hj
  have HV : Hid (Vs W a n F) := h.keep hb
  obtain ⟨c0, c1, c2⟩ := hj
  have HMR : Hid (mayR F n = true) := m5
  clear h hb hm m5
  unfold jv at *
  go_enter Tryd.func13, Tryd.ntmps13
  go_wp2_with fail
  go_at_call 15
  refine cM.mono ?_
  rintro e w1 ⟨rfl, b1⟩
  clear cM c0 c1 c2
  have hj1 := HJ.out.keep b1
  obtain ⟨c0, c1, c2⟩ := hj1
  have hp1 : w.heap.size < w1.heap.size := block_lt_of_cell c0
  have HJ1 : Hid (JAt w1 w.heap.size t s (.slice a n c)) := HJ.out.keep b1
  have HV1 : Hid (Vs w1 a n F) := HV.out.keep b1
  have HB1 : Hid (Below w.heap.size w w1) := hop HB.out b1
  clear HJ HV HB b1
  obtain ⟨B, hB⟩ : ∃ B, w1.heap.size = B := ⟨_, rfl⟩
  have JK : Hid (∀ X, Below B w1 X → JAt X w.heap.size t s (.slice a n c)) := fun X hX => by
    rw [← hB] at hX
    exact HJ1.out.keep hX
  have VK : Hid (∀ X, Below B w1 X → Vs X a n F) := fun X hX => by
    rw [← hB] at hX
    exact HV1.out.keep hX
  -- the literal
  obtain ⟨W2, hW2⟩ : ∃ W2, W2 = w1.alloc (.cells #[.int .u8 83, .int .u8 66, .int .u8 74, .int .u8 49] 5 (4, 5)) := ⟨_, rfl⟩
  have cs : Sem.run Tryd.prog (convert 27 27 (.slice (some ⟨B, 0, none⟩) 4 4)) (w1.alloc (.cells #[.int .u8 83, .int .u8 66, .int .u8 74, .int .u8 49] 5)) = .ok (.slice (some ⟨B, 0, none⟩) 4 4) W2 := by
    rw [hW2, ← hB]; exact Lib.run_convert_bytes_const (P := Tryd.prog) w1 27 5 #[.int .u8 83, .int .u8 66, .int .u8 74, .int .u8 49] 4 4 Tryd.underlying27 Tryd.underlying5
  have b12 : Below B w1 W2 := by rw [hW2, ← hB]; exact bal _ _
  have lit2 : ∀ i, i < 4 → W2.cell? ⟨B, i, none⟩ = some (.int .u8 ((sbj i : Nat) : Int)) := fun i hi => by
    rw [hW2, ← hB, cell_new_any]
    match i, hi with
    | 0, _ => rfl
    | 1, _ => rfl
    | 2, _ => rfl
    | 3, _ => rfl
  have hBW2 : B < W2.heap.size := block_lt_of_cell (lit2 0 (by omega))
  have K3 : Hid (Calls Tryd.prog 34 #[.int .i64 (t : Int), .int .i64 4] W2 fun e X => ∃ q k q' k' W3, e = .returned (.slice (some ⟨q, 0, none⟩) 4 k) ∧ Sem.run Tryd.prog (Builtin.append_ #[27, 27] 27 #[.slice (some ⟨B, 0, none⟩) 4 4, .slice (some ⟨q, 0, none⟩) 4 k]) X = .ok (.slice (some ⟨q', 0, none⟩) 8 k') W3 ∧ Own W3 B (.slice (some ⟨q', 0, none⟩) 8 k') 8 (cat 4 sbj (by4 t)) ∧ Below B w1 W3) := by
    refine (little_any t 4 W2 (by omega) (by omega)).mono ?_
    rintro e X ⟨v, rfl, ho, hb⟩
    obtain ⟨q, k, rfl, _, _, _, r⟩ := ho.row (by omega) (by4_lt _)
    obtain ⟨b', o', e', hcc⟩ := r.lies (by omega)
    injection e' with e'
    injection e' with e1 e2
    subst e1; subst e2
    obtain ⟨v', W3, hr, ho3, hb3⟩ := appendN (w := X) (base := B) (n := 4) (m := 4) (c' := k) (f := sbj) (g := by4 t) (x := ⟨B, 0, none⟩) (y := ⟨q, 0, none⟩)
      (fun i hi => by rw [add_plain, Nat.zero_add]; exact (hb.cell (p := ⟨B, i, none⟩) hBW2).trans (lit2 i hi)) (fun i hi => by rw [add_plain, Nat.zero_add]; have := hcc i hi; rw [Nat.zero_add] at this; exact this) (by omega) (by omega) (by have := hb.size; omega)
    obtain ⟨q', k', rfl, _⟩ := ho3.made (by omega)
    exact ⟨q, k, q', k', W3, rfl, hr, ho3, (b12.trans (hb.mono (by omega))).trans (hb3.mono (by have := hb.size; omega))⟩
  obtain ⟨e0, e1, e2⟩ := JK.out W2 b12
  clear hW2 b12 lit2 HJ1 HV1
  go_wp2_with fail
  go_at_call 34
  refine K3.out.mono ?_
  rintro e X3 ⟨q3, k3, q4, k4, W3, rfl, y1, y2, y3⟩
  clear K3 cs e0 e1 e2
  have HA3 : Hid _ := y1
  have HO3 : Hid (Own W3 B (.slice (some ⟨q4, 0, none⟩) 8 k4) 8 (cat 4 sbj (by4 t))) := y2
  have HB3 : Hid (Below B w1 W3) := y3
  clear y1 y2
  obtain ⟨e0, e1, e2⟩ := JK.out W3 y3
  -- region 4
  have K4 : Hid (∀ X, Below W3.heap.size W3 X → Calls Tryd.prog 34 #[.int .i64 (s.size : Int), .int .i64 2] X fun e X' => ∃ q k q5 k5 Y5 q6 k6 Y6, e = .returned (.slice (some ⟨q, 0, none⟩) 2 k) ∧ Sem.run Tryd.prog (Builtin.append_ #[27, 27] 27 #[.slice (some ⟨q4, 0, none⟩) 8 k4, .slice (some ⟨q, 0, none⟩) 2 k]) X' = .ok (.slice (some ⟨q5, 0, none⟩) 10 k5) Y5 ∧
      Sem.run Tryd.prog (Builtin.append_ #[27, 9] 27 #[.slice (some ⟨q5, 0, none⟩) 10 k5, .string s]) Y5 = .ok (.slice (some ⟨q6, 0, none⟩) (10 + s.size) k6) Y6 ∧ Own Y6 B (.slice (some ⟨q6, 0, none⟩) (10 + s.size) k6) (10 + s.size) (cat 10 (cat 8 (cat 4 sbj (by4 t)) (by4 s.size)) (sb s)) ∧ Below B w1 X' ∧ Below B w1 Y5 ∧ Below B w1 Y6) := fun X hX => by
    refine (little_any s.size 2 X (by omega) (by omega)).mono ?_
    rintro e X' ⟨v, rfl, ho, hb⟩
    obtain ⟨q, k, rfl, _, _, _, r⟩ := ho.row (by omega) (by4_lt _)
    have hbX : Below B w1 X' := HB3.out.trans ((hop hX hb).mono (by have := HB3.out.size; omega))
    obtain ⟨v5, Y5, hr5, o5, b5, _⟩ := appendG (c := k) (HO3.out.keep (hop hX hb)) r (fun e => by cases e) (by omega) (by have := hbX.size; omega)
    have hb5 := hbX.trans b5
    obtain ⟨q5, k5, rfl, _⟩ := o5.made (by omega)
    obtain ⟨v6, Y6, hr6, o6, b6, _⟩ := pushS s o5 (by omega) (by have := hb5.size; omega)
    obtain ⟨q6, k6, rfl, _⟩ := o6.made (by omega)
    exact ⟨q, k, q5, k5, Y5, q6, k6, Y6, rfl, hr5, hr6, o6, hbX, hb5, hb5.trans b6⟩
  have K4' := K4.out W3.drew (Below.refl _ _).drew
  have e1d := (JK.out W3.drew y3.drew).c1
  clear y3 K4
  go_upto_region 4 with (at_builtin; refine wpList_append_ran (by rfl) _ _ 27 (by rfl) _ _ _ _ (by rfl) (by rfl) HA3.out ?_)
  go_cut [4] (fun v wx => ∃ q k, v = .slice (some ⟨q, 0, none⟩) (10 + s.size) k ∧ Own wx B (.slice (some ⟨q, 0, none⟩) (10 + s.size) k) (10 + s.size) (cat 10 (cat 8 (cat 4 sbj (by4 t)) (by4 s.size)) (sb s)) ∧ Below B w1 wx)
  case first =>
    go_wp2_with fail
    go_region_held3 (fun X => X.cell? ⟨w.heap.size, 1, none⟩ = some (.string s))
      (first | exact e1d | exact (JK.out _ z4).c1 | exact (JK.out _ z5).c1 | exact (JK.out _ z6).c1)
      (first
        | refine step_append_ran (by rfl) _ _ 27 (by rfl) (.slice (some ⟨q4, 0, none⟩) 8 k4) (.slice (some ⟨qx, 0, none⟩) 2 kx) (.slice (some ⟨q5, 0, none⟩) 10 k5) Y5 (by rfl) (by rfl) (by dsimp only; with_reducible exact z1) ?_
        | refine step_append_ran2 (by rfl) _ _ 27 9 (by rfl) (.slice (some ⟨q5, 0, none⟩) 10 k5) (.string s) (.slice (some ⟨q6, 0, none⟩) (10 + s.size) k6) Y6 (by rfl) (by rfl) (by dsimp only; with_reducible exact z2) ?_
        | (go_at_call 34; with_reducible refine K4'.mono ?_; rintro e wx ⟨qx, kx, q5, k5, Y5, q6, k6, Y6, rfl, z1, z2, z3, z4, z5, z6⟩))
    all_goals
      go_wp2_with fail
      go_meet
      exact ⟨q6, k6, rfl, z3, z6⟩
  case rest =>
    obtain ⟨q5, k5, rfl, ho5, hb5⟩ := hcut
    clear HA3 HO3 HB3 e0 e1 e2 e1d K4'
    have hs5 := hb5.size
    obtain ⟨v6, X6, hr6, o6, b6, _⟩ := pushB (x := n) ho5 (by omega) (by omega) (by omega)
    obtain ⟨f0, f1, f2⟩ := JK.out wc hb5
    have HA6 : Hid _ := hr6
    have HB6 : Hid (Below B w1 X6) := hb5.trans b6
    have HO6 : Hid (Own X6 B v6 (11 + s.size + 13 * 0) (jb t s.size (sb s) n F)) := by
      have e : 10 + s.size + 1 = 11 + s.size + 13 * 0 := by omega
      rw [e] at o6
      exact o6.congr fun i hi => head_jb' (by omega) i (by omega)
    have i2 : (n : Int) < 256 := by omega
    clear ho5 hr6 o6 b6 c0 c1 c2
    go_wp2_with (at_builtin; refine wpList_append_ran (by rfl) _ _ 27 (by rfl) _ _ _ _ (by rfl) (by rfl) HA6.out ?_)
    clear HA6 f0 f1 f2 hb5
    go_loopw [4, 5] (fun v i wr => ∃ k : Nat, k ≤ n ∧ i = .int .i64 k ∧ Own wr B v (11 + s.size + 13 * k) (jb t s.size (sb s) n F) ∧ Below B w1 wr) (fun _ i _ => n - (intOf i).toNat)
    case atStart => exact ⟨0, by omega, rfl, HO6.out, HB6.out⟩
    case round =>
      obtain ⟨k, hk, rfl, hO, hb⟩ := hrel
      clear HO6 HB6
      obtain ⟨f0, f1, f2⟩ := JK.out wr hb
      have hsz := hb.size
      have hBw : B ≤ w1.heap.size := by omega
      by_cases hlt : k < n
      · have ik : (k : Int) < (n : Int) := by omega
        obtain ⟨b', o', ea, hc⟩ := (VK.out wr hb).lies (by omega)
        obtain ⟨z0, z1, z2, z3⟩ := hc k hlt
        have hmv := (mayR_at hlt HMR.out).2
        obtain ⟨g1, g2, g3, g4, g5⟩ := mayV_iff.1 hmv
        clear g5
        have hsm : (F k).sm < 4294967296 := ((VK.out wr hb).ft k).s1
        have HST : Hid (∀ (X : World) (v : Value), Own X B v (11 + s.size + 13 * k + 13) (cat (11 + s.size + 13 * k) (jb t s.size (sb s) n F) (vb (F k))) → Own X B v (11 + s.size + 13 * (k + 1)) (jb t s.size (sb s) n F)) := fun X v h => by
          rw [show 11 + s.size + 13 * (k + 1) = 11 + s.size + 13 * k + 13 by omega]
          exact h.congr fun i hi => step_jb i hi
        obtain ⟨L, hL⟩ : ∃ L, 11 + s.size + 13 * k = L := ⟨_, rfl⟩
        rw [hL] at hO HST
        have hL2 : L ≤ 2000 := by omega
        have HCV : Hid (∀ (X : World) (v : Value), Own X B v (L + 4 + 1 + 4 + 4) (cat (L + 4 + 1 + 4) (cat (L + 4 + 1) (cat (L + 4) (cat L (jb t s.size (sb s) n F) (by4 (F k).id.toNat)) (fun _ => if (F k).mr then 1 else 0)) (by4 (F k).sz.toNat)) (by4 (F k).sm)) → Own X B v (11 + s.size + 13 * (k + 1)) (jb t s.size (sb s) n F)) := fun X v h => HST.out X v (h.congr fun i hi => vb_cat i hi)
        clear HST hc hmv hL
        obtain ⟨X6, hX6⟩ : ∃ X6, wr.alloc (.cells #[.int .i64 (F k).id, .bool (F k).mr, .int .i64 (F k).sz, .int .u32 ((F k).sm : Int)] 46) = X6 := ⟨_, rfl⟩
        have b6 : Below wr.heap.size wr X6 := by rw [← hX6]; exact bal _ _
        have hv6 : VerB X6 wr.heap.size (F k) := by rw [← hX6]; exact heap_alloc_new _ _
        have bD : Below X6.heap.size X6 X6.drew := (Below.refl _ _).drew
        have s0 : St w1 B wr.heap.size (F k) X6.drew u4 L (jb t s.size (sb s) n F) := ⟨hO.keep (hop b6 bD), (hb.trans (b6.mono (by omega))).trans (bD.mono (by have := b6.size; omega)), (bD.block _ (Array.getElem?_eq_some_iff.1 hv6).1).trans hv6⟩
        obtain ⟨a0, a1, a2, a3⟩ := hv6.at
        clear hO hb b6 hv6 bD
        generalize jb t s.size (sb s) n F = JB' at *
        generalize F k = v at *
        obtain ⟨i', mr, z', sm⟩ := v
        dsimp only at *
        obtain ⟨j, rfl⟩ : ∃ j : Nat, i' = (j : Int) := ⟨i'.toNat, by omega⟩
        obtain ⟨y, rfl⟩ : ∃ y : Nat, z' = (y : Int) := ⟨z'.toNat, by omega⟩
        simp only [Int.toNat_natCast] at HCV
        subst ea
        cases mr with
        | false =>
          have C1 := little_st (w1 := w1) (B := B) (pv := wr.heap.size) (x := ⟨j, false, y, sm⟩) j (by omega) hBw
          have C2 := little_st (w1 := w1) (B := B) (pv := wr.heap.size) (x := ⟨j, false, y, sm⟩) y (by omega) hBw
          have C3 := bytes_st (w1 := w1) (B := B) (pv := wr.heap.size) (x := ⟨j, false, y, sm⟩) sm hsm hBw
          have bEC : Below X6.heap.size X6.drew (X6.alloc (.cells #[.int .u8 0] 5)).drew := bal X6.drew _
          have sC : St w1 B wr.heap.size ⟨j, false, y, sm⟩ (X6.alloc (.cells #[.int .u8 0] 5)).drew u4 L JB' := s0.call hBw bEC
          have lC : Row (X6.alloc (.cells #[.int .u8 0] 5)).drew (some ⟨X6.heap.size, 0, none⟩) 1 (fun _ => 0) := lit1 X6.drew 0 (by omega)
          have nC : u4.ownBlock ≠ some X6.heap.size := s0.own.newer (Nat.le_refl _)
          have q0 := s0.cells
          dsimp only at q0
          obtain ⟨r0, r2, r3⟩ := q0
          go_wp2_with fail
          go_region_held3 (fun X => X.cell? ⟨wr.heap.size, 0, none⟩ = some (.int .i64 (j : Int)) ∧ X.cell? ⟨wr.heap.size, 2, none⟩ = some (.int .i64 (y : Int)) ∧ X.cell? ⟨wr.heap.size, 3, none⟩ = some (.int .u32 (sm : Int)))
            (first | with_reducible exact s0.cells | with_reducible exact sC.cells | with_reducible exact s1.cells | with_reducible exact (s1.call hBw (bal _ _)).cells | with_reducible exact s2.cells | with_reducible exact (s2.call hBw (bal _ _)).cells | with_reducible exact s3.cells | with_reducible exact s4.cells | with_reducible exact s5.cells | with_reducible exact s6.cells | with_reducible exact s7.cells)
            (first
              | (go_at_call 34; with_reducible refine (C1 X6.drew u4 L JB' s0).mono ?_; rintro e x1 ⟨p1, k1, rfl, r1, s1, b1⟩)
              | (go_at_call 34; with_reducible refine (C1 (X6.alloc (.cells #[.int .u8 0] 5)).drew u4 L JB' sC).mono ?_; rintro e x1 ⟨p1, k1, rfl, r1, s1, b1⟩)
              | (go_at_call 34; with_reducible refine (C2 y2 _ _ _ s3).mono ?_; rintro e x3 ⟨p4, k4, rfl, r4, s4, b4⟩)
              | (go_at_call 35; with_reducible refine (C3 y3 _ _ _ s5).mono ?_; rintro e x4 ⟨p6, k6, rfl, r6, s6, b6⟩)
              | (obtain ⟨p2, k2, y1, hr1, s2, g2⟩ := s1.app (c := k1) hBw r1 (fun e => by cases e) (by omega) (by omega)
                 refine step_append_ran (by rfl) _ _ 27 (by rfl) u4 (.slice (some ⟨p1, 0, none⟩) 4 k1) (.slice (some ⟨p2, 0, none⟩) (L + 4) k2) y1 (by rfl) (by rfl) (by dsimp only; with_reducible exact hr1) ?_)
              | (obtain ⟨p2, k2, y1, hr1, s2, g2⟩ := (s1.call hBw (bal x1 (.cells #[.int .u8 0] 5))).app (c := k1) hBw (r1.keep (bal x1 (.cells #[.int .u8 0] 5))) (fun e => by cases e) (by omega) (by omega)
                 refine step_append_ran (by rfl) _ _ 27 (by rfl) u4 (.slice (some ⟨p1, 0, none⟩) 4 k1) (.slice (some ⟨p2, 0, none⟩) (L + 4) k2) y1 (by rfl) (by rfl) (by dsimp only; with_reducible exact hr1) ?_)
              | (obtain ⟨p3, k3, y2, hr2, s3, g3⟩ := (s2.call hBw (bal y1 (.cells #[.int .u8 0] 5))).app (c := 1) hBw (lit1 y1 0 (by omega)) (fun e => by cases e) (by omega) (by omega)
                 refine step_append_ran (by rfl) _ _ 27 (by rfl) (.slice (some ⟨p2, 0, none⟩) (L + 4) k2) (.slice (some ⟨y1.heap.size, 0, none⟩) 1 1) (.slice (some ⟨p3, 0, none⟩) (L + 4 + 1) k3) y2 (by rfl) (by rfl) (by dsimp only; with_reducible exact hr2) ?_)
              | (obtain ⟨p3, k3, y2, hr2, s3, g3⟩ := s2.app (c := 1) hBw ((lit1 x1 0 (by omega)).grown g2 (s1.own.newer (Nat.le_refl _))) (fun e => by cases e) (by omega) (by omega)
                 refine step_append_ran (by rfl) _ _ 27 (by rfl) (.slice (some ⟨p2, 0, none⟩) (L + 4) k2) (.slice (some ⟨x1.heap.size, 0, none⟩) 1 1) (.slice (some ⟨p3, 0, none⟩) (L + 4 + 1) k3) y2 (by rfl) (by rfl) (by dsimp only; with_reducible exact hr2) ?_)
              | (obtain ⟨p3, k3, y2, hr2, s3, g3⟩ := s2.app (c := 1) hBw ((lC.keep b1).grown g2 nC) (fun e => by cases e) (by omega) (by omega)
                 refine step_append_ran (by rfl) _ _ 27 (by rfl) (.slice (some ⟨p2, 0, none⟩) (L + 4) k2) (.slice (some ⟨X6.heap.size, 0, none⟩) 1 1) (.slice (some ⟨p3, 0, none⟩) (L + 4 + 1) k3) y2 (by rfl) (by rfl) (by dsimp only; with_reducible exact hr2) ?_)
              | (obtain ⟨p5, k5, y3, hr3, s5, g5⟩ := s4.app (c := k4) hBw r4 (fun e => by cases e) (by omega) (by omega)
                 refine step_append_ran (by rfl) _ _ 27 (by rfl) (.slice (some ⟨p3, 0, none⟩) (L + 4 + 1) k3) (.slice (some ⟨p4, 0, none⟩) 4 k4) (.slice (some ⟨p5, 0, none⟩) (L + 4 + 1 + 4) k5) y3 (by rfl) (by rfl) (by dsimp only; with_reducible exact hr3) ?_)
              | (obtain ⟨p7, k7, y4, hr4, s7, g7⟩ := s6.app (c := k6) hBw r6 (fun e => by cases e) (by omega) (by omega)
                 refine step_append_ran (by rfl) _ _ 27 (by rfl) (.slice (some ⟨p5, 0, none⟩) (L + 4 + 1 + 4) k5) (.slice (some ⟨p6, 0, none⟩) 4 k6) (.slice (some ⟨p7, 0, none⟩) (L + 4 + 1 + 4 + 4) k7) y4 (by rfl) (by rfl) (by dsimp only; with_reducible exact hr4) ?_))
          all_goals
            go_wp2
            go_round
            case rel =>
              refine ⟨k + 1, by omega, by go_num, ?_, s7.be⟩
              have q := HCV.out _ _ s7.own
              exact q
            case measure => simp [intOf]; omega
        | true =>
          have C1 := little_st (w1 := w1) (B := B) (pv := wr.heap.size) (x := ⟨j, true, y, sm⟩) j (by omega) hBw
          have C2 := little_st (w1 := w1) (B := B) (pv := wr.heap.size) (x := ⟨j, true, y, sm⟩) y (by omega) hBw
          have C3 := bytes_st (w1 := w1) (B := B) (pv := wr.heap.size) (x := ⟨j, true, y, sm⟩) sm hsm hBw
          have bEC : Below X6.heap.size X6.drew (X6.alloc (.cells #[.int .u8 1] 5)).drew := bal X6.drew _
          have sC : St w1 B wr.heap.size ⟨j, true, y, sm⟩ (X6.alloc (.cells #[.int .u8 1] 5)).drew u4 L JB' := s0.call hBw bEC
          have lC : Row (X6.alloc (.cells #[.int .u8 1] 5)).drew (some ⟨X6.heap.size, 0, none⟩) 1 (fun _ => 1) := lit1 X6.drew 1 (by omega)
          have nC : u4.ownBlock ≠ some X6.heap.size := s0.own.newer (Nat.le_refl _)
          have q0 := s0.cells
          dsimp only at q0
          obtain ⟨r0, r2, r3⟩ := q0
          go_wp2_with fail
          go_region_held3 (fun X => X.cell? ⟨wr.heap.size, 0, none⟩ = some (.int .i64 (j : Int)) ∧ X.cell? ⟨wr.heap.size, 2, none⟩ = some (.int .i64 (y : Int)) ∧ X.cell? ⟨wr.heap.size, 3, none⟩ = some (.int .u32 (sm : Int)))
            (first | with_reducible exact s0.cells | with_reducible exact sC.cells | with_reducible exact s1.cells | with_reducible exact (s1.call hBw (bal _ _)).cells | with_reducible exact s2.cells | with_reducible exact (s2.call hBw (bal _ _)).cells | with_reducible exact s3.cells | with_reducible exact s4.cells | with_reducible exact s5.cells | with_reducible exact s6.cells | with_reducible exact s7.cells)
            (first
              | (go_at_call 34; with_reducible refine (C1 X6.drew u4 L JB' s0).mono ?_; rintro e x1 ⟨p1, k1, rfl, r1, s1, b1⟩)
              | (go_at_call 34; with_reducible refine (C1 (X6.alloc (.cells #[.int .u8 1] 5)).drew u4 L JB' sC).mono ?_; rintro e x1 ⟨p1, k1, rfl, r1, s1, b1⟩)
              | (go_at_call 34; with_reducible refine (C2 y2 _ _ _ s3).mono ?_; rintro e x3 ⟨p4, k4, rfl, r4, s4, b4⟩)
              | (go_at_call 35; with_reducible refine (C3 y3 _ _ _ s5).mono ?_; rintro e x4 ⟨p6, k6, rfl, r6, s6, b6⟩)
              | (obtain ⟨p2, k2, y1, hr1, s2, g2⟩ := s1.app (c := k1) hBw r1 (fun e => by cases e) (by omega) (by omega)
                 refine step_append_ran (by rfl) _ _ 27 (by rfl) u4 (.slice (some ⟨p1, 0, none⟩) 4 k1) (.slice (some ⟨p2, 0, none⟩) (L + 4) k2) y1 (by rfl) (by rfl) (by dsimp only; with_reducible exact hr1) ?_)
              | (obtain ⟨p2, k2, y1, hr1, s2, g2⟩ := (s1.call hBw (bal x1 (.cells #[.int .u8 1] 5))).app (c := k1) hBw (r1.keep (bal x1 (.cells #[.int .u8 1] 5))) (fun e => by cases e) (by omega) (by omega)
                 refine step_append_ran (by rfl) _ _ 27 (by rfl) u4 (.slice (some ⟨p1, 0, none⟩) 4 k1) (.slice (some ⟨p2, 0, none⟩) (L + 4) k2) y1 (by rfl) (by rfl) (by dsimp only; with_reducible exact hr1) ?_)
              | (obtain ⟨p3, k3, y2, hr2, s3, g3⟩ := (s2.call hBw (bal y1 (.cells #[.int .u8 1] 5))).app (c := 1) hBw (lit1 y1 1 (by omega)) (fun e => by cases e) (by omega) (by omega)
                 refine step_append_ran (by rfl) _ _ 27 (by rfl) (.slice (some ⟨p2, 0, none⟩) (L + 4) k2) (.slice (some ⟨y1.heap.size, 0, none⟩) 1 1) (.slice (some ⟨p3, 0, none⟩) (L + 4 + 1) k3) y2 (by rfl) (by rfl) (by dsimp only; with_reducible exact hr2) ?_)
              | (obtain ⟨p3, k3, y2, hr2, s3, g3⟩ := s2.app (c := 1) hBw ((lit1 x1 1 (by omega)).grown g2 (s1.own.newer (Nat.le_refl _))) (fun e => by cases e) (by omega) (by omega)
                 refine step_append_ran (by rfl) _ _ 27 (by rfl) (.slice (some ⟨p2, 0, none⟩) (L + 4) k2) (.slice (some ⟨x1.heap.size, 0, none⟩) 1 1) (.slice (some ⟨p3, 0, none⟩) (L + 4 + 1) k3) y2 (by rfl) (by rfl) (by dsimp only; with_reducible exact hr2) ?_)
              | (obtain ⟨p3, k3, y2, hr2, s3, g3⟩ := s2.app (c := 1) hBw ((lC.keep b1).grown g2 nC) (fun e => by cases e) (by omega) (by omega)
                 refine step_append_ran (by rfl) _ _ 27 (by rfl) (.slice (some ⟨p2, 0, none⟩) (L + 4) k2) (.slice (some ⟨X6.heap.size, 0, none⟩) 1 1) (.slice (some ⟨p3, 0, none⟩) (L + 4 + 1) k3) y2 (by rfl) (by rfl) (by dsimp only; with_reducible exact hr2) ?_)
              | (obtain ⟨p5, k5, y3, hr3, s5, g5⟩ := s4.app (c := k4) hBw r4 (fun e => by cases e) (by omega) (by omega)
                 refine step_append_ran (by rfl) _ _ 27 (by rfl) (.slice (some ⟨p3, 0, none⟩) (L + 4 + 1) k3) (.slice (some ⟨p4, 0, none⟩) 4 k4) (.slice (some ⟨p5, 0, none⟩) (L + 4 + 1 + 4) k5) y3 (by rfl) (by rfl) (by dsimp only; with_reducible exact hr3) ?_)
              | (obtain ⟨p7, k7, y4, hr4, s7, g7⟩ := s6.app (c := k6) hBw r6 (fun e => by cases e) (by omega) (by omega)
                 refine step_append_ran (by rfl) _ _ 27 (by rfl) (.slice (some ⟨p5, 0, none⟩) (L + 4 + 1 + 4) k5) (.slice (some ⟨p6, 0, none⟩) 4 k6) (.slice (some ⟨p7, 0, none⟩) (L + 4 + 1 + 4 + 4) k7) y4 (by rfl) (by rfl) (by dsimp only; with_reducible exact hr4) ?_))
          all_goals
            go_wp2
            go_round
            case rel =>
              refine ⟨k + 1, by omega, by go_num, ?_, s7.be⟩
              have q := HCV.out _ _ s7.own
              exact q
            case measure => simp [intOf]; omega
      · have : k = n := by omega
        subst this
        have hL : 11 + s.size + 13 * k = jl s.size k := rfl
        rw [hL] at hO
        obtain ⟨gb, cb, rfl, z1, z2, z3, r8⟩ := hO.row (by rw [← hL]; omega) (jb_lt (sb_lt s))
        have cS := rsum_any (some ⟨gb, 0, none⟩) (jl s.size k) cb _ wr r8 (by rw [← hL]; unfold maxLen; omega)
        have ls : sum (jl s.size k) (jb t s.size (sb s) k F) < 4294967296 := more_lt (by omega) (jb_lt (sb_lt s))
        have cB := rbytes_any (sum (jl s.size k) (jb t s.size (sb s) k F)) wr ls
        have HO : Hid (Own wr B (.slice (some ⟨gb, 0, none⟩) (jl s.size k) cb) (jl s.size k) (jb t s.size (sb s) k F)) := hO
        have HBr : Hid (Below B w1 wr) := hb
        have hlj : jl s.size k ≤ 2000 := by rw [← hL]; omega
        have HSM : Hid (∀ i, cat (jl s.size k) (jb t s.size (sb s) k F) (by4 (sum (jl s.size k) (jb t s.size (sb s) k F))) i = jf t s.size (sb s) k F i) := fun i => rfl
        clear hO hb r8 z1 z2 z3 hL ls
        generalize sum (jl s.size k) (jb t s.size (sb s) k F) = sm at *
        go_wp2_with fail
        go_at_call 36
        refine cS.mono ?_
        rintro e w' ⟨rfl, rfl⟩
        clear cS
        go_wp2_with fail
        go_at_call 35
        refine cB.mono ?_
        rintro e X8 ⟨v8, rfl, o8, b8⟩
        clear cB
        obtain ⟨q8, k8, rfl, _, _, _, r8⟩ := o8.row (by omega) (by4_lt _)
        have hb8 : Below B w1 X8 := HBr.out.trans (b8.mono (by omega))
        have hs8 := hb8.size
        obtain ⟨v9, X9, hr9, o9, b9, _⟩ := appendG (c := k8) (HO.out.keep b8) r8 (fun e => by cases e) (by omega) (by omega)
        have HA9 : Hid _ := hr9
        have HO9 : Hid (Own X9 B v9 (jl s.size k + 4) (jf t s.size (sb s) k F)) := o9.congr fun i _ => HSM.out i
        have HB9 : Hid (Below B w1 X9) := hb8.trans b9
        clear hr9 o9 b9 hb8 o8 r8 b8 HO HBr HSM
        go_wp2_with (at_builtin; refine wpList_append_ran (by rfl) _ _ 27 (by rfl) _ _ _ _ (by rfl) (by rfl) HA9.out ?_)
        go_ret2
        have q9 : Own X9 w.heap.size v9 (jl s.size k + 4) (jf t s.size (sb s) k F) := Own.mono (base := B) HO9.out (by omega)
        exact ⟨_, rfl, q9, hop HB1.out (by rw [hB]; exact HB9.out)⟩
end Go.Proofs.YtigjhdcinaefbaaDoor
