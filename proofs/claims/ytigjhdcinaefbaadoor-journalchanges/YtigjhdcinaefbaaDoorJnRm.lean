/-
  What the document's May of layer 7 answers.
-/
import Derived.Test.YtigjhdcinaefbaaDoorJnR
import Derived.Test.YtigjhdcinaefbaaDoorGrw
namespace Go.Proofs.YtigjhdcinaefbaaDoor
open Go.RowKit Crc
attribute [local go_sem ↓] Go.wp_at_zero Go.wp_at_succ
set_option linter.unusedVariables false

/-- The k-th version's cells, the one's ahead of it, a journal's slice. -/
theorem mayV_pos {v : Ver} (h : mayV v = true) : 0 ≤ v.id := (mayV_iff.1 h).1
set_option maxRecDepth 100000 in
set_option maxHeartbeats 4000000 in
theorem rmay_any (t : Int) (s : ByteArray) (a : Option Addr) (n c : Nat) (F : Nat → Ver) (w : World) (h : Vs w a n F) (hs : s.size ≤ maxLen) (hn : n ≤ maxLen) :
    Calls Tryd.prog 15 #[jv t s (.slice a n c)] w fun e w' => e = .returned (.bool (mayJ t s.size n F)) ∧ Below w.heap.size w w' := by
  unfold maxLen at hs hn
  obtain ⟨W, hbx, hj, hb⟩ := box_jn w 24 t s (.slice a n c)
  have HB : Hid (Below w.heap.size w W) := hb
  have HJ : Hid (JAt W w.heap.size t s (.slice a n c)) := hj
  obtain ⟨c0, c1, c2⟩ := hj
  have HV : Hid (Vs W a n F) := h.keep hb
  clear h hb
  unfold jv
  by_cases h0 : t < 0
  · have HM : Hid (mayJ t s.size n F = false) := by unfold mayJ; exact decide_eq_false (fun q => by omega)
    generalize mayJ t s.size n F = M at *
    go_enter Tryd.func15, Tryd.ntmps15
    go_wp2
    go_ret
    exact ⟨by rw [HM.out]; rfl, HB.out⟩
  have g0 : decide (t < 0) = false := decide_eq_false h0
  by_cases h1 : 2147483647 < t
  · have HM : Hid (mayJ t s.size n F = false) := by unfold mayJ; exact decide_eq_false (fun q => by omega)
    generalize mayJ t s.size n F = M at *
    go_enter Tryd.func15, Tryd.ntmps15
    go_wp2
    go_ret
    exact ⟨by rw [HM.out]; rfl, HB.out⟩
  have g1 : decide (2147483647 < t) = false := decide_eq_false h1
  by_cases hN : s.size ≤ 600
  rotate_left
  · have HM : Hid (mayJ t s.size n F = false) := by unfold mayJ; exact decide_eq_false (fun q => hN q.2.2.1)
    have g2 : (600 : Int) < (s.size : Int) := by omega
    generalize mayJ t s.size n F = M at *
    clear h0 h1
    go_enter Tryd.func15, Tryd.ntmps15
    go_wp2
    go_ret
    exact ⟨by rw [HM.out]; rfl, HB.out⟩
  have g2 : decide ((600 : Int) < (s.size : Int)) = false := decide_eq_false (by omega)
  by_cases hn4 : n ≤ 64
  rotate_left
  · have HM : Hid (mayJ t s.size n F = false) := by unfold mayJ; exact decide_eq_false (fun q => hn4 q.2.2.2.1)
    have g3 : (64 : Int) < (n : Int) := by omega
    generalize mayJ t s.size n F = M at *
    clear h0 h1
    go_enter Tryd.func15, Tryd.ntmps15
    go_wp2
    go_ret
    exact ⟨by rw [HM.out]; rfl, HB.out⟩
  have g3 : decide ((64 : Int) < (n : Int)) = false := decide_eq_false (by omega)
  have HM : Hid (mayJ t s.size n F = mayR F n) := by
    unfold Hid mayJ
    cases e : mayR F n with
    | true => exact decide_eq_true ⟨by omega, by omega, hN, hn4, rfl⟩
    | false => exact decide_eq_false (fun q => by cases q.2.2.2.2)
  generalize mayJ t s.size n F = M at *
  clear h0 h1
  go_enter Tryd.func15, Tryd.ntmps15
  go_wp2
  clear g0 g1 g2 g3
  go_loopw [3] (fun i wr => ∃ k : Nat, k ≤ n ∧ i = .int .i64 k ∧ mayR F k = true ∧ Below W.heap.size W wr) (fun i _ => n - (intOf i).toNat)
  case atStart => exact ⟨0, by omega, rfl, rfl, Below.refl _ _⟩
  case round =>
    obtain ⟨k, hk, rfl, hm, hb⟩ := hrel
    clear c0 c1 c2
    obtain ⟨c0, c1, c2⟩ := HJ.out.keep hb
    by_cases hlt : k < n
    · have ik : (k : Int) < (n : Int) := by omega
      obtain ⟨b, o, ea, hc⟩ := HV.out.lies (by omega)
      subst ea
      have hpl : w.heap.size < W.heap.size := block_lt_of_cell HJ.out.c0
      have v := (hc k hlt).keep hb
      have s2 := fun p => Grw.cell v.c0 p
      have s3 := fun p => Grw.cell v.c1 p
      have s4 := fun p => Grw.cell v.c2 p
      have s5 := fun p => Grw.cell v.c3 p
      have s1 := fun p => Grw.cell c2 p
      have s6 : Hid (0 < k → wr.cell? ⟨b, o + (k - 1) * 4, none⟩ = some (.int .i64 (F (k - 1)).id)) := fun h0 => ((hc (k - 1) (by omega)).keep hb).c0
      have ne : Nonempty (Grw wr) := ⟨⟨wr, Below.refl _ _⟩⟩
      have cM := fun p : Grw wr => Calls.grw (rmayVer_any (F k) p.to)
      unfold vv at cM
      clear v
      have HL : Hid (lastId F k < (F k).id → mayV (F k) = true → mayR F (k + 1) = true) := fun p q => mayR_succ hm p q
      have HS : Hid (¬ (lastId F k < (F k).id ∧ mayV (F k) = true) → mayR F n = false) := fun q => mayR_false (k := k + 1) (by omega) (mayR_stop q)
      have HI : Hid (k = 0 → lastId F k = -1) := fun e => by unfold lastId; rw [if_pos e]
      have HJ' : Hid (0 < k → lastId F k = (F (k - 1)).id) := fun e => by unfold lastId; rw [if_neg (by omega)]
      have HP : Hid (mayV (F k) = true → 0 ≤ (F k).id) := mayV_pos
      clear hm hc HV HJ
      generalize lastId F k = l at *
      generalize F (k - 1) = u at *
      generalize F k = v at *
      obtain ⟨vi, vm, vz, vs⟩ := v
      obtain ⟨ui, um, uz, us⟩ := u
      dsimp only at *
      have HBr : Hid (Below W.heap.size W wr) := hb
      clear hb c0 c1
      cases hv : mayV ⟨vi, vm, vz, vs⟩ with
      | false =>
        have HF : Hid (mayR F n = false) := HS.out (fun q => by rw [hv] at q; cases q.2)
        rw [hv] at cM
        clear HS HL hv HI HJ' HP s6
        go_wp2_with fail
        refine wp_region_grw (by kernel_rfl) (by kernel_rfl) ?_
        repeat (go_big_quiet_step ((go_at_call 39; exact cM _)))
        refine wpQuiet_nil ?_
        rintro _ ⟨⟨wx, bx⟩, rfl⟩
        go_wp2
        go_ret
        exact ⟨by rw [HM.out, HF.out]; rfl, hop HB.out (hop HBr.out bx)⟩
      | true =>
        rw [hv] at cM
        have h0i := HP.out hv
        by_cases hk0 : k = 0
        · have HR : Hid (mayR F (k + 1) = true) := HL.out (by rw [HI.out hk0]; omega) hv
          have gk : decide ((0 : Int) < (k : Int)) = false := decide_eq_false (by omega)
          have gkn : decide (0 < k) = false := decide_eq_false (by omega)
          clear HS HL hv HI HJ' HP s6 h0i hk0
          go_wp2_with fail
          refine wp_region_grw (by kernel_rfl) (by kernel_rfl) ?_
          repeat (go_big_quiet_step ((go_at_call 39; exact cM _)))
          refine wpQuiet_nil ?_
          rintro _ ⟨⟨wx, bx⟩, rfl⟩
          go_wp2
          go_round
          case rel => exact ⟨k + 1, by omega, by go_num, HR.out, hop HBr.out bx⟩
          case measure => simp [intOf]; omega
        · have gk : (0 : Int) < (k : Int) := by omega
          have gkn : 0 < k := by omega
          have s6' := fun p => Grw.cell (s6.out (by omega)) p
          have ek : ((k : Int) - 1) = ((k - 1 : Nat) : Int) := by omega
          have hk1 : k - 1 < n := by omega
          have HE : Hid (k - 1 + 1 = k) := by unfold Hid; omega
          have hlu := HJ'.out (by omega)
          by_cases hle : vi ≤ ui
          · have HF : Hid (mayR F n = false) := HS.out (fun q => by omega)
            clear HS HL hv HI HJ' HP s6 h0i hlu hk0
            generalize k - 1 = k1 at *
            have hle2 : decide (vi ≤ ui) = true := decide_eq_true hle
            go_wp2_with fail
            refine wp_region_grw (by kernel_rfl) (by kernel_rfl) ?_
            repeat (go_big_quiet_step ((go_at_call 39; exact cM _)))
            refine wpQuiet_nil ?_
            rintro _ ⟨⟨wx, bx⟩, rfl⟩
            go_wp2
            go_ret
            exact ⟨by rw [HM.out, HF.out]; rfl, hop HB.out (hop HBr.out bx)⟩
          · have HR : Hid (mayR F (k + 1) = true) := HL.out (by omega) hv
            clear HS HL hv HI HJ' HP s6 h0i hlu hk0
            generalize k - 1 = k1 at *
            have hle2 : decide (vi ≤ ui) = false := decide_eq_false hle
            go_wp2_with fail
            refine wp_region_grw (by kernel_rfl) (by kernel_rfl) ?_
            repeat (go_big_quiet_step ((go_at_call 39; exact cM _)))
            refine wpQuiet_nil ?_
            rintro _ ⟨⟨wx, bx⟩, rfl⟩
            go_wp2
            go_round
            case rel => exact ⟨k + 1, by omega, by go_num, HR.out, hop HBr.out bx⟩
            case measure => simp [intOf]; omega
    · have : k = n := by omega
      subst this
      have HF : Hid (mayR F k = true) := hm
      have HB3 : Hid (Below W.heap.size W wr) := hb
      clear hm hb HV HJ
      go_wp2
      go_ret
      exact ⟨by rw [HM.out, HF.out]; rfl, hop HB.out HB3.out⟩
end Go.Proofs.YtigjhdcinaefbaaDoor
