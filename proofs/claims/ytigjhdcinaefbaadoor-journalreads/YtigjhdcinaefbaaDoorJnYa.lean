/-
  What the document's Decode answers: bytes that have no journal's form.
-/
import Derived.Test.YtigjhdcinaefbaaDoorJnY
namespace Go.Proofs.YtigjhdcinaefbaaDoor
open Go.RowKit Crc
attribute [local go_sem ↓] Go.wp_at_zero Go.wp_at_succ
set_option linter.unusedVariables false

set_option maxRecDepth 100000 in
set_option maxHeartbeats 4000000 in
theorem rdecode_noform (a : Option Addr) (n c : Nat) (f : Nat → Nat) (w : World) (h : Row w a n f) (hlo : 15 ≤ n) (hhi : n ≤ 262144) (hc : n ≤ c) (h3 : fit n f) (h4 : ¬ frm n f) :
    Calls Tryd.prog 17 #[.slice a n c] w (RDecEnd n f w) := by
  obtain ⟨W, hbx⟩ : ∃ W, w.alloc (.cells #[.int .i64 0, .string noS, .slice none 0 0] 24) = W := ⟨_, rfl⟩
  have hb : Below w.heap.size w W := by rw [← hbx]; exact bal _ _
  have hd : JB W w.heap.size 0 noS (.slice none 0 0) 24 := by rw [← hbx]; exact heap_alloc_new _ _
  obtain ⟨c0, c1, c2⟩ := hd.at
  have f0 : ∀ j, W.frozen? ⟨w.heap.size, j, none⟩ = false := hd.soft
  have HB : Hid (Below w.heap.size w W) := hb
  have HD : Hid (JB W w.heap.size 0 noS (.slice none 0 0) 24) := hd
  have hR := h.keep hb
  have hwl : w.heap.size < W.heap.size := block_lt_of_cell c0
  clear hb hd
  unfold noS at *
  have g1 : decide ((262144 : Int) < (n : Int)) = false := decide_eq_false (by omega)
  have g2 : decide ((n : Int) < 15) = false := decide_eq_false (by omega)
  have e1 : (n : Int) - 4 = ((n - 4 : Nat) : Int) := by omega
  obtain ⟨A2, s2, r2⟩ := cut_h (c := c) hR (n - 4) (by omega) hc
  obtain ⟨A1, s1, r1⟩ := cut_h (c := c) hR 4 (by omega) hc
  have s1' : ∀ w', Sem.run Tryd.prog (Instr.slice 27 (.slice a n c) none (some (.int .i64 4)) none) w' = .ok (.slice A1 4 c) w' := s1
  have cv : ∀ q, Sem.run Tryd.prog (convert 27 9 (.slice A1 4 c)) (W.drewN q) = .ok (.string (str f 4)) (W.drewN q) := fun q => conv_row (c := c) (r1.keep (bdn W q)) (fun e => absurd e (row_some r1 (by omega)))
  have cG : ∀ q, Calls Tryd.prog 42 #[.slice a n c, .int .i64 ((n - 4 : Nat) : Int), .int .i64 4] (W.drewN q) fun e w' => e = .returned (.int .i64 ((sum (n - 4) f : Nat) : Int)) ∧ w' = W.drewN q := fun q => by
    have := get_any a n c (n - 4) 4 f (W.drewN q) (hR.keep (bdn W q)) (by omega) (by omega) (by omega)
    rw [gvr_four, show le4 (fun i => f (n - 4 + i)) = sum (n - 4) f from h3] at this
    exact this.mono fun e w' ⟨h1, h2⟩ => ⟨h1, h2.symm⟩
  have cS : ∀ q, Calls Tryd.prog 36 #[.slice A2 (n - 4) c] (W.drewN q) fun e w' => e = .returned (.int .u32 ((sum (n - 4) f : Nat) : Int)) ∧ w' = W.drewN q := fun q =>
    (rsum_any A2 (n - 4) c f (W.drewN q) (r2.keep (bdn W q)) (by unfold maxLen; omega)).mono fun e w' ⟨h1, h2⟩ => ⟨h1, h2.symm⟩
  have cK : ∀ q, Calls Tryd.prog 42 #[.slice a n c, .int .i64 8, .int .i64 2] (W.drewN q) fun e w' => e = .returned (.int .i64 ((rk f : Nat) : Int)) ∧ W.drewN q = w' := fun q => by
    have := get_any a n c 8 2 f (W.drewN q) (hR.keep (bdn W q)) (by omega) (by omega) (by omega)
    rw [gvr_two] at this
    exact this
  have lx : sum (n - 4) f < 4294967296 := more_lt (by omega) h.lt
  have lx' : ((sum (n - 4) f : Nat) : Int) < 4294967296 := by omega
  have lk : rk f < 65536 := by have a := h.lt 8; have b := h.lt 9; unfold rk; omega
  have HBad : Hid (JBad n f 4) := .inr (.inr (.inr (.inl ⟨rfl, hlo, hhi, h3, h4⟩)))
  by_cases hm : magic f
  rotate_left
  · have hne : ((str f 4).toList == [83, 66, 74, 49]) = false := by
      rw [ByteArray.toList_eq, beq_eq_false_iff_ne]
      intro e
      exact hm (magic_of h.lt (ByteArray.ext (Array.toList_inj.1 (by simpa using e))))
    clear h hR r1 r2 h3 h4 hm s1 HD
    generalize str f 4 = S at *
    generalize sum (n - 4) f = y at *
    generalize rk f = K at *
    generalize n - 4 = N4 at *
    go_enter Tryd.func17, Tryd.ntmps17
    go_wp2_with fail
    go_quiet (first | (go_at_call 42; refine Calls.quiet_of_same (cG _)) | (go_at_call 36; refine Calls.quiet_of_same (cS _)))
    go_wp2_with fail
    go_at_call 42
    refine (cK _).mono ?_
    rintro e w' ⟨rfl, rfl⟩
    go_wp2_with fail
    exact bodyPost_ret (v := .tuple #[nojn, .int .i64 4]) (by simp [results, Tryd.results17, go_sem, nojn, jv, noS, *]) rfl ⟨hop (below3 HB.out (Nat.le_refl _) _ _ _) (bdn _ _), .inr ⟨4, HBad.out, rfl⟩⟩
  rw [str_sbj f hm] at cv
  by_cases hk : 15 + rk f ≤ n
  rotate_left
  · have g3 : ((n - 4 : Nat) : Int) < 11 + ((rk f : Nat) : Int) := by omega
    clear h hR r1 r2 h3 h4 hm s1 hk HD
    generalize sum (n - 4) f = y at *
    generalize rk f = K at *
    generalize n - 4 = N4 at *
    go_enter Tryd.func17, Tryd.ntmps17
    go_wp2_with fail
    go_quiet (first | (go_at_call 42; refine Calls.quiet_of_same (cG _)) | (go_at_call 36; refine Calls.quiet_of_same (cS _)))
    go_wp2_with fail
    go_at_call 42
    refine (cK _).mono ?_
    rintro e w' ⟨rfl, rfl⟩
    go_wp2_with fail
    exact bodyPost_ret (v := .tuple #[nojn, .int .i64 4]) (by simp [results, Tryd.results17, go_sem, nojn, jv, noS, *]) rfl ⟨hop (below3 HB.out (Nat.le_refl _) _ _ _) (bdn _ _), .inr ⟨4, HBad.out, rfl⟩⟩
  have hcn : n ≠ 15 + rk f + 13 * rc f := fun e => h4 ⟨hm, hk, e⟩
  obtain ⟨b, o, rfl, hA⟩ := hR.lies (by omega)
  have cv0 := hA (10 + rk f) (by omega)
  have lc := h.lt (10 + rk f)
  have HC : Hid (f (10 + rk f) = rc f) := rfl
  rw [HC.out] at cv0 lc
  have g3 : decide (((n - 4 : Nat) : Int) < 11 + ((rk f : Nat) : Int)) = false := decide_eq_false (by omega)
  have g4 : (10 : Int) + ((rk f : Nat) : Int) = ((10 + rk f : Nat) : Int) := by omega
  have g5 : ((10 + rk f : Nat) : Int) < (n : Int) := by omega
  have g6 : 10 + rk f < n := by omega
  have g7 : (((n - 4 : Nat) : Int) != 11 + ((rk f : Nat) : Int) + 13 * ((rc f : Nat) : Int)) = true := by rw [bne_iff_ne]; omega
  have lc' : rc f < 256 := lc
  clear h hR r1 r2 h3 h4 hm s1 hk HD hA HC hcn
  generalize sum (n - 4) f = y at *
  generalize 10 + rk f = K3 at *
  generalize rk f = K at *
  generalize rc f = C at *
  generalize n - 4 = N4 at *
  go_enter Tryd.func17, Tryd.ntmps17
  go_wp2_with fail
  go_quiet (first | (go_at_call 42; refine Calls.quiet_of_same (cG _)) | (go_at_call 36; refine Calls.quiet_of_same (cS _)))
  go_wp2_with fail
  go_at_call 42
  refine (cK _).mono ?_
  rintro e w' ⟨rfl, rfl⟩
  go_wp2_with fail
  exact bodyPost_ret (v := .tuple #[nojn, .int .i64 4]) (by simp [results, Tryd.results17, go_sem, nojn, jv, noS, *]) rfl ⟨hop (below3 HB.out (Nat.le_refl _) _ _ _) (bdn _ _), .inr ⟨4, HBad.out, rfl⟩⟩
end Go.Proofs.YtigjhdcinaefbaaDoor
