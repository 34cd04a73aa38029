/-
  What journal.readNumber, readVersions do.
-/
import Derived.Test.YtfgngecenbopnaaDoorJnO
import Derived.Test.YtfgngecenbopnaaDoorPrt
namespace Go.Proofs.YtfgngecenbopnaaDoor
open Go.RowKit Crc
attribute [local go_sem ↓] Go.wp_at_zero Go.wp_at_succ
set_option linter.unusedVariables false

theorem bdn (w : World) (n : Nat) : Below w.heap.size w (w.drewN n) := below_drewN (Below.refl _ _) n
set_option maxRecDepth 100000 in
theorem readNum_q (a : Option Addr) (m c : Nat) (f : Nat → Nat) (w : World) (h : Row w a m f) (hm : 4 ≤ m) (hm2 : m ≤ maxLen) :
    Calls Tryd.prog 29 #[.slice a m c] w fun e w' => e = .returned (.int .u32 (le4 f : Nat)) ∧ ∃ k, w' = w.drewN k := by
  unfold maxLen at hm2
  obtain ⟨b, o, rfl, hc⟩ := h.lies (by omega)
  have c0 := hc 0 (by omega)
  have c1 := hc 1 (by omega)
  have c2 := hc 2 (by omega)
  have c3 := hc 3 (by omega)
  simp only [Nat.add_zero] at c0
  have l0 := h.lt 0
  have l1 := h.lt 1
  have l2 := h.lt 2
  have l3 := h.lt 3
  have o1 : bits .or .u32 ((f 0 : Nat) : Int) (((f 1 : Nat) : Int) * 256) = ((f 0 + f 1 * 256 : Nat) : Int) := or_hi (f 0) (f 1) 8 (by omega) (by omega) (by omega)
  have o2 : bits .or .u32 ((f 0 + f 1 * 256 : Nat) : Int) (((f 2 : Nat) : Int) * 65536) = ((f 0 + f 1 * 256 + f 2 * 65536 : Nat) : Int) := or_hi _ (f 2) 16 (by omega) (by omega) (by omega)
  have o3 : bits .or .u32 ((f 0 + f 1 * 256 + f 2 * 65536 : Nat) : Int) (((f 3 : Nat) : Int) * 16777216) = ((f 0 + f 1 * 256 + f 2 * 65536 + f 3 * 16777216 : Nat) : Int) := or_hi _ (f 3) 24 (by omega) (by omega) (by omega)
  have HZ : Hid (f 0 + f 1 * 256 + f 2 * 65536 + f 3 * 16777216 = le4 f) := by unfold Hid le4; omega
  have j0 : (0 : Int) < (m : Int) := by omega
  have j0' : 0 < m := by omega
  have j1 : (1 : Int) < (m : Int) := by omega
  have j2 : (2 : Int) < (m : Int) := by omega
  have j3 : (3 : Int) < (m : Int) := by omega
  generalize f 0 + f 1 * 256 + f 2 * 65536 + f 3 * 16777216 = z3 at *
  generalize f 0 + f 1 * 256 + f 2 * 65536 = z2 at *
  generalize f 0 + f 1 * 256 = z1 at *
  clear hc h
  go_enter Tryd.func29, Tryd.ntmps29
  go_wp2
  go_quiet (fail)
  go_wp2
  go_ret
  exact ⟨by rw [← HZ.out]; rfl, _, rfl⟩
/-- The versions that are read from p on. -/
def rvs (f : Nat → Nat) : Nat → Ver := fun i => rv f (13 * i)
theorem rvs_fits {f : Nat → Nat} (hf : ∀ i, f i < 256) (i : Nat) : (rvs f i).fits := by
  have h1 := le4_lt (g := fun j => f (13 * i + j)) (fun j => hf _)
  have h2 := le4_lt (g := fun j => f (13 * i + 5 + j)) (fun j => hf _)
  have h3 := le4_lt (g := fun j => f (13 * i + 9 + j)) (fun j => hf _)
  exact ⟨by show _ ≤ ((le4 _ : Nat) : Int); omega, by show ((le4 _ : Nat) : Int) ≤ _; omega, by show _ ≤ ((le4 _ : Nat) : Int); omega, by show ((le4 _ : Nat) : Int) ≤ _; omega, h3⟩
/-- The first k of rvs, the rest zero. -/
def rvk (f : Nat → Nat) (k : Nat) : Nat → Ver := fun i => if i < k then rvs f i else zeroV

set_option maxRecDepth 100000 in
set_option maxHeartbeats 4000000 in
theorem readVers_any (a : Option Addr) (m c n : Nat) (f : Nat → Nat) (w : World) (h : Row w a m f) (hm : 13 * n + 4 ≤ m) (hm2 : m ≤ 262144) (hc : m ≤ c) :
    Calls Tryd.prog 28 #[.slice a m c, .int .i64 (n : Int)] w fun e w' => Below w.heap.size w w' ∧
      ((mks f 0 n = true ∧ e = .returned (.tuple #[.slice (some ⟨w.heap.size, 0, none⟩) n n, .bool true]) ∧ VB w' w.heap.size n (rvs f)) ∨
       (mks f 0 n = false ∧ e = .returned (.tuple #[.slice none 0 0, .bool false]))) := by
  obtain ⟨X0, mk, vb0, b0⟩ := makeV w n (by omega)
  have HR : Hid (Row w a m f) := h
  have HB0 : Hid (Below w.heap.size w X0) := b0
  have HV0 : Hid (VB X0 w.heap.size n (fun _ => zeroV)) := vb0
  clear h b0 vb0
  go_enter Tryd.func28, Tryd.ntmps28
  go_wp2
  clear mk
  go_loopw [14] (fun i wr => ∃ k : Nat, k ≤ n ∧ i = .int .i64 k ∧ mks f 0 k = true ∧ VB wr w.heap.size n (rvk f k) ∧ Below w.heap.size w wr) (fun i _ => n - (intOf i).toNat)
  case atStart => exact ⟨0, by omega, rfl, rfl, HV0.out, HB0.out⟩
  case round =>
    obtain ⟨k, hk, rfl, hM, hV, hb⟩ := hrel
    clear HV0 HB0
    by_cases hlt : k < n
    · have ik : (k : Int) < (n : Int) := by omega
      obtain ⟨A, sA, rA⟩ := cut_l (c := c) HR.out (13 * k) (by omega) hc
      obtain ⟨b, o, eA, hA⟩ := rA.lies (by omega)
      subst eA
      have c4 := (hb.cell (p := ⟨b, o + 4, none⟩) (block_lt_of_cell (hA 4 (by omega)))).trans (hA 4 (by omega))
      have l4 := rA.lt 4
      have sA' : ∀ w', Sem.run Tryd.prog (Instr.slice 22 (.slice a m c) (some (.int .i64 ((k : Int) * 13))) none none) w' = .ok (.slice (some ⟨b, o, none⟩) (m - 13 * k) (c - 13 * k)) w' := fun w' => by
        rw [← sA w', show (k : Int) * 13 = ((13 * k : Nat) : Int) by omega]
      clear sA
      have j4 : (4 : Int) < ((m - 13 * k : Nat) : Int) := by omega
      by_cases hmk : f (13 * k + 4) ≤ 1
      · have g1 : decide ((1 : Int) < ((f (13 * k + 4) : Nat) : Int)) = false := decide_eq_false (by omega)
        obtain ⟨A5, s5, r5⟩ := cut_l (c := c - 13 * k) rA 5 (by omega) (by omega)
        obtain ⟨A9, s9, r9⟩ := cut_l (c := c - 13 * k) rA 9 (by omega) (by omega)
        have s5' : ∀ w', Sem.run Tryd.prog (Instr.slice 22 (.slice (some ⟨b, o, none⟩) (m - 13 * k) (c - 13 * k)) (some (.int .i64 5)) none none) w' = .ok (.slice A5 (m - 13 * k - 5) (c - 13 * k - 5)) w' := s5
        have s9' : ∀ w', Sem.run Tryd.prog (Instr.slice 22 (.slice (some ⟨b, o, none⟩) (m - 13 * k) (c - 13 * k)) (some (.int .i64 9)) none none) w' = .ok (.slice A9 (m - 13 * k - 9) (c - 13 * k - 9)) w' := s9
        have c0 : ∀ q, Calls Tryd.prog 29 #[.slice (some ⟨b, o, none⟩) (m - 13 * k) (c - 13 * k)] (wr.drewN q) fun e w' => e = .returned (.int .u32 ((le4 (fun i => f (13 * k + i)) : Nat) : Int)) ∧ ∃ z, w' = wr.drewN z := fun q => Calls.quiet_of (readNum_q _ _ _ _ _ (rA.keep (hop hb (bdn wr q))) (by omega) (by unfold maxLen; omega))
        have c5 : ∀ q, Calls Tryd.prog 29 #[.slice A5 (m - 13 * k - 5) (c - 13 * k - 5)] (wr.drewN q) fun e w' => e = .returned (.int .u32 ((le4 (fun i => f (13 * k + 5 + i)) : Nat) : Int)) ∧ ∃ z, w' = wr.drewN z := fun q => by
          have := Calls.quiet_of (readNum_q _ _ (c - 13 * k - 5) _ _ (r5.keep (hop hb (bdn wr q))) (by omega) (by unfold maxLen; omega))
          simpa only [Nat.add_assoc] using this
        have c9 : ∀ q, Calls Tryd.prog 29 #[.slice A9 (m - 13 * k - 9) (c - 13 * k - 9)] (wr.drewN q) fun e w' => e = .returned (.int .u32 ((le4 (fun i => f (13 * k + 9 + i)) : Nat) : Int)) ∧ ∃ z, w' = wr.drewN z := fun q => by
          have := Calls.quiet_of (readNum_q _ _ (c - 13 * k - 9) _ _ (r9.keep (hop hb (bdn wr q))) (by omega) (by unfold maxLen; omega))
          simpa only [Nat.add_assoc] using this
        have hlt0 := le4_lt (g := fun i => f (13 * k + i)) (fun i => HR.out.lt _)
        have hlt5 := le4_lt (g := fun i => f (13 * k + 5 + i)) (fun i => HR.out.lt _)
        have hlt9 := le4_lt (g := fun i => f (13 * k + 9 + i)) (fun i => HR.out.lt _)
        have hV' := hV.put hlt (rvs f k)
        have HV' : Hid (VB ((((wr.setCell ⟨w.heap.size, k * 4, none⟩ (.int .i64 ((le4 (fun i => f (13 * k + i)) : Nat) : Int))).setCell ⟨w.heap.size, k * 4 + 1, none⟩ (.bool (decide (f (13 * k + 4) = 1)))).setCell ⟨w.heap.size, k * 4 + 2, none⟩ (.int .i64 ((le4 (fun i => f (13 * k + 5 + i)) : Nat) : Int))).setCell ⟨w.heap.size, k * 4 + 3, none⟩ (.int .u32 ((le4 (fun i => f (13 * k + 9 + i)) : Nat) : Int))) w.heap.size n (rvk f (k + 1))) := by
          refine hV'.congr fun i hi => ?_
          unfold rvk
          by_cases e : i = k
          · subst e; rw [upd_at, if_pos (by omega)]
          · rw [upd_ne _ _ e]
            by_cases e2 : i < k
            · rw [if_pos e2, if_pos (by omega)]
            · rw [if_neg e2, if_neg (by omega)]
        have HBW : Hid (Below w.heap.size w ((((wr.setCell ⟨w.heap.size, k * 4, none⟩ (.int .i64 ((le4 (fun i => f (13 * k + i)) : Nat) : Int))).setCell ⟨w.heap.size, k * 4 + 1, none⟩ (.bool (decide (f (13 * k + 4) = 1)))).setCell ⟨w.heap.size, k * 4 + 2, none⟩ (.int .i64 ((le4 (fun i => f (13 * k + 5 + i)) : Nat) : Int))).setCell ⟨w.heap.size, k * 4 + 3, none⟩ (.int .u32 ((le4 (fun i => f (13 * k + 9 + i)) : Nat) : Int)))) :=
          (((hb.setCell (p := ⟨w.heap.size, _, none⟩) (Nat.le_refl _) _).setCell (p := ⟨w.heap.size, _, none⟩) (Nat.le_refl _) _).setCell (p := ⟨w.heap.size, _, none⟩) (Nat.le_refl _) _).setCell (p := ⟨w.heap.size, _, none⟩) (Nat.le_refl _) _
        have HM' : Hid (mks f 0 (k + 1) = true) := mks_succ hM (by rw [Nat.zero_add]; exact hmk)
        obtain ⟨u0, u1, u2, u3⟩ := hV.at hlt
        have f0 := hV.soft (k * 4)
        have f1 := hV.soft (k * 4 + 1)
        have f2 := hV.soft (k * 4 + 2)
        have f3 := hV.soft (k * 4 + 3)
        have eD : (((f (13 * k + 4) : Nat) : Int) == 1) = decide (f (13 * k + 4) = 1) := by
          by_cases e : f (13 * k + 4) = 1
          · rw [e]; rfl
          · rw [decide_eq_false e]; simp; omega
        have ne : Nonempty Nat := ⟨0⟩
        clear hV hV' hM hb rA r5 r9 hA s5 s9 hmk
        generalize decide (f (13 * k + 4) = 1) = dm at *
        generalize le4 (fun i => f (13 * k + i)) = x0 at *
        generalize le4 (fun i => f (13 * k + 5 + i)) = x5 at *
        generalize le4 (fun i => f (13 * k + 9 + i)) = x9 at *
        generalize f (13 * k + 4) = x4 at *
        generalize m - 13 * k = L at *
        generalize c - 13 * k = Cc at *
        go_wp2_with fail
        refine region_head (C := fun w' => ∃ q, w' = wr.drewN q) 16 (by kernel_rfl) (by kernel_rfl) ⟨1, rfl⟩ ?_
        simp only [List.take_succ_cons, List.take_zero, List.drop_succ_cons, List.drop_zero]
        repeat (go_big_quiet_step ((go_at_call 29; with_reducible first | exact c0 _ | exact c5 _ | exact c9 _)))
        refine wpQuiet_nil ?_
        rintro _ ⟨q, rfl⟩
        go_wp2
        go_round
        case rel => exact ⟨k + 1, by omega, by go_num, HM'.out, HV'.out.keep (bdn _ q), hop HBW.out (bdn _ q)⟩
        case measure => simp [intOf]; omega
      · have g1 : (1 : Int) < ((f (13 * k + 4) : Nat) : Int) := by omega
        have HF : Hid (mks f 0 n = false) := mks_stop hlt (by rw [Nat.zero_add]; omega)
        have HBr : Hid (Below w.heap.size w wr) := hb
        clear hV hM hb rA hA hmk
        generalize f (13 * k + 4) = x4 at *
        generalize m - 13 * k = L at *
        generalize c - 13 * k = Cc at *
        go_wp2
        go_ret2
        exact ⟨HBr.out, .inr ⟨HF.out, rfl⟩⟩
    · have : k = n := by omega
      subst this
      have HM : Hid (mks f 0 k = true) := hM
      have HBr : Hid (Below w.heap.size w wr) := hb
      have HV : Hid (VB wr w.heap.size k (rvs f)) := hV.congr fun i hi => by unfold rvk; rw [if_pos hi]
      clear hV hM hb
      go_wp2
      go_ret2
      exact ⟨HBr.out, .inl ⟨HM.out, rfl, HV.out⟩⟩
end Go.Proofs.YtfgngecenbopnaaDoor
