/-
  The document's own code in memory: New, even, and the sum of rows that is made step by step.
-/
import Derived.Test.YtbfhmdphhhjlnaaRadd
import Derived.Test.YtbfhmdphhhjlnaaRSys
namespace Go.Proofs.Ytbfhmdphhhjlnaa
open Go.RowKit Gf
attribute [local go_sem ↓] Go.wp_at_zero Go.wp_at_succ

/-- At p lies the document's code of k rows of data and m of parity, whose matrix is S. -/
structure RCode (w : World) (p k m N : Nat) (S : Nat → Nat → Nat) : Prop where
  k1 : 1 ≤ k
  m1 : 1 ≤ m
  km : k + m = N
  N2 : N ≤ 255
  sys : IsSys k S
  ex : ∃ h xc A C, w.cell? ⟨p, 0, none⟩ = some (.int .i64 k) ∧ w.cell? ⟨p, 1, none⟩ = some (.int .i64 m) ∧ w.cell? ⟨p, 2, none⟩ = some (.slice (some h) N xc) ∧ Mat w (some h) N A (fun _ => k) C S

theorem RCode.keep {w w' : World} {p k m N : Nat} {S : Nat → Nat → Nat} (c : RCode w p k m N S) (hb : Below w.heap.size w w') : RCode w' p k m N S := by
  obtain ⟨h, xc, A, C, c0, c1, c2, mS⟩ := c.ex
  exact ⟨c.k1, c.m1, c.km, c.N2, c.sys, h, xc, A, C, (hb.cell (p := ⟨p, 0, none⟩) (block_lt_of_cell c0)).trans c0, (hb.cell (p := ⟨p, 1, none⟩) (block_lt_of_cell c1)).trans c1, (hb.cell (p := ⟨p, 2, none⟩) (block_lt_of_cell c2)).trans c2, mS.keep hb⟩
theorem RCode.drewN {w : World} {p k m N : Nat} {S : Nat → Nat → Nat} (c : RCode w p k m N S) (n : Nat) : RCode (w.drewN n) p k m N S := by
  obtain ⟨h, xc, A, C, c0, c1, c2, mS⟩ := c.ex
  exact ⟨c.k1, c.m1, c.km, c.N2, c.sys, h, xc, A, C, c0, c1, c2, mS.drewN n⟩

set_option maxRecDepth 100000 in
set_option maxHeartbeats 1000000 in
theorem refnew_yes (k m : Nat) (w : World) (k1 : 1 ≤ k) (m1 : 1 ≤ m) (hkm : k + m ≤ 255) :
    Calls Try.prog 15 #[.int .i64 k, .int .i64 m] w fun e w' => ∃ p S, e = .returned (.tuple #[.pointer (some ⟨p, 0, none⟩), .int .i64 0]) ∧ w.heap.size ≤ p ∧ RCode w' p k m (k + m) S ∧ Below w.heap.size w w' := by
  have cS := rsystematic_yes k m w k1 m1 hkm
  obtain ⟨N, hN⟩ : ∃ N, N = k + m := ⟨_, rfl⟩
  rw [← hN] at cS hkm ⊢
  have HN : Hid (N = k + m) := hN
  clear hN
  go_enter Try.func15, Try.ntmps15
  go_wp2_with fail
  go_at_call 36
  refine cS.mono ?_
  rintro e w1 ⟨v, X, base, rfl, iv, lX, ⟨A, C, bl⟩, b1⟩
  obtain ⟨h, c', rfl, _⟩ := bl.form2 (by have := HN.out; omega)
  have HI : Hid (IsInv k V X) := iv
  have HX : Hid (B X) := lX
  have HM : Hid (Mat w1 (some h) N A (fun _ => k) C (mm k V X)) := bl.mat (fun _ => by have := HN.out; omega) (mm_B V_B)
  clear cS iv lX bl
  go_wp2
  go_ret2
  have b2 : Below w1.heap.size w1 (w1.alloc (.cells #[.int .i64 (k : Int), .int .i64 (m : Int), .slice (some h) N c'] 73)) := bal _ _
  refine ⟨w1.heap.size, mm k V X, rfl, b1.size, ⟨k1, m1, HN.out.symm, hkm, ⟨X, HI.out, HX.out, rfl⟩, h, c', A, C, ?_, ?_, ?_, HM.out.keep b2⟩, hop b1 b2⟩
  all_goals (rw [World.cell?_alloc_new]; rfl)

set_option maxRecDepth 100000 in
theorem rsystematic_no (k m : Int) (w : World) (k30 : k ≤ 30) (m30 : m ≤ 30) (hno : ¬ (1 ≤ k ∧ 1 ≤ m)) :
    Calls Try.prog 36 #[.int .i64 k, .int .i64 m] w fun e w' => e = .returned (.tuple #[.slice none 0 0, .bool false]) ∧ w = w' := by
  by_cases h1 : k < 1
  · have g : decide (k < 1) = true := decide_eq_true h1
    clear hno
    go_enter Try.func36, Try.ntmps36
    go_wp2
    go_ret2
    exact ⟨rfl, rfl⟩
  · have h2 : m < 1 := by omega
    have g : decide (k < 1) = false := decide_eq_false h1
    have g2 : decide (m < 1) = true := decide_eq_true h2
    clear hno
    go_enter Try.func36, Try.ntmps36
    go_wp2
    go_ret2
    exact ⟨rfl, rfl⟩

set_option maxRecDepth 100000 in
theorem refnew_no (k m : Int) (w : World) (k30 : k ≤ 30) (m30 : m ≤ 30) (hno : ¬ (1 ≤ k ∧ 1 ≤ m)) :
    Calls Try.prog 15 #[.int .i64 k, .int .i64 m] w fun e w' => e = .returned (.tuple #[.pointer none, .int .i64 1]) ∧ w = w' := by
  have cS := rsystematic_no k m w k30 m30 hno
  clear hno
  go_enter Try.func15, Try.ntmps15
  go_wp2_with fail
  go_at_call 36
  refine cS.mono ?_
  rintro e w1 ⟨rfl, rfl⟩
  go_wp2
  go_ret2
  exact ⟨rfl, rfl⟩

set_option maxRecDepth 100000 in
theorem even_yes (a : Option Addr) (n c : Nat) (A : Nat → Option Addr) (L C : Nat → Nat) (F : Nat → Nat → Nat) (w : World) (h : Mat w a n A L C F) (hn : n ≤ 9223372036854775807) (hq : ∀ i, i < n → L i = L 0) :
    Calls Try.prog 37 #[.slice a n c] w fun e w' => e = .returned (.bool true) ∧ ∃ q, w' = w.drewN q := by
  have H : Hid (Mat w a n A L C F) := h
  have HQ : Hid (∀ i, i < n → L i = L 0) := hq
  clear h hq
  go_enter Try.func37, Try.ntmps37
  go_wp2
  go_loopw [3] (fun v wr => ∃ k q : Nat, k ≤ n ∧ v = .int .i64 k ∧ wr = w.drewN q) (fun v _ => n - (intOf v).toNat)
  case atStart => exact ⟨0, 0, by omega, rfl, rfl⟩
  case round =>
    obtain ⟨k, q, hk, rfl, rfl⟩ := hrel
    by_cases hlt : k < n
    · obtain ⟨b, o, rfl, hc⟩ := H.out.lies (by omega)
      have c0 := hc 0 (by omega)
      simp only [Nat.add_zero] at c0
      have ck := hc k hlt
      rw [HQ.out k hlt] at ck
      have ik : (k : Int) < (n : Int) := by omega
      have i0 : (0 : Int) < (n : Int) := by omega
      clear hc H HQ
      generalize A k = ak at *
      generalize C k = cck at *
      generalize A 0 = a0 at *
      generalize C 0 = cc0 at *
      generalize L 0 = l at *
      go_wp2
      go_quiet (fail)
      go_wp2
      go_round
      case rel => exact ⟨k + 1, _, by omega, by go_num, rfl⟩
      case measure => simp [intOf]; omega
    · have : k = n := by omega
      subst this
      go_wp2
      go_ret
      exact ⟨rfl, _, rfl⟩

set_option maxRecDepth 100000 in
theorem even_no (a : Option Addr) (n c : Nat) (A : Nat → Option Addr) (L C : Nat → Nat) (F : Nat → Nat → Nat) (w : World) (h : Mat w a n A L C F) (hn : n ≤ 9223372036854775807) (hq : ¬ ∀ i, i < n → L i = L 0) :
    Calls Try.prog 37 #[.slice a n c] w fun e w' => e = .returned (.bool false) ∧ ∃ q, w' = w.drewN q := by
  have H : Hid (Mat w a n A L C F) := h
  have HN : Hid (¬ ∀ i, i < n → L i = L 0) := hq
  clear h hq
  go_enter Try.func37, Try.ntmps37
  go_wp2
  go_loopw [3] (fun v wr => ∃ k q : Nat, k ≤ n ∧ v = .int .i64 k ∧ wr = w.drewN q ∧ ∀ i, i < k → L i = L 0) (fun v _ => n - (intOf v).toNat)
  case atStart => exact ⟨0, 0, by omega, rfl, rfl, fun i hi => absurd hi (by omega)⟩
  case round =>
    obtain ⟨k, q, hk, rfl, rfl, hsame⟩ := hrel
    by_cases hlt : k < n
    · obtain ⟨b, o, rfl, hc⟩ := H.out.lies (by omega)
      have c0 := hc 0 (by omega)
      simp only [Nat.add_zero] at c0
      have ck := hc k hlt
      have lk := H.out.le k
      have l0 := H.out.le 0
      have ik : (k : Int) < (n : Int) := by omega
      have i0 : (0 : Int) < (n : Int) := by omega
      by_cases he : L k = L 0
      · have HS : Hid (∀ i, i < k + 1 → L i = L 0) := fun i hi => by
          by_cases e : i = k
          · rw [e]; exact he
          · exact hsame i (by omega)
        rw [he] at ck
        clear hc H HN hsame he lk
        generalize A k = ak at *
        generalize C k = cck at *
        generalize A 0 = a0 at *
        generalize C 0 = cc0 at *
        obtain ⟨l, hl⟩ : ∃ l, L 0 = l := ⟨_, rfl⟩
        rw [hl] at ck c0 l0
        clear hl
        go_wp2
        go_quiet (fail)
        go_wp2
        go_round
        case rel => exact ⟨k + 1, _, by omega, by go_num, rfl, HS.out⟩
        case measure => simp [intOf]; omega
      · have he' : ((L k : Nat) : Int) ≠ ((L 0 : Nat) : Int) := by omega
        clear hc H HN hsame he
        generalize A k = ak at *
        generalize C k = cck at *
        generalize A 0 = a0 at *
        generalize C 0 = cc0 at *
        generalize L k = lk at *
        generalize L 0 = l at *
        go_wp2
        go_quiet (fail)
        go_wp2
        go_ret
        exact ⟨rfl, q + nq, by simp [World.drewN, Nat.add_assoc]⟩
    · have : k = n := by omega
      subst this
      exact absurd hsame HN.out

/-- One step of a sum. -/
theorem radd_comb (t l c0 c1 : Nat) (a0 a1 : Option Addr) (ff : Nat → Nat) (H : Nat → Nat → Nat) (w : World) (hf : ∀ i, ff i < 256) (h0 : Row w a0 l (comb t ff H)) (h1 : Row w a1 l (H t)) (hnil : a0 = none → l = 0 ∧ c0 = 0) (hl : l ≤ 140737488355328) :
    Calls Try.prog 21 #[.slice a0 l c0, .slice a1 l c1, .int .u8 ((ff t : Nat) : Int)] w fun e w' => ∃ a' c', e = .returned (.slice a' l c') ∧ Row w' a' l (comb (t + 1) ff H) ∧ (a' = none → l = 0 ∧ c' = 0) ∧ (∀ ad, a' = some ad → w.heap.size ≤ ad.block) ∧ Below w.heap.size w w' := by
  refine (radd_any (ff t) l c0 l c1 a0 a1 (comb t ff H) (H t) w (hf t) h0 h1 hnil hl hl).mono ?_
  rintro e w' ⟨a', c', rfl, hr, hn, hk, hb⟩
  exact ⟨a', c', rfl, hr.congr (fun j hj => by rw [if_pos hj]; rfl) (fun j => comb_lt hf j), hn, hk, hb⟩
end Go.Proofs.Ytbfhmdphhhjlnaa
