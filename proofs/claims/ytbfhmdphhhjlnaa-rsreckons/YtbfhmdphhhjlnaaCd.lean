/-
  A code in memory; what rs.New, made, N, K, copied and alike do.
-/
import Derived.Test.YtbfhmdphhhjlnaaHold
import Derived.Test.YtbfhmdphhhjlnaaSyM
namespace Go.Proofs.Ytbfhmdphhhjlnaa
open Go.RowKit Gf
attribute [local go_sem ↓] Go.wp_at_zero Go.wp_at_succ

/-- At p lies a code of k rows of data, N in all, whose matrix is S. -/
structure Code (w : World) (p k N : Nat) (S : Nat → Nat → Nat) : Prop where
  k1 : 1 ≤ k
  kN : k < N
  N2 : N ≤ 255
  sys : IsSys k S
  ex : ∃ h b A C, w.cell? ⟨p, 0, none⟩ = some (.int .i64 k) ∧ w.cell? ⟨p, 1, none⟩ = some (.slice (some ⟨h, 0, none⟩) N N) ∧ w.cell? ⟨p, 2, none⟩ = some (.pointer (some ⟨b, 0, none⟩)) ∧ Mat w (some ⟨h, 0, none⟩) N A (fun _ => k) C S ∧ Tab w b

theorem Code.keep {w w' : World} {p k N : Nat} {S : Nat → Nat → Nat} (c : Code w p k N S) (hb : Below w.heap.size w w') : Code w' p k N S := by
  obtain ⟨h, b, A, C, c0, c1, c2, m, t⟩ := c.ex
  exact ⟨c.k1, c.kN, c.N2, c.sys, h, b, A, C, (hb.cell (p := ⟨p, 0, none⟩) (block_lt_of_cell c0)).trans c0, (hb.cell (p := ⟨p, 1, none⟩) (block_lt_of_cell c1)).trans c1, (hb.cell (p := ⟨p, 2, none⟩) (block_lt_of_cell c2)).trans c2, m.keep hb, t.keep hb (block_lt_of_cell t.one)⟩
theorem Code.drewN {w : World} {p k N : Nat} {S : Nat → Nat → Nat} (c : Code w p k N S) (n : Nat) : Code (w.drewN n) p k N S := by
  obtain ⟨h, b, A, C, c0, c1, c2, m, t⟩ := c.ex
  exact ⟨c.k1, c.kN, c.N2, c.sys, h, b, A, C, c0, c1, c2, m.drewN n, t.drewN n⟩

set_option maxRecDepth 100000 in
theorem made_any (p k N : Nat) (S : Nat → Nat → Nat) (w : World) (c : Code w p k N S) :
    Calls Try.prog 26 #[.pointer (some ⟨p, 0, none⟩)] w fun e w' => e = .returned (.bool true) ∧ w = w' := by
  obtain ⟨h, b, A, C, c0, _⟩ := c.ex
  have k1 := c.k1
  have g1 : decide (0 < k) = true := decide_eq_true (by omega)
  clear c
  go_enter Try.func26, Try.ntmps26
  go_wp2
  go_ret
  exact ⟨rfl, rfl⟩

set_option maxRecDepth 100000 in
theorem N_any (p k N : Nat) (S : Nat → Nat → Nat) (w : World) (c : Code w p k N S) :
    Calls Try.prog 22 #[.pointer (some ⟨p, 0, none⟩)] w fun e w' => e = .returned (.int .i64 N) ∧ w = w' := by
  have cM := made_any p k N S w c
  obtain ⟨h, b, A, C, c0, c1, _⟩ := c.ex
  clear c
  go_enter Try.func22, Try.ntmps22
  go_wp2_with fail
  go_at_call 26
  refine cM.mono ?_
  rintro e w' ⟨rfl, rfl⟩
  go_wp2
  go_ret
  exact ⟨rfl, rfl⟩

set_option maxRecDepth 100000 in
theorem K_any (p k N : Nat) (S : Nat → Nat → Nat) (w : World) (c : Code w p k N S) :
    Calls Try.prog 23 #[.pointer (some ⟨p, 0, none⟩)] w fun e w' => e = .returned (.int .i64 k) ∧ w = w' := by
  have cM := made_any p k N S w c
  obtain ⟨h, b, A, C, c0, c1, _⟩ := c.ex
  clear c
  go_enter Try.func23, Try.ntmps23
  go_wp2_with fail
  go_at_call 26
  refine cM.mono ?_
  rintro e w' ⟨rfl, rfl⟩
  go_wp2
  go_ret
  exact ⟨rfl, rfl⟩

set_option maxRecDepth 100000 in
set_option maxHeartbeats 1000000 in
theorem rnew_yes (k m : Nat) (w : World) (k1 : 1 ≤ k) (m1 : 1 ≤ m) (hkm : k + m ≤ 255) :
    Calls Try.prog 10 #[.int .i64 k, .int .i64 m] w fun e w' => ∃ p S, e = .returned (.tuple #[.pointer (some ⟨p, 0, none⟩), .int .i64 0]) ∧ w.heap.size ≤ p ∧ Code w' p k (k + m) S ∧ Below w.heap.size w w' := by
  have cS := systematic_yes k m w k1 m1 hkm
  obtain ⟨N, hN⟩ : ∃ N, N = k + m := ⟨_, rfl⟩
  rw [← hN] at cS hkm ⊢
  have HN : Hid (N = k + m) := hN
  clear hN
  go_enter Try.func10, Try.ntmps10
  go_wp2_with fail
  go_at_call 24
  refine cS.mono ?_
  rintro e w1 ⟨h, X, rfl, hh, iv, lX, ⟨A, C, mX, _, _⟩, b1⟩
  have HI : Hid (IsInv k V X) := iv
  have HX : Hid (B X) := lX
  have HM : Hid (Mat w1 (some ⟨h, 0, none⟩) N A (fun _ => k) C (mm k V X)) := mX
  clear cS iv lX mX
  go_wp2_with fail
  go_at_call 25
  refine (new_any _).mono ?_
  rintro e w2 ⟨rfl, hu, b2⟩
  have HT : Hid (Tab w2 w1.heap.size) := hu.tab
  clear hu
  go_wp2
  go_ret2
  have b12 : Below w1.heap.size w1 (w2.alloc (.cells #[.int .i64 (k : Int), .slice (some ⟨h, 0, none⟩) N N, .pointer (some ⟨w1.heap.size, 0, none⟩)] 60)) := b2.alloc b2.size _
  have b3 : Below w2.heap.size w2 (w2.alloc (.cells #[.int .i64 (k : Int), .slice (some ⟨h, 0, none⟩) N N, .pointer (some ⟨w1.heap.size, 0, none⟩)] 60)) := (Below.refl _ _).alloc (Nat.le_refl _) _
  refine ⟨w2.heap.size, mm k V X, rfl, Nat.le_trans b1.size b2.size, ⟨k1, by have := HN.out; omega, hkm, ⟨X, HI.out, HX.out, rfl⟩, h, w1.heap.size, A, C, ?_, ?_, ?_, HM.out.keep b12, HT.out.keep b3 (block_lt_of_cell HT.out.one)⟩, b1.trans (b12.mono b1.size)⟩
  all_goals (rw [World.cell?_alloc_new]; rfl)

set_option maxRecDepth 100000 in
theorem rnew_no (k m : Int) (w : World) (hm : m ≤ 9223372036854775807) (hno : ¬ (1 ≤ k ∧ 1 ≤ m ∧ k + m ≤ 255)) :
    Calls Try.prog 10 #[.int .i64 k, .int .i64 m] w fun e w' => e = .returned (.tuple #[.pointer none, .int .i64 1]) ∧ w = w' := by
  have cS := systematic_no k m w hm hno
  clear hno
  go_enter Try.func10, Try.ntmps10
  go_wp2_with fail
  go_at_call 24
  refine cS.mono ?_
  rintro e w1 ⟨rfl, rfl⟩
  go_wp2
  go_ret2
  exact ⟨rfl, rfl⟩

set_option maxRecDepth 100000 in
theorem copied_any (a : Option Addr) (n c : Nat) (f : Nat → Nat) (w : World) (h : Row w a n f) (hnil : a = none → n = 0 ∧ c = 0) (hl : n ≤ 140737488355328) :
    Calls Try.prog 28 #[.slice a n c] w fun e w' => ∃ g c', e = .returned (.slice (some ⟨g, 0, none⟩) n c') ∧ Row w' (some ⟨g, 0, none⟩) n f ∧ w.heap.size ≤ g ∧ Below w.heap.size w w' := by
  obtain ⟨W, hW⟩ : ∃ W, W = w.alloc (.cells #[] 5) := ⟨_, rfl⟩
  have hb : Below w.heap.size w W := by rw [hW]; exact (Below.refl _ _).alloc (Nat.le_refl _) _
  have hsz : W.heap.size = w.heap.size + 1 := by rw [hW]; simp
  have own : W.ownsRow w.heap.size 5 1 (.slice (some ⟨w.heap.size, 0, none⟩) 0 0) 0 (bs f 0) := by rw [hW]; exact World.ownsRow_lit (e := 5) (size := 1) w #[] 0 (Nat.le_refl _) (by unfold maxLen; omega) (by simp)
  have key : ∃ g c' W2, Sem.run Try.prog (Builtin.append_ #[30, 30] 30 #[.slice (some ⟨w.heap.size, 0, none⟩) 0 0, .slice a n c]) W = .ok (.slice (some ⟨g, 0, none⟩) n c') W2 ∧ Row W2 (some ⟨g, 0, none⟩) n f ∧ w.heap.size ≤ g ∧ Below w.heap.size w W2 := by
    by_cases hz : n = 0
    · subst hz
      obtain ⟨i, hi, hzz⟩ := Option.map_eq_some_iff.1 info5
      simp only [Prod.mk.injEq] at hzz
      obtain ⟨hz, hs, hby⟩ := hzz
      cases a with
      | none =>
        obtain ⟨_, rfl⟩ := hnil rfl
        exact ⟨w.heap.size, 0, W, run_append_owned_none (P := Try.prog) W w.heap.size 30 30 5 i 1 Try.underlying30 hi _ 0 _ own, ⟨h.lt, fun q => absurd q (by omega)⟩, Nat.le_refl _, hb⟩
      | some ad =>
        obtain ⟨v', W2, hr, hown, hgrow, hnl, hblk⟩ := run_append_own_at (P := Try.prog) W w.heap.size 30 30 5 i (.int .u8 0) 1 1 Try.underlying30 hi hz hs hby rfl (by omega) (.slice (some ⟨w.heap.size, 0, none⟩) 0 0) 0 _ own ad 0 c [] (by simp) (fun j u hu => by simp at hu) (fun v hv => by simp at hv) (by unfold maxLen; omega) (by omega) (by omega)
        have hb2 : Below w.heap.size W W2 := Below.ofGrown own hgrow (by omega)
        rcases hown.2 with ⟨e, _⟩ | ⟨g, cap, cur, e, hg, hh, _⟩
        · have := hnl.1 e
          obtain ⟨q, _⟩ := this
          cases q
        · subst e
          exact ⟨g, cap, W2, hr, ⟨h.lt, fun q => absurd q (by omega)⟩, hg, hb.trans hb2⟩
    · obtain ⟨v, W2, hr, own2, _, hb2⟩ := appendB (c := c) own (h.keep hb) (by omega) (by omega) (by omega)
      rw [Nat.zero_add] at own2
      have e0 : bs (cat 0 f f) n = bs f n := by
        unfold bs; apply List.map_congr_left; intro i _; unfold cat; rw [if_neg (by omega), Nat.sub_zero]
      rw [e0] at own2
      obtain ⟨g, c', rfl, hnew⟩ := ownB_new own2 (by omega) h.lt
      have := hnew.blk _ rfl
      exact ⟨g, c', W2, hr, hnew.row, this.2.1, hb.trans hb2⟩
  obtain ⟨g, c', W2, hr, hrow, hg, hb2⟩ := key
  have HA : Hid (Sem.run Try.prog (Builtin.append_ #[30, 30] 30 #[.slice (some ⟨w.heap.size, 0, none⟩) 0 0, .slice a n c]) W = .ok (.slice (some ⟨g, 0, none⟩) n c') W2) := hr
  have HR : Hid (Row W2 (some ⟨g, 0, none⟩) n f) := hrow
  have HG : Hid (w.heap.size ≤ g ∧ Below w.heap.size w W2) := ⟨hg, hb2⟩
  clear hr hrow own hb hb2 h hnil hsz hg
  go_enter Try.func28, Try.ntmps28
  go_wp2_with (at_builtin; rw [← hW]; refine wpList_append_ran (by rfl) _ _ 30 (by rfl) _ _ _ _ (by rfl) (by rfl) HA.out ?_)
  go_wp2
  go_ret
  exact ⟨g, c', rfl, HR.out, HG.out⟩

set_option maxRecDepth 100000 in
theorem alike_yes (a : Option Addr) (n c : Nat) (A : Nat → Option Addr) (L C : Nat → Nat) (F : Nat → Nat → Nat) (w : World) (h : Mat w a n A L C F) (hn : n ≤ 9223372036854775807) (hq : ∀ i, i < n → L i = L 0) :
    Calls Try.prog 27 #[.slice a n c] w fun e w' => e = .returned (.bool true) ∧ w = w' := by
  have H : Hid (Mat w a n A L C F) := h
  have HQ : Hid (∀ i, i < n → L i = L 0) := hq
  clear h hq
  go_enter Try.func27, Try.ntmps27
  go_wp2
  go_loop [7] (fun v => ∃ k : Nat, k ≤ n ∧ v = .int .i64 k) (fun v => n - (intOf v).toNat)
  case atStart => exact ⟨0, by omega, rfl⟩
  case round =>
    obtain ⟨k, hk, rfl⟩ := hrel
    by_cases hlt : k < n
    · obtain ⟨b, o, rfl, hc⟩ := H.out.lies (by omega)
      have c0 := hc 0 (by omega)
      simp only [Nat.add_zero] at c0
      have ck := hc k hlt
      rw [HQ.out k hlt] at ck
      have ik : (k : Int) < (n : Int) := by omega
      have i0 : (0 : Int) < (n : Int) := by omega
      clear hc H HQ
      generalize A k = ak at *
      generalize C k = cck at *
      generalize A 0 = a0 at *
      generalize C 0 = cc0 at *
      generalize L 0 = l at *
      go_wp2
      go_round
      case rel => exact ⟨k + 1, by omega, by go_num⟩
      case measure => simp [intOf]; omega
    · have : k = n := by omega
      subst this
      go_wp2
      go_ret
      exact ⟨rfl, rfl⟩

set_option maxRecDepth 100000 in
theorem alike_no (a : Option Addr) (n c : Nat) (A : Nat → Option Addr) (L C : Nat → Nat) (F : Nat → Nat → Nat) (w : World) (h : Mat w a n A L C F) (hn : n ≤ 9223372036854775807) (hq : ¬ ∀ i, i < n → L i = L 0) :
    Calls Try.prog 27 #[.slice a n c] w fun e w' => e = .returned (.bool false) ∧ w = w' := by
  have H : Hid (Mat w a n A L C F) := h
  have HN : Hid (¬ ∀ i, i < n → L i = L 0) := hq
  clear h hq
  go_enter Try.func27, Try.ntmps27
  go_wp2
  go_loop [7] (fun v => ∃ k : Nat, k ≤ n ∧ v = .int .i64 k ∧ ∀ i, i < k → L i = L 0) (fun v => n - (intOf v).toNat)
  case atStart => exact ⟨0, by omega, rfl, fun i hi => absurd hi (by omega)⟩
  case round =>
    obtain ⟨k, hk, rfl, hsame⟩ := hrel
    by_cases hlt : k < n
    · obtain ⟨b, o, rfl, hc⟩ := H.out.lies (by omega)
      have c0 := hc 0 (by omega)
      simp only [Nat.add_zero] at c0
      have ck := hc k hlt
      have lk := H.out.le k
      have l0 := H.out.le 0
      have ik : (k : Int) < (n : Int) := by omega
      have i0 : (0 : Int) < (n : Int) := by omega
      by_cases he : L k = L 0
      · have HS : Hid (∀ i, i < k + 1 → L i = L 0) := fun i hi => by
          by_cases e : i = k
          · rw [e]; exact he
          · exact hsame i (by omega)
        rw [he] at ck
        clear hc H HN hsame he lk
        generalize A k = ak at *
        generalize C k = cck at *
        generalize A 0 = a0 at *
        generalize C 0 = cc0 at *
        obtain ⟨l, hl⟩ : ∃ l, L 0 = l := ⟨_, rfl⟩
        rw [hl] at ck c0 l0
        clear hl
        go_wp2
        go_round
        case rel => exact ⟨k + 1, by omega, by go_num, HS.out⟩
        case measure => simp [intOf]; omega
      · have he' : ((L k : Nat) : Int) ≠ ((L 0 : Nat) : Int) := by omega
        clear hc H HN hsame he
        generalize A k = ak at *
        generalize C k = cck at *
        generalize A 0 = a0 at *
        generalize C 0 = cc0 at *
        generalize L k = lk at *
        generalize L 0 = l at *
        go_wp2
        go_ret
        exact ⟨rfl, rfl⟩
    · have : k = n := by omega
      subst this
      exact absurd hsame HN.out
end Go.Proofs.Ytbfhmdphhhjlnaa
