/-
  What the document's own Same says of rows that are unlike, and what its Verify does.
-/
import Derived.Test.YtbfhmdphhhjlnaaREnc
namespace Go.Proofs.Ytbfhmdphhhjlnaa
open Go.RowKit Gf
attribute [local go_sem ↓] Go.wp_at_zero Go.wp_at_succ

theorem drewN2 (w : World) (a b : Nat) : (w.drewN a).drewN b = w.drewN (a + b) := by simp [World.drewN, Nat.add_assoc]

set_option maxRecDepth 100000 in
theorem rsame_no (a a' : Option Addr) (n c c' : Nat) (A A' : Nat → Option Addr) (L L' C C' : Nat → Nat) (F F' : Nat → Nat → Nat) (w : World) (h : Mat w a n A L C F) (h' : Mat w a' n A' L' C' F') (hn : n ≤ maxLen) (hq : ¬ Alike n L L' F F') :
    Calls Try.prog 19 #[.slice a n c, .slice a' n c'] w fun e w' => e = .returned (.bool false) ∧ ∃ m, w' = w.drewN m := by
  unfold maxLen at hn
  have H : Hid (Mat w a n A L C F) := h
  have H' : Hid (Mat w a' n A' L' C' F') := h'
  have HQ : Hid (¬ Alike n L L' F F') := hq
  clear h h' hq
  go_enter Try.func19, Try.ntmps19
  go_wp2
  go_loopw [5] (fun v wr => ∃ k m : Nat, k ≤ n ∧ v = .int .i64 k ∧ wr = w.drewN m ∧ ∀ i, i < k → L i = L' i ∧ ∀ j, j < L i → F i j = F' i j) (fun v _ => n - (intOf v).toNat)
  case atStart => exact ⟨0, 0, by omega, rfl, rfl, fun i hi => absurd hi (by omega)⟩
  case round =>
    obtain ⟨k, m, hk, rfl, rfl, hsame⟩ := hrel
    by_cases hlt : k < n
    · obtain ⟨b, o, rfl, hc⟩ := H.out.lies (by omega)
      obtain ⟨b', o', rfl, hc'⟩ := H'.out.lies (by omega)
      have ck := hc k hlt
      have ck' := hc' k hlt
      have ik : (k : Int) < (n : Int) := by omega
      have q1 := fun m => conv_row (c := C k) ((H.out.row k hlt).drewN m) fun e => (H.out.nil k hlt e).1
      have q2 := fun m => conv_row (c := C' k) ((H'.out.row k hlt).drewN m) fun e => (H'.out.nil k hlt e).1
      by_cases e : L k = L' k ∧ ∀ j, j < L k → F k j = F' k j
      · have HS : Hid (∀ i, i < k + 1 → L i = L' i ∧ ∀ j, j < L i → F i j = F' i j) := fun i hi => by
          by_cases q : i = k
          · rw [q]; exact e
          · exact hsame i (by omega)
        rw [← e.1, ← str_congr e.2] at q2
        rw [← e.1] at ck'
        clear hc hc' e H H' HQ hsame
        generalize A k = ak at *
        generalize C k = cck at *
        generalize A' k = ak' at *
        generalize C' k = cck' at *
        generalize str (F k) (L k) = t at *
        obtain ⟨lk, hlk⟩ : ∃ l, L k = l := ⟨_, rfl⟩
        rw [hlk] at ck ck' q1 q2
        clear hlk
        go_wp2
        go_quiet (fail)
        go_wp2
        go_round
        case rel => exact ⟨k + 1, _, by omega, by go_num, rfl, HS.out⟩
        case measure => simp [intOf]; omega
      · have hne : ((str (F k) (L k)).toList == (str (F' k) (L' k)).toList) = false := by
          by_cases el : L k = L' k
          · rw [← el]
            have hx : ∃ i, i < L k ∧ F k i ≠ F' k i := by
              apply Classical.byContradiction
              intro hno
              exact e ⟨el, fun i hi => Classical.byContradiction fun z => hno ⟨i, hi, z⟩⟩
            obtain ⟨i, hi, hne⟩ := hx
            exact str_ne hi (H.out.lt k i) (H'.out.lt k i) hne
          · exact str_len el
        clear hc hc' e H H' HQ hsame
        generalize A k = ak at *
        generalize C k = cck at *
        generalize A' k = ak' at *
        generalize C' k = cck' at *
        generalize str (F k) (L k) = t at *
        generalize str (F' k) (L' k) = t' at *
        generalize L k = lk at *
        generalize L' k = lk' at *
        go_wp2
        go_quiet (fail)
        go_wp2
        go_ret
        exact ⟨rfl, m + nq, drewN2 _ _ _⟩
    · have : k = n := by omega
      subst this
      exact absurd hsame HQ.out

set_option maxRecDepth 100000 in
set_option maxHeartbeats 1000000 in
theorem rverify_any (p k m N : Nat) (S : Nat → Nat → Nat) (w : World) (a : Option Addr) (c l : Nat) (A : Nat → Option Addr) (C : Nat → Nat) (F : Nat → Nat → Nat) (hcode : RCode w p k m N S) (h : Mat w a N A (fun _ => l) C F) (hc : k ≤ c) (hl : l ≤ 140737488355328) :
    Calls Try.prog 18 #[.pointer (some ⟨p, 0, none⟩), .slice a N c] w fun e w' => ((e = .returned (.tuple #[.bool true, .int .i64 0]) ∧ ∀ i, i < N → ∀ j, j < l → mm k S F i j = F i j) ∨ (e = .returned (.tuple #[.bool false, .int .i64 0]) ∧ ¬ ∀ i, i < N → ∀ j, j < l → mm k S F i j = F i j)) ∧ Below w.heap.size w w' := by
  have k1 := hcode.k1
  have km := hcode.km
  have N2 := hcode.N2
  have hNi : (k : Int) + (m : Int) = (N : Int) := by omega
  have HB : Hid (B (mm k S F)) := mm_B hcode.sys.lt
  have cA := fun q => even_yes a N c A (fun _ => l) C F (w.drewN q) (h.drewN q) (by omega) (fun _ _ => rfl)
  have HM : Hid (Mat w a N A (fun _ => l) C F) := h
  have HC : Hid (RCode w p k m N S) := hcode
  have hkN : k ≤ N := by omega
  obtain ⟨hS, xc, AS, CS, c0, c1, c2, _⟩ := hcode.ex
  have ik : (k : Int) ≤ (c : Int) := by omega
  clear h hcode c2 km
  go_enter Try.func18, Try.ntmps18
  go_wp2
  go_quiet ((go_at_call 37; refine (cA _).mono ?_; rintro e w9 ⟨rfl, q, rfl⟩; exact ⟨rfl, _, drewN2 _ _ _⟩))
  obtain ⟨W1, hW1⟩ : ∃ W, W = w.drewN nq := ⟨_, rfl⟩
  have b1 : Below w.heap.size w W1 := by rw [hW1]; exact below_drewN (Below.refl _ _) nq
  have q0 : W1.cell? ⟨p, 0, none⟩ = some (.int .i64 k) := by rw [hW1]; exact c0
  rw [← hW1]
  clear hW1 cA
  have cE := rencode_yes p k m N S W1 a c l A C F (HC.out.keep b1) ((HM.out.keep b1).take hkN) hl
  go_wp2_with fail
  go_at_call 16
  refine cE.mono ?_
  rintro e w1 ⟨v, rfl, r1, b2⟩
  clear cE
  have b02 : Below w.heap.size w w1 := hop b1 b2
  obtain ⟨va, vc, AV, CV, rfl, mV, _⟩ := r1.form (fun _ => by omega) HB.out
  by_cases hq : Alike N (fun _ => l) (fun _ => l) (mm k S F) F
  · have cQ := rsame_yes va a N vc c AV A _ _ CV C _ _ w1 mV (HM.out.keep b02) (by unfold maxLen; omega) hq
    have HQ : Hid (∀ i, i < N → ∀ j, j < l → mm k S F i j = F i j) := fun i hi => (hq i hi).2
    clear hq r1 mV
    go_wp2_with fail
    go_at_call 19
    refine cQ.mono ?_
    rintro e w' ⟨rfl, q, rfl⟩
    go_wp2
    go_ret2
    exact ⟨.inl ⟨rfl, HQ.out⟩, below_drewN b02 q⟩
  · have cQ := rsame_no va a N vc c AV A _ _ CV C _ _ w1 mV (HM.out.keep b02) (by unfold maxLen; omega) hq
    have HQ : Hid (¬ ∀ i, i < N → ∀ j, j < l → mm k S F i j = F i j) := fun z => hq fun i hi => ⟨rfl, z i hi⟩
    clear hq r1 mV
    go_wp2_with fail
    go_at_call 19
    refine cQ.mono ?_
    rintro e w' ⟨rfl, q, rfl⟩
    go_wp2
    go_ret2
    exact ⟨.inr ⟨rfl, HQ.out⟩, below_drewN b02 q⟩

set_option maxRecDepth 100000 in
theorem rverify_no (p k m N : Nat) (S : Nat → Nat → Nat) (w : World) (a : Option Addr) (n c : Nat) (A : Nat → Option Addr) (L C : Nat → Nat) (F : Nat → Nat → Nat) (hcode : RCode w p k m N S) (h : Mat w a n A L C F) (hn : n ≤ 9223372036854775807) (hno : ¬ (n = N ∧ ∀ i, i < n → L i = L 0)) :
    Calls Try.prog 18 #[.pointer (some ⟨p, 0, none⟩), .slice a n c] w fun e w' => e = .returned (.tuple #[.bool false, .int .i64 1]) ∧ Below w.heap.size w w' := by
  have km := hcode.km
  have N2 := hcode.N2
  have hNi : (k : Int) + (m : Int) = (N : Int) := by omega
  obtain ⟨hS, xc, AS, CS, c0, c1, c2, _⟩ := hcode.ex
  by_cases hk : n = N
  · have cA := fun q => even_no a n c A L C F (w.drewN q) (h.drewN q) hn (fun z => hno ⟨hk, z⟩)
    clear hno h hcode c2 km
    subst hk
    go_enter Try.func18, Try.ntmps18
    go_wp2
    go_quiet ((go_at_call 37; refine (cA _).mono ?_; rintro e w9 ⟨rfl, q, rfl⟩; exact ⟨rfl, _, drewN2 _ _ _⟩))
    go_wp2
    go_ret2
    exact ⟨rfl, below_drewN (Below.refl _ _) _⟩
  · have hk' : ((n : Nat) : Int) ≠ (N : Int) := by omega
    have g1 : ((n : Int) == (N : Int)) = false := by simp; omega
    have g2 : (n == N) = false := by simpa using hk
    have g3 : ((n : Int) != (N : Int)) = true := by simp; omega
    have g4 : (n != N) = true := by simpa using hk
    clear hno h hcode hk c2 km
    go_enter Try.func18, Try.ntmps18
    go_wp2
    go_quiet (fail)
    go_wp2
    go_ret2
    exact ⟨rfl, below_drewN (Below.refl _ _) _⟩
end Go.Proofs.Ytbfhmdphhhjlnaa
