/-
  What slices.EqualFunc with bytes.Equal, and rs.Code.Verify do.
-/
import Derived.Test.YtbfhmdphhhjlnaaEnc
namespace Go.Proofs.Ytbfhmdphhhjlnaa
open Go.RowKit Gf
attribute [local go_sem ↓] Go.wp_at_zero Go.wp_at_succ

theorem str_ne {f g : Nat → Nat} {n j : Nat} (hj : j < n) (hf : f j < 256) (hg : g j < 256) (h : f j ≠ g j) : ((str f n).toList == (str g n).toList) = false := by
  rw [ByteArray.toList_eq, ByteArray.toList_eq, beq_eq_false_iff_ne]
  intro e
  have e1 : (str f n).data.toList[j]? = (str g n).data.toList[j]? := by rw [e]
  unfold str at e1
  rw [strOfNums_data, strOfNums_data] at e1
  simp [hj] at e1
  have e2 := congrArg UInt8.toNat e1
  simp only [UInt8.toNat_ofNat'] at e2
  omega
theorem str_len {f g : Nat → Nat} {n m : Nat} (h : n ≠ m) : ((str f n).toList == (str g m).toList) = false := by
  rw [ByteArray.toList_eq, ByteArray.toList_eq, beq_eq_false_iff_ne]
  intro e
  have e1 : (str f n).data.toList.length = (str g m).data.toList.length := by rw [e]
  simp [str, strOfNums] at e1
  exact h e1

set_option maxRecDepth 100000 in
theorem bequal_no (a a' : Option Addr) (n m c c' : Nat) (f g : Nat → Nat) (w : World) (h : Row w a n f) (h' : Row w a' m g) (k : a = none → n = 0) (k' : a' = none → m = 0) (hq : ¬ (n = m ∧ ∀ i, i < n → f i = g i)) :
    Calls Try.prog 35 #[.slice a n c, .slice a' m c'] w fun e w' => e = .returned (.bool false) ∧ w = w' := by
  have q1 := conv_row (c := c) h k
  have q2 := conv_row (c := c') h' k'
  have q : ((str f n).toList == (str g m).toList) = false := by
    by_cases e : n = m
    · subst e
      have hx : ∃ i, i < n ∧ f i ≠ g i := by
        apply Classical.byContradiction
        intro hno
        exact hq ⟨rfl, fun i hi => Classical.byContradiction fun z => hno ⟨i, hi, z⟩⟩
      obtain ⟨i, hi, hne⟩ := hx
      exact str_ne hi (h.lt i) (h'.lt i) hne
    · exact str_len e
  generalize str f n = s at *
  generalize str g m = s' at *
  clear h h' k k' hq
  go_enter Try.func35, Try.ntmps35
  go_wp2
  go_ret
  exact ⟨rfl, rfl⟩

set_option maxRecDepth 100000 in
theorem eqFunc_yes (a a' : Option Addr) (n c c' : Nat) (A A' : Nat → Option Addr) (L L' C C' : Nat → Nat) (F F' : Nat → Nat → Nat) (w : World) (h : Mat w a n A L C F) (h' : Mat w a' n A' L' C' F') (hn : n ≤ maxLen) (hq : Alike n L L' F F') :
    Calls Try.prog 34 #[.slice a n c, .slice a' n c', .func (.func 35) #[] #[]] w fun e w' => e = .returned (.bool true) ∧ w = w' := by
  unfold maxLen at hn
  have H : Hid (Mat w a n A L C F) := h
  have H' : Hid (Mat w a' n A' L' C' F') := h'
  have HQ : Hid (Alike n L L' F F') := hq
  clear h h' hq
  go_enter Try.func34, Try.ntmps34
  go_wp2
  go_loop [17] (fun v => ∃ k : Nat, k ≤ n ∧ v = .int .i64 k) (fun v => n - (intOf v).toNat)
  case atStart => exact ⟨0, by omega, rfl⟩
  case round =>
    obtain ⟨k, hk, rfl⟩ := hrel
    by_cases hlt : k < n
    · obtain ⟨b, o, rfl, hc⟩ := H.out.lies (by omega)
      obtain ⟨b', o', rfl, hc'⟩ := H'.out.lies (by omega)
      have ck := hc k hlt
      have ck' := hc' k hlt
      have ik : (k : Int) < (n : Int) := by omega
      have e := HQ.out k hlt
      rw [← e.1] at ck'
      have r' := H'.out.row k hlt
      rw [← e.1] at r'
      have q := bequal_yes (A k) (A' k) (L k) (C k) (C' k) (F k) (F' k) w (H.out.row k hlt) r' (fun z => (H.out.nil k hlt z).1) (fun z => by rw [e.1]; exact (H'.out.nil k hlt z).1) e.2
      clear hc hc' e H H' HQ r'
      generalize A k = ak at *
      generalize C k = cck at *
      generalize A' k = ak' at *
      generalize C' k = cck' at *
      generalize L k = lk at *
      go_wp2_with fail
      go_at_call 35
      refine q.mono ?_
      rintro e w' ⟨rfl, rfl⟩
      go_wp2
      go_round
      case rel => exact ⟨k + 1, by omega, by go_num⟩
      case measure => simp [intOf]; omega
    · have : k = n := by omega
      subst this
      go_wp2
      go_ret
      exact ⟨rfl, rfl⟩


set_option maxRecDepth 100000 in
theorem eqFunc_no (a a' : Option Addr) (n c c' : Nat) (A A' : Nat → Option Addr) (L L' C C' : Nat → Nat) (F F' : Nat → Nat → Nat) (w : World) (h : Mat w a n A L C F) (h' : Mat w a' n A' L' C' F') (hn : n ≤ maxLen) (hq : ¬ Alike n L L' F F') :
    Calls Try.prog 34 #[.slice a n c, .slice a' n c', .func (.func 35) #[] #[]] w fun e w' => e = .returned (.bool false) ∧ w = w' := by
  unfold maxLen at hn
  have H : Hid (Mat w a n A L C F) := h
  have H' : Hid (Mat w a' n A' L' C' F') := h'
  have HQ : Hid (¬ Alike n L L' F F') := hq
  clear h h' hq
  go_enter Try.func34, Try.ntmps34
  go_wp2
  go_loop [17] (fun v => ∃ k : Nat, k ≤ n ∧ v = .int .i64 k ∧ ∀ i, i < k → L i = L' i ∧ ∀ j, j < L i → F i j = F' i j) (fun v => n - (intOf v).toNat)
  case atStart => exact ⟨0, by omega, rfl, fun i hi => absurd hi (by omega)⟩
  case round =>
    obtain ⟨k, hk, rfl, hsame⟩ := hrel
    by_cases hlt : k < n
    · obtain ⟨b, o, rfl, hc⟩ := H.out.lies (by omega)
      obtain ⟨b', o', rfl, hc'⟩ := H'.out.lies (by omega)
      have ck := hc k hlt
      have ck' := hc' k hlt
      have ik : (k : Int) < (n : Int) := by omega
      by_cases e : L k = L' k ∧ ∀ j, j < L k → F k j = F' k j
      · have HS : Hid (∀ i, i < k + 1 → L i = L' i ∧ ∀ j, j < L i → F i j = F' i j) := fun i hi => by
          by_cases q : i = k
          · rw [q]; exact e
          · exact hsame i (by omega)
        rw [← e.1] at ck'
        have r' := H'.out.row k hlt
        rw [← e.1] at r'
        have q := bequal_yes (A k) (A' k) (L k) (C k) (C' k) (F k) (F' k) w (H.out.row k hlt) r' (fun z => (H.out.nil k hlt z).1) (fun z => by rw [e.1]; exact (H'.out.nil k hlt z).1) e.2
        clear hc hc' e H H' HQ r' hsame
        generalize A k = ak at *
        generalize C k = cck at *
        generalize A' k = ak' at *
        generalize C' k = cck' at *
        obtain ⟨lk, hlk⟩ : ∃ l, L k = l := ⟨_, rfl⟩
        rw [hlk] at ck ck' q
        clear hlk
        go_wp2_with fail
        go_at_call 35
        refine q.mono ?_
        rintro e w' ⟨rfl, rfl⟩
        go_wp2
        go_round
        case rel => exact ⟨k + 1, by omega, by go_num, HS.out⟩
        case measure => simp [intOf]; omega
      · have q := bequal_no (A k) (A' k) (L k) (L' k) (C k) (C' k) (F k) (F' k) w (H.out.row k hlt) (H'.out.row k hlt) (fun z => (H.out.nil k hlt z).1) (fun z => (H'.out.nil k hlt z).1) e
        clear hc hc' e H H' HQ hsame
        generalize A k = ak at *
        generalize C k = cck at *
        generalize A' k = ak' at *
        generalize C' k = cck' at *
        generalize L k = lk at *
        generalize L' k = lk' at *
        go_wp2_with fail
        go_at_call 35
        refine q.mono ?_
        rintro e w' ⟨rfl, rfl⟩
        go_wp2
        go_ret
        exact ⟨rfl, rfl⟩
    · have : k = n := by omega
      subst this
      exact absurd hsame HQ.out

set_option maxRecDepth 100000 in
set_option maxHeartbeats 1000000 in
theorem verify_any (p k N : Nat) (S : Nat → Nat → Nat) (w : World) (a : Option Addr) (c l : Nat) (A : Nat → Option Addr) (C : Nat → Nat) (F : Nat → Nat → Nat) (hcode : Code w p k N S) (h : Mat w a N A (fun _ => l) C F) (hc : N ≤ c) (hl : l ≤ 140737488355328) :
    Calls Try.prog 13 #[.pointer (some ⟨p, 0, none⟩), .slice a N c] w fun e w' => ((e = .returned (.tuple #[.bool true, .int .i64 0]) ∧ ∀ i, i < N → ∀ j, j < l → mm k S F i j = F i j) ∨ (e = .returned (.tuple #[.bool false, .int .i64 0]) ∧ ¬ ∀ i, i < N → ∀ j, j < l → mm k S F i j = F i j)) ∧ Below w.heap.size w w' := by
  have cMd := made_any p k N S w hcode
  have cN := N_any p k N S w hcode
  have k1 := hcode.k1
  have kN := hcode.kN
  have N2 := hcode.N2
  have HB : Hid (B (mm k S F)) := mm_B hcode.sys.lt
  have cA := alike_yes a N c A (fun _ => l) C F w h (by omega) (fun _ _ => rfl)
  have HM : Hid (Mat w a N A (fun _ => l) C F) := h
  obtain ⟨hh, bt, AS, CS, c0, c1, c2, _, _⟩ := hcode.ex
  have cE := encode_yes p k N S w a c l A C F hcode (h.take (by omega)) hl
  have ik : (k : Int) ≤ (c : Int) := by omega
  clear h hcode c1 c2
  go_enter Try.func13, Try.ntmps13
  go_wp2_with fail
  go_at_call 26
  refine cMd.mono ?_
  rintro e w' ⟨rfl, rfl⟩
  go_wp2_with fail
  go_at_call 22
  refine cN.mono ?_
  rintro e w' ⟨rfl, rfl⟩
  go_wp2_with fail
  go_at_call 27
  refine cA.mono ?_
  rintro e w' ⟨rfl, rfl⟩
  clear cMd cA cN
  go_wp2_with fail
  go_at_call 11
  refine cE.mono ?_
  rintro e w1 ⟨v, rfl, r1, b1⟩
  clear cE c0
  obtain ⟨va, vc, AV, CV, rfl, mV, _⟩ := r1.form (fun _ => by omega) HB.out
  by_cases hq : Alike N (fun _ => l) (fun _ => l) (mm k S F) F
  · have cQ := eqFunc_yes va a N vc c AV A _ _ CV C _ _ w1 mV (HM.out.keep b1) (by unfold maxLen; omega) hq
    have HQ : Hid (∀ i, i < N → ∀ j, j < l → mm k S F i j = F i j) := fun i hi => (hq i hi).2
    clear hq r1 mV
    go_wp2_with fail
    go_at_call 34
    refine cQ.mono ?_
    rintro e w' ⟨rfl, rfl⟩
    go_wp2
    go_ret2
    exact ⟨.inl ⟨rfl, HQ.out⟩, b1⟩
  · have cQ := eqFunc_no va a N vc c AV A _ _ CV C _ _ w1 mV (HM.out.keep b1) (by unfold maxLen; omega) hq
    have HQ : Hid (¬ ∀ i, i < N → ∀ j, j < l → mm k S F i j = F i j) := fun z => hq fun i hi => ⟨rfl, z i hi⟩
    clear hq r1 mV
    go_wp2_with fail
    go_at_call 34
    refine cQ.mono ?_
    rintro e w' ⟨rfl, rfl⟩
    go_wp2
    go_ret2
    exact ⟨.inr ⟨rfl, HQ.out⟩, b1⟩

set_option maxRecDepth 100000 in
theorem verify_no (p k N : Nat) (S : Nat → Nat → Nat) (w : World) (a : Option Addr) (n c : Nat) (A : Nat → Option Addr) (L C : Nat → Nat) (F : Nat → Nat → Nat) (hcode : Code w p k N S) (h : Mat w a n A L C F) (hn : n ≤ 9223372036854775807) (hno : ¬ (n = N ∧ ∀ i, i < n → L i = L 0)) :
    Calls Try.prog 13 #[.pointer (some ⟨p, 0, none⟩), .slice a n c] w fun e w' => e = .returned (.tuple #[.bool false, .int .i64 1]) ∧ w = w' := by
  have cMd := made_any p k N S w hcode
  have cN := N_any p k N S w hcode
  have hN := hcode.N2
  by_cases hk : n = N
  · have cA := alike_no a n c A L C F w h hn (fun q => hno ⟨hk, q⟩)
    clear hno h hcode
    subst hk
    go_enter Try.func13, Try.ntmps13
    go_wp2_with fail
    go_at_call 26
    refine cMd.mono ?_
    rintro e w' ⟨rfl, rfl⟩
    go_wp2_with fail
    go_at_call 22
    refine cN.mono ?_
    rintro e w' ⟨rfl, rfl⟩
    go_wp2_with fail
    go_at_call 27
    refine cA.mono ?_
    rintro e w' ⟨rfl, rfl⟩
    go_wp2
    go_ret2
    exact ⟨rfl, rfl⟩
  · have hk' : ((n : Nat) : Int) ≠ (N : Int) := by omega
    clear hno h hcode hk
    go_enter Try.func13, Try.ntmps13
    go_wp2_with fail
    go_at_call 26
    refine cMd.mono ?_
    rintro e w' ⟨rfl, rfl⟩
    go_wp2_with fail
    go_at_call 22
    refine cN.mono ?_
    rintro e w' ⟨rfl, rfl⟩
    go_wp2
    go_ret2
    exact ⟨rfl, rfl⟩
end Go.Proofs.Ytbfhmdphhhjlnaa
