/-
  What the program's Bucket of layer 6 answers, where utf8.ValidString answers as its contract says.
-/
import Derived.Test.YtighljdeaofanaaDoorNmB
import Derived.Test.YtighljdeaofanaaDoorNmZ
namespace Go.Proofs.YtighljdeaofanaaDoor
open Go.RowKit Nm
attribute [local go_sem ↓] Go.wp_at_zero Go.wp_at_succ
set_option linter.unusedVariables false

/-- A hyphen or a point. -/
def im (c : Nat) : Bool := decide (c = 45) || decide (c = 46)
/-- A letter or a digit. -/
def ip (c : Nat) : Bool := decide (97 ≤ c ∧ c ≤ 122) || decide (48 ≤ c ∧ c ≤ 57)

set_option maxRecDepth 100000 in
theorem mark_any (c : Nat) (w : World) :
    Calls Tryd.prog 26 #[.int .i32 (c : Int)] w fun e w' => e = .returned (.bool (im c)) ∧ w = w' := by
  unfold im
  by_cases h1 : c = 45
  · subst h1
    go_enter Tryd.func26, Tryd.ntmps26
    go_wp2
    go_ret
    exact ⟨rfl, rfl⟩
  · rw [decide_eq_false h1, Bool.false_or]
    have n1 : ((c : Int) == 45) = false := by simp; omega
    by_cases h2 : c = 46
    · subst h2
      go_enter Tryd.func26, Tryd.ntmps26
      go_wp2
      go_ret
      exact ⟨rfl, rfl⟩
    · rw [decide_eq_false h2]
      have n2 : ((c : Int) == 46) = false := by simp; omega
      clear h1 h2
      go_enter Tryd.func26, Tryd.ntmps26
      go_wp2
      go_ret
      exact ⟨rfl, rfl⟩
set_option maxRecDepth 100000 in
theorem plain_any (c : Nat) (w : World) :
    Calls Tryd.prog 27 #[.int .i32 (c : Int)] w fun e w' => e = .returned (.bool (ip c)) ∧ w = w' := by
  unfold ip
  have hcase : (97 ≤ c ∧ c ≤ 122) ∨ (48 ≤ c ∧ c ≤ 57) ∨ c < 48 ∨ (57 < c ∧ c < 97) ∨ 122 < c := by omega
  rcases hcase with ⟨c1, c2⟩ | ⟨c1, c2⟩ | c1 | ⟨c1, c2⟩ | c1
  · rw [decide_eq_true ⟨c1, c2⟩, Bool.true_or]
    have i1 : (97 : Int) ≤ (c : Int) := by omega
    have i2 : (c : Int) ≤ 122 := by omega
    go_enter Tryd.func27, Tryd.ntmps27
    go_wp2
    go_ret
    exact ⟨rfl, rfl⟩
  · rw [decide_eq_true (show 48 ≤ c ∧ c ≤ 57 from ⟨c1, c2⟩), Bool.or_true]
    have i1 : (48 : Int) ≤ (c : Int) := by omega
    have i2 : (c : Int) ≤ 57 := by omega
    have i3 : decide ((97 : Int) ≤ (c : Int)) = false := decide_eq_false (by omega)
    go_enter Tryd.func27, Tryd.ntmps27
    go_wp2
    go_ret
    exact ⟨rfl, rfl⟩
  · rw [decide_eq_false (by omega), decide_eq_false (by omega)]
    have i3 : decide ((97 : Int) ≤ (c : Int)) = false := decide_eq_false (by omega)
    have i4 : decide ((48 : Int) ≤ (c : Int)) = false := decide_eq_false (by omega)
    go_enter Tryd.func27, Tryd.ntmps27
    go_wp2
    go_ret
    exact ⟨rfl, rfl⟩
  · rw [decide_eq_false (by omega), decide_eq_false (by omega)]
    have i3 : decide ((97 : Int) ≤ (c : Int)) = false := decide_eq_false (by omega)
    have i4 : (48 : Int) ≤ (c : Int) := by omega
    have i5 : decide ((c : Int) ≤ 57) = false := decide_eq_false (by omega)
    go_enter Tryd.func27, Tryd.ntmps27
    go_wp2
    go_ret
    exact ⟨rfl, rfl⟩
  · rw [decide_eq_false (by omega), decide_eq_false (by omega)]
    have i3 : (97 : Int) ≤ (c : Int) := by omega
    have i6 : decide ((c : Int) ≤ 122) = false := decide_eq_false (by omega)
    have i4 : (48 : Int) ≤ (c : Int) := by omega
    have i5 : decide ((c : Int) ≤ 57) = false := decide_eq_false (by omega)
    go_enter Tryd.func27, Tryd.ntmps27
    go_wp2
    go_ret
    exact ⟨rfl, rfl⟩

/-- One sign on. -/
theorem bk_step (l : List UInt8) (h : l ≠ []) (hv : Lib.validD l = true) :
    1 ≤ (Lib.decodeL l).2 ∧ (Lib.decodeL l).2 ≤ l.length ∧ Lib.validD (l.drop (Lib.decodeL l).2) = true ∧
    (im (Lib.decodeL l).1 = true → (Lib.decodeL l).2 = 1 ∧ ∀ v, bk v l = (!v && bk true (l.drop 1))) ∧
    (im (Lib.decodeL l).1 = false → ip (Lib.decodeL l).1 = true → (Lib.decodeL l).2 = 1 ∧ ∀ v, bk v l = bk false (l.drop 1)) ∧
    (im (Lib.decodeL l).1 = false → ip (Lib.decodeL l).1 = false → ∀ v, bk v l = false) := by
  have hE : ¬ Ef l := fun e => by rw [valid_bad l h e] at hv; cases hv
  obtain ⟨k1, k2, k3, k4⟩ := step_ok l h hE
  refine ⟨k1, k2, (valid_step l h hE) ▸ hv, ?_⟩
  cases l with
  | nil => exact absurd rfl h
  | cons c t =>
    have e0 : ((c :: t).getD 0 0) = c := rfl
    rw [e0] at k3 k4
    have ea : al c = ip c.toNat := rfl
    have ed : dt c = im c.toNat := rfl
    by_cases hc : c.toNat < 128
    · obtain ⟨e1, e2⟩ := k3 hc
      rw [e1]
      refine ⟨fun q => ⟨e2, fun v => ?_⟩, fun q r => ⟨e2, fun v => ?_⟩, fun q r v => ?_⟩
      · rw [bk_cons, ed, q, ea]
        cases v <;> simp
      · rw [bk_cons, ed, q, ea, r]
        simp
      · rw [bk_cons, ed, q, ea, r]
        simp
    · have h1 := (k4 (by omega)).1
      have q0 : im (Lib.decodeL (c :: t)).1 = false := by unfold im; simp; omega
      have r0 : ip (Lib.decodeL (c :: t)).1 = false := by unfold ip; simp; omega
      have q1 : im c.toNat = false := by unfold im; simp; omega
      have r1 : ip c.toNat = false := by unfold ip; simp; omega
      refine ⟨fun q => absurd (q0.symm.trans q) (by decide), fun q r => absurd (r0.symm.trans r) (by decide), fun q r v => ?_⟩
      rw [bk_cons, ed, q1, ea, r1]
      simp
theorem bk_valid (n : Nat) : ∀ (l : List UInt8) (v : Bool), l.length ≤ n → bk v l = true → Lib.validD l = true := by
  induction n with
  | zero =>
    intro l v h _
    have : l = [] := List.eq_nil_of_length_eq_zero (by omega)
    rw [this]; rfl
  | succ n ih =>
    intro l v h hb
    cases l with
    | nil => rfl
    | cons c t =>
      rw [bk_cons] at hb
      simp only [Bool.and_eq_true] at hb
      obtain ⟨⟨h1, _⟩, h3⟩ := hb
      have hc : c.toNat < 128 := by
        unfold al dt at h1
        simp at h1
        omega
      have ht := ih t _ (by simpa using h) h3
      have hd : Lib.decodeL (c :: t) = (c.toNat, 1) := by
        rw [Lib.decodeL_N]
        exact Lib.decodeN_ascii _ _ _ _ _ hc
      have hE : ¬ Ef (c :: t) := by
        unfold Ef
        rw [hd]
        intro ⟨q, _⟩
        have : c.toNat = 65533 := q
        omega
      rw [valid_step (c :: t) (by simp) hE, hd]
      exact ht

set_option maxRecDepth 100000 in
set_option maxHeartbeats 4000000 in
theorem bucket_any (s : ByteArray) (w : World) (hs : s.size ≤ 1000000)
    (cV : Calls Tryd.prog 25 #[.string s] w fun e w' => e = .returned (.bool (Lib.validD (tx s))) ∧ Below w.heap.size w w') :
    Calls Tryd.prog 12 #[.string s] w fun e w' => e = .returned (.bool (bkt (tx s))) ∧ Below w.heap.size w w' := by
  have hbk : bkt (tx s) = (decide (3 ≤ s.size ∧ s.size ≤ 63) && bk true (tx s)) := by unfold bkt; rw [tx_length]
  cases hv : Lib.validD (tx s) with
  | false =>
    have HF : Hid (bkt (tx s) = false) := by
      unfold Hid
      rw [hbk]
      cases hb : bk true (tx s) with
      | false => simp
      | true => rw [bk_valid _ _ _ (Nat.le_refl _) hb] at hv; cases hv
    rw [hv] at cV
    clear hv hbk
    go_enter Tryd.func12, Tryd.ntmps12
    go_wp2_with (go_at_call 25; refine cV.mono ?_; rintro e w' ⟨rfl, hb⟩)
    go_ret
    exact ⟨ret_b HF.out.symm, hb⟩
  | true =>
    rw [hv] at cV
    have HB : Hid (bkt (tx s) = (decide (3 ≤ s.size ∧ s.size ≤ 63) && bk true (tx s))) := hbk
    have HV : Hid (Lib.validD (tx s) = true) := hv
    clear hbk hv
    go_enter Tryd.func12, Tryd.ntmps12
    go_wp2_with (go_at_call 25; refine cV.mono ?_; rintro e w' ⟨rfl, hb⟩)
    go_loopw [3, 4, 6] (fun n m _ wr => ∃ (pos : Nat) (v : Bool), n = .int .i64 (pos : Int) ∧ m = .bool v ∧ wr = w'.iter s pos ∧ pos ≤ s.size ∧ Lib.validD ((tx s).drop pos) = true ∧ bk true (tx s) = bk v ((tx s).drop pos)) (fun _ _ _ wr => s.size - wr.iterPos w'.heap.size)
    case atStart => exact ⟨0, true, rfl, rfl, rfl, by omega, HV.out, rfl⟩
    case round =>
      obtain ⟨pos, v, rfl, rfl, rfl, hpos, hvp, hkp⟩ := hrel
      clear cV
      by_cases hp : pos < s.size
      · have hnx : ∀ ty, _ := fun ty => run_next_any (P := Tryd.prog) w' s pos ty hp
        have hst := bk_step ((tx s).drop pos) (by intro e; have := congrArg List.length e; rw [List.length_drop, tx_length] at this; simp at this; omega) hvp
        rw [show Lib.decodeL ((tx s).drop pos) = Utf8.decode s pos from Lib.decodeL_drop s pos, List.drop_drop, List.length_drop, tx_length, List.drop_drop] at hst
        obtain ⟨s1, s2, s3, s4, s5, s6⟩ := hst
        generalize (Utf8.decode s pos).1 = c at *
        generalize (Utf8.decode s pos).2 = d at *
        have cM := fun W => mark_any c W
        have cP := fun W => plain_any c W
        have HS : Hid (Below w.heap.size w (w'.iter s (pos + d))) := hb.trans ((bal w' _).mono hb.size)
        cases hm : im c with
        | true =>
          rw [hm] at cM
          obtain ⟨rfl, s4q⟩ := s4 hm
          have hk := s4q v
          cases v with
          | true =>
            have HF : Hid (bkt (tx s) = false) := by unfold Hid; rw [HB.out, hkp, hk]; simp
            clear hvp hkp s3 s4 s4q s5 s6 HB HV hk hm cP
            go_wp2_with (go_at_call 26; refine (cM _).mono ?_; rintro e w9 ⟨rfl, rfl⟩)
            go_ret
            exact ⟨ret_b HF.out.symm, HS.out⟩
          | false =>
            have HR : Hid (Lib.validD ((tx s).drop (pos + 1)) = true ∧ bk true (tx s) = bk true ((tx s).drop (pos + 1))) := ⟨s3, by rw [hkp, hk]; rfl⟩
            clear hvp hkp s3 s4 s4q s5 s6 HB HV hk hm cP
            go_wp2_with (go_at_call 26; refine (cM _).mono ?_; rintro e w9 ⟨rfl, rfl⟩)
            go_roundw
            case rel => exact ⟨pos + 1, true, by go_num, rfl, rfl, by omega, HR.out.1, HR.out.2⟩
            case measure => simp; omega
        | false =>
          rw [hm] at cM
          cases hpl : ip c with
          | true =>
            rw [hpl] at cP
            obtain ⟨rfl, s5q⟩ := s5 hm hpl
            have HR : Hid (Lib.validD ((tx s).drop (pos + 1)) = true ∧ bk true (tx s) = bk false ((tx s).drop (pos + 1))) := ⟨s3, by rw [hkp, s5q v]⟩
            clear hvp hkp s3 s4 s5 s5q s6 HB HV hm hpl
            go_wp2_with (first | (go_at_call 26; refine (cM _).mono ?_; rintro e w9 ⟨rfl, rfl⟩) | (go_at_call 27; refine (cP _).mono ?_; rintro e w9 ⟨rfl, rfl⟩))
            go_roundw
            case rel => exact ⟨pos + 1, false, by go_num, rfl, rfl, by omega, HR.out.1, HR.out.2⟩
            case measure => simp; omega
          | false =>
            rw [hpl] at cP
            have HF : Hid (bkt (tx s) = false) := by unfold Hid; rw [HB.out, hkp, s6 hm hpl v]; simp
            clear hvp hkp s3 s4 s5 s6 HB HV hm hpl
            go_wp2_with (first | (go_at_call 26; refine (cM _).mono ?_; rintro e w9 ⟨rfl, rfl⟩) | (go_at_call 27; refine (cP _).mono ?_; rintro e w9 ⟨rfl, rfl⟩))
            go_ret
            exact ⟨ret_b HF.out.symm, HS.out⟩
      · have he : pos = s.size := by omega
        have hnx : ∀ ty, _ := fun ty => run_next_end (P := Tryd.prog) w' s pos ty hp
        have HS : Hid (Below w.heap.size w (w'.iter s pos)) := hb.trans ((bal w' _).mono hb.size)
        rw [List.drop_eq_nil_of_le (by rw [tx_length]; omega)] at hkp
        have hk : bk true (tx s) = !v := hkp
        have hz := HB.out
        rw [hk, ← he] at hz
        clear hvp hkp HB HV hk he
        cases v with
        | true =>
          have HF : Hid (bkt (tx s) = false) := by unfold Hid; rw [hz]; simp
          clear hz
          go_wp2
          go_ret
          exact ⟨ret_b HF.out.symm, HS.out⟩
        | false =>
          by_cases h1 : pos < 3
          · have HF : Hid (bkt (tx s) = false) := by unfold Hid; rw [hz, decide_eq_false (by omega)]; rfl
            have g1 : decide ((3 : Int) ≤ (pos : Int)) = false := decide_eq_false (by omega)
            have g2 : (pos : Int) < 3 := by omega
            clear hz
            go_wp2
            go_ret
            exact ⟨ret_b HF.out.symm, HS.out⟩
          · have g1 : (3 : Int) ≤ (pos : Int) := by omega
            by_cases h2 : pos ≤ 63
            · have HF : Hid (bkt (tx s) = true) := by unfold Hid; rw [hz, decide_eq_true (by omega)]; rfl
              have g2 : (pos : Int) ≤ 63 := by omega
              clear hz
              go_wp2
              go_ret
              exact ⟨ret_b HF.out.symm, HS.out⟩
            · have HF : Hid (bkt (tx s) = false) := by unfold Hid; rw [hz, decide_eq_false (by omega)]; rfl
              have g2 : decide ((pos : Int) ≤ 63) = false := decide_eq_false (by omega)
              have g3 : (63 : Int) < (pos : Int) := by omega
              clear hz
              go_wp2
              go_ret
              exact ⟨ret_b HF.out.symm, HS.out⟩
end Go.Proofs.YtighljdeaofanaaDoor
