/-
  What the program's Key of layer 6 answers, where utf8.ValidString answers as its contract says.
-/
import Derived.Test.YtighljdeaofanaaDoorNmZ
namespace Go.Proofs.YtighljdeaofanaaDoor
open Go.RowKit Nm
attribute [local go_sem ↓] Go.wp_at_zero Go.wp_at_succ
set_option linter.unusedVariables false

set_option maxRecDepth 100000 in
set_option maxHeartbeats 1000000 in
theorem key_any (s : ByteArray) (w : World) (hs : s.size ≤ 1000000)
    (cV : Calls Tryd.prog 25 #[.string s] w fun e w' => e = .returned (.bool (Lib.validD (tx s))) ∧ Below w.heap.size w w') :
    Calls Tryd.prog 11 #[.string s] w fun e w' => e = .returned (.bool (ky (tx s))) ∧ Below w.heap.size w w' := by
  have hky : ky (tx s) = (decide (1 ≤ s.size ∧ s.size ≤ 200) && Lib.validD (tx s) && kb (tx s)) := by unfold ky; rw [tx_length]
  by_cases h0 : 0 < s.size
  · have hne := empty_of s h0
    by_cases h2 : s.size ≤ 200
    · have i1 : (s.size : Int) ≤ 200 := by omega
      have i0 : decide ((s.size : Int) < 1) = false := decide_eq_false (by omega)
      have i2 : decide ((200 : Int) < (s.size : Int)) = false := decide_eq_false (by omega)
      rw [decide_eq_true (by omega), Bool.true_and] at hky
      cases hv : Lib.validD (tx s) with
      | false =>
        rw [hv] at hky cV
        have HK : Hid (ky (tx s) = false) := hky
        clear hky hv
        go_enter Tryd.func11, Tryd.ntmps11
        go_wp2_with (go_at_call 25; refine cV.mono ?_; rintro e w' ⟨rfl, hb⟩)
        go_ret
        exact ⟨ret_b HK.out.symm, hb⟩
      | true =>
        rw [hv] at hky cV
        rw [Bool.true_and] at hky
        have HK : Hid (ky (tx s) = kb (tx s)) := hky
        have HV : Hid (Lib.validD (tx s) = true) := hv
        clear hky hv
        go_enter Tryd.func11, Tryd.ntmps11
        go_wp2_with (go_at_call 25; refine cV.mono ?_; rintro e w' ⟨rfl, hb⟩)
        go_loopw [4] (fun _ wr => ∃ pos : Nat, wr = w'.iter s pos ∧ pos ≤ s.size ∧ Lib.validD ((tx s).drop pos) = true ∧ kb (tx s) = kb ((tx s).drop pos)) (fun _ wr => s.size - wr.iterPos w'.heap.size)
        case atStart => exact ⟨0, rfl, by omega, HV.out, rfl⟩
        case round =>
          obtain ⟨pos, rfl, hpos, hvp, hkp⟩ := hrel
          by_cases hp : pos < s.size
          · have hnx : ∀ ty, _ := fun ty => run_next_any (P := Tryd.prog) w' s pos ty hp
            have hst := key_step ((tx s).drop pos) (by intro e; have := congrArg List.length e; rw [List.length_drop, tx_length] at this; simp at this; omega) hvp
            rw [show Lib.decodeL ((tx s).drop pos) = Utf8.decode s pos from Lib.decodeL_drop s pos, List.drop_drop, List.length_drop, tx_length] at hst
            obtain ⟨s1, s2, s3, s4⟩ := hst
            generalize (Utf8.decode s pos).1 = c at *
            generalize (Utf8.decode s pos).2 = d at *
            by_cases hc : 32 ≤ c ∧ c ≠ 127
            · rw [decide_eq_true hc, Bool.true_and] at s4
              have c1 : ¬ ((c : Int) < 32) := by omega
              have c2 : ((c : Int) == 127) = false := by simp; omega
              have HR : Hid (Lib.validD ((tx s).drop (pos + d)) = true ∧ kb (tx s) = kb ((tx s).drop (pos + d))) := ⟨s3, hkp.trans s4⟩
              clear hvp hkp s3 s4 hc
              go_wp2
              go_roundw
              case rel => exact ⟨pos + d, rfl, by omega, HR.out.1, HR.out.2⟩
              case measure => simp; omega
            · rw [decide_eq_false hc, Bool.false_and] at s4
              have HF : Hid (ky (tx s) = false) := by unfold Hid; rw [HK.out, hkp, s4]
              have HB : Hid (Below w.heap.size w (w'.iter s (pos + d))) := hb.trans ((bal w' _).mono hb.size)
              clear hvp hkp s3 s4 HK HV
              by_cases hc1 : c < 32
              · have c1 : (c : Int) < 32 := by omega
                clear hc
                go_wp2
                go_ret
                exact ⟨ret_b HF.out.symm, HB.out⟩
              · have c0 : c = 127 := by omega
                subst c0
                clear hc
                go_wp2
                go_ret
                exact ⟨ret_b HF.out.symm, HB.out⟩
          · have he : pos = s.size := by omega
            have HT : Hid (ky (tx s) = true) := by
              unfold Hid
              rw [HK.out, hkp, List.drop_eq_nil_of_le (by rw [tx_length]; omega)]; rfl
            have hnx : ∀ ty, _ := fun ty => run_next_end (P := Tryd.prog) w' s pos ty hp
            have HB : Hid (Below w.heap.size w (w'.iter s pos)) := hb.trans ((bal w' _).mono hb.size)
            clear hvp hkp HK HV he
            go_wp2
            go_ret
            exact ⟨ret_b HT.out.symm, HB.out⟩
    · have i1 : ¬ ((s.size : Int) ≤ 200) := by omega
      have i0 : decide ((s.size : Int) < 1) = false := decide_eq_false (by omega)
      have i2 : (200 : Int) < (s.size : Int) := by omega
      have HK : Hid (ky (tx s) = false) := by unfold Hid; rw [hky, decide_eq_false (by omega)]; rfl
      clear hky cV
      go_enter Tryd.func11, Tryd.ntmps11
      go_wp2
      go_ret
      exact ⟨ret_b HK.out.symm, Below.refl _ _⟩
  · have HK : Hid (ky (tx s) = false) := by unfold Hid; rw [hky, decide_eq_false (by omega)]; rfl
    have es : s = ⟨#[]⟩ := by
      cases s with | mk d => congr 1; exact Array.eq_empty_of_size_eq_zero (by have : (ByteArray.mk d).size = d.size := rfl; omega)
    clear hky cV
    rw [es] at HK ⊢
    go_enter Tryd.func11, Tryd.ntmps11
    go_wp2
    go_ret
    exact ⟨ret_b HK.out.symm, Below.refl _ _⟩
end Go.Proofs.YtighljdeaofanaaDoor
