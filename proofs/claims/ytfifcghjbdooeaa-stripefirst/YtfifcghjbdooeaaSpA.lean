/-
  What may, share and Length do, and the document's Length: they reckon, and touch nothing.
-/
import Derived.Test.YtfifcghjbdooeaaSpM
import Derived.Test.YtfifcghjbdooeaaByt
import Derived.BigQuiet
set_option maxRecDepth 100000
set_option linter.unusedVariables false
namespace Go.Proofs.Ytfifcghjbdooeaa
open Go.RowKit
attribute [local go_sem ↓] Go.wp_at_zero Go.wp_at_succ

/-- The numbers that may be. -/
def MayN (n k B : Int) : Prop := 0 ≤ n ∧ n ≤ 65536 ∧ 1 ≤ k ∧ k ≤ 255 ∧ 1 ≤ B ∧ B ≤ 4096
instance (n k B : Int) : Decidable (MayN n k B) := by unfold MayN; infer_instance

theorem may_yes (n k B : Int) (w : World) (h : MayN n k B) : Calls Try.prog 16 #[.int .i64 n, .int .i64 k, .int .i64 B] w fun e w' => e = .returned (.bool true) ∧ w = w' := by
  obtain ⟨h1, h2, h3, h4, h5, h6⟩ := h
  go_enter Try.func16, Try.ntmps16
  go_wp2
  go_ret
  exact ⟨rfl, rfl⟩

theorem may_no (n k B : Int) (w : World) (h : ¬ MayN n k B) : Calls Try.prog 16 #[.int .i64 n, .int .i64 k, .int .i64 B] w fun e w' => e = .returned (.bool false) ∧ w = w' := by
  unfold MayN at h
  by_cases h1 : 0 ≤ n
  · by_cases h2 : n ≤ 65536
    · by_cases h3 : 1 ≤ k
      · by_cases h4 : k ≤ 255
        · by_cases h5 : 1 ≤ B
          · have h6 : ¬ B ≤ 4096 := fun h6 => h ⟨h1, h2, h3, h4, h5, h6⟩
            clear h
            go_enter Try.func16, Try.ntmps16
            go_wp2
            go_ret
            exact ⟨rfl, rfl⟩
          · clear h
            go_enter Try.func16, Try.ntmps16
            go_wp2
            go_ret
            exact ⟨rfl, rfl⟩
        · clear h
          go_enter Try.func16, Try.ntmps16
          go_wp2
          go_ret
          exact ⟨rfl, rfl⟩
      · clear h
        go_enter Try.func16, Try.ntmps16
        go_wp2
        go_ret
        exact ⟨rfl, rfl⟩
    · clear h
      go_enter Try.func16, Try.ntmps16
      go_wp2
      go_ret
      exact ⟨rfl, rfl⟩
  · clear h
    go_enter Try.func16, Try.ntmps16
    go_wp2
    go_ret
    exact ⟨rfl, rfl⟩

theorem cdiv_int (r k : Nat) (h : 1 ≤ k) : ((r : Int) + (k : Int) - 1) / (k : Int) = ((cdiv r k : Nat) : Int) := by
  unfold cdiv
  rw [Int.natCast_ediv]
  congr 1
  omega
theorem share_any (r k B : Nat) (w : World) (hr : r ≤ 65536) (h1 : 1 ≤ k) (h2 : k ≤ 255) (h3 : B ≤ 4096) :
    Calls Try.prog 18 #[.int .i64 r, .int .i64 k, .int .i64 B] w fun e w' => e = .returned (.int .i64 (wd r k B : Nat)) ∧ w = w' := by
  have hE := cdiv_int r k h1
  unfold wd
  generalize cdiv r k = q at *
  go_enter Try.func18, Try.ntmps18
  go_wp2
  · go_ret
    exact ⟨by rw [Nat.min_eq_right (by omega)]; rfl, rfl⟩
  · go_ret
    exact ⟨by rw [Nat.min_eq_left (by omega)]; rfl, rfl⟩

theorem length_no (n k B : Int) (w : World) (h : ¬ MayN n k B) : Calls Try.prog 14 #[.int .i64 n, .int .i64 k, .int .i64 B] w fun e w' => e = .returned (.int .i64 0) ∧ ∃ m, w' = w.drewN m := by
  have m := may_no n k B w h
  clear h
  go_enter Try.func14, Try.ntmps14
  go_wp2_with fail
  go_at_call 16
  refine m.mono ?_
  rintro e w' ⟨rfl, rfl⟩
  go_wp2
  go_ret
  exact ⟨rfl, 0, rfl⟩

/-- What Length's numbers are. -/
theorem ln_parts {n k B : Nat} (h : MayN n k B) : ∃ K a b s : Nat, (k : Int) * (B : Int) = (K : Int) ∧ 1 ≤ K ∧ K ≤ 1044480 ∧ (n : Int) / (K : Int) = (a : Int) ∧ (n : Int) % (K : Int) = (b : Int) ∧ b ≤ 65536 ∧ a ≤ 65536 ∧ (a : Int) * (B : Int) = (s : Int) ∧ s ≤ 65536 ∧ ln n k B = s + wd b k B ∧ wd b k B ≤ 4096 ∧ wd b k B = cdiv b k := by
  obtain ⟨h1, h2, h3, h4, h5, h6⟩ := h
  have hk : 1 ≤ k := by omega
  have hB : 1 ≤ B := by omega
  have hK := KB hk hB
  have hK2 : k * B ≤ 255 * 4096 := Nat.mul_le_mul (by omega) (by omega)
  have hm := Nat.mod_lt n (show k * B > 0 by omega)
  have hmn := Nat.mod_le n (k * B)
  have hdn := Nat.div_le_self n (k * B)
  have hl := ln_le n hk hB
  refine ⟨k * B, n / (k * B), n % (k * B), n / (k * B) * B, by simp, hK, by omega, by simp, by simp, by omega, by omega, by simp, ?_, rfl, ?_, wd_part hk (by omega)⟩
  · unfold ln at hl; omega
  · have := wd_le (n % (k * B)) k B; omega

theorem length_yes (n k B : Nat) (w : World) (h : MayN n k B) : Calls Try.prog 14 #[.int .i64 n, .int .i64 k, .int .i64 B] w fun e w' => e = .returned (.int .i64 (ln n k B : Nat)) ∧ ∃ m, w' = w.drewN m := by
  have m := may_yes n k B w h
  obtain ⟨K, a, b, s, e1, e2, e3, e4, e5, e6, e7, e8, e9, e10, e11, e12⟩ := ln_parts h
  obtain ⟨h1, h2, h3, h4, h5, h6⟩ := h
  have c : ∀ w, Calls Try.prog 18 #[.int .i64 b, .int .i64 k, .int .i64 B] w fun e w' => e = .returned (.int .i64 (wd b k B : Nat)) ∧ w' = w := fun w => (share_any b k B w e6 (by omega) (by omega) (by omega)).mono fun _ _ h => ⟨h.1, h.2.symm⟩
  rw [e10]
  clear e10 e12
  generalize wd b k B = d at *
  go_enter Try.func14, Try.ntmps14
  go_wp2_with fail
  go_at_call 16
  refine m.mono ?_
  rintro e w' ⟨rfl, rfl⟩
  clear m
  go_wp2
  go_quiet ((go_at_call 18; refine Calls.quiet_of_same (c _)))
  go_wp2
  go_ret
  exact ⟨rfl, _, rfl⟩

theorem rlength_yes (n k B : Nat) (w : World) (h : MayN n k B) : Calls Try.prog 15 #[.int .i64 n, .int .i64 k, .int .i64 B] w fun e w' => e = .returned (.int .i64 (ln n k B : Nat)) ∧ w = w' := by
  obtain ⟨K, a, b, s, e1, e2, e3, e4, e5, e6, e7, e8, e9, e10, e11, e12⟩ := ln_parts h
  obtain ⟨h1, h2, h3, h4, h5, h6⟩ := h
  have hE := cdiv_int b k (by omega)
  rw [e10]
  rw [← e12] at hE
  clear e10 e12
  generalize wd b k B = d at *
  go_enter Try.func15, Try.ntmps15
  go_wp2
  go_ret
  exact ⟨rfl, rfl⟩

theorem rlength_no (n k B : Int) (w : World) (h : ¬ MayN n k B) : Calls Try.prog 15 #[.int .i64 n, .int .i64 k, .int .i64 B] w fun e w' => e = .returned (.int .i64 0) ∧ w = w' := by
  unfold MayN at h
  by_cases h3 : k < 1
  · clear h
    go_enter Try.func15, Try.ntmps15
    go_wp2
    go_ret
    exact ⟨rfl, rfl⟩
  · have h3' := Int.not_lt.1 h3
    by_cases h4 : k > 255
    · clear h
      go_enter Try.func15, Try.ntmps15
      go_wp2
      go_ret
      exact ⟨rfl, rfl⟩
    · have h4' := Int.not_lt.1 h4
      by_cases h5 : B < 1
      · clear h
        go_enter Try.func15, Try.ntmps15
        go_wp2
        go_ret
        exact ⟨rfl, rfl⟩
      · have h5' := Int.not_lt.1 h5
        by_cases h6 : B > 4096
        · clear h
          go_enter Try.func15, Try.ntmps15
          go_wp2
          go_ret
          exact ⟨rfl, rfl⟩
        · have h6' := Int.not_lt.1 h6
          by_cases h1 : n < 0
          · clear h
            go_enter Try.func15, Try.ntmps15
            go_wp2
            go_ret
            exact ⟨rfl, rfl⟩
          · have h1' := Int.not_lt.1 h1
            have h2 : n > 65536 := by omega
            clear h
            go_enter Try.func15, Try.ntmps15
            go_wp2
            go_ret
            exact ⟨rfl, rfl⟩
end Go.Proofs.Ytfifcghjbdooeaa
