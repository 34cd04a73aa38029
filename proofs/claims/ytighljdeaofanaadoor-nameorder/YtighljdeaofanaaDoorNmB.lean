/-
  What the document's Bucket of layer 6 answers.
-/
import Derived.Test.YtighljdeaofanaaDoorNmR
namespace Go.Proofs.YtighljdeaofanaaDoor
open Go.RowKit Nm
attribute [local go_sem ↓] Go.wp_at_zero Go.wp_at_succ
set_option linter.unusedVariables false

/-- A bucket's name. -/
def bkt (l : List UInt8) : Bool := decide (3 ≤ l.length ∧ l.length ≤ 63) && bk true l
theorem al_eq {c : UInt8} {x : Nat} (h : c.toNat = x) : al c = (decide (97 ≤ x ∧ x ≤ 122) || decide (48 ≤ x ∧ x ≤ 57)) := by unfold al; rw [h]
theorem dt_eq {c : UInt8} {x : Nat} (h : c.toNat = x) : dt c = (decide (x = 45) || decide (x = 46)) := by unfold dt; rw [h]

set_option maxRecDepth 100000 in
set_option maxHeartbeats 4000000 in
theorem rbucket_any (s : ByteArray) (w : World) (hs : s.size ≤ maxLen) :
    Calls Tryd.prog 15 #[.string s] w fun e w' => e = .returned (.bool (bkt (tx s))) ∧ w = w' := by
  unfold maxLen at hs
  unfold bkt
  rw [tx_length]
  by_cases h1 : s.size < 3
  · rw [decide_eq_false (by omega), Bool.false_and]
    have g1 : (s.size : Int) < 3 := by omega
    go_enter Tryd.func15, Tryd.ntmps15
    go_wp2
    go_ret
    exact ⟨rfl, rfl⟩
  by_cases h2 : 63 < s.size
  · rw [decide_eq_false (by omega), Bool.false_and]
    have g1 : decide ((s.size : Int) < 3) = false := decide_eq_false (by omega)
    have g2 : (63 : Int) < (s.size : Int) := by omega
    go_enter Tryd.func15, Tryd.ntmps15
    go_wp2
    go_ret
    exact ⟨rfl, rfl⟩
  rw [decide_eq_true (by omega), Bool.true_and]
  have g1 : decide ((s.size : Int) < 3) = false := decide_eq_false (by omega)
  have g2 : decide ((63 : Int) < (s.size : Int)) = false := decide_eq_false (by omega)
  obtain ⟨L, hL⟩ : ∃ L, bk true (tx s) = L := ⟨_, rfl⟩
  rw [hL]
  have HL : Hid (bk true (tx s) = L) := hL
  clear hL
  go_enter Tryd.func15, Tryd.ntmps15
  go_wp2
  go_loop [3, 4] (fun b i => ∃ (k : Nat) (v : Bool), k ≤ s.size ∧ b = .bool v ∧ i = .int .i64 (k : Int) ∧ bk v ((tx s).drop k) = L) (fun _ i => s.size - (intOf i).toNat)
  case atStart => exact ⟨0, true, by omega, rfl, rfl, by simpa using HL.out⟩
  case round =>
    obtain ⟨k, v, hk, rfl, rfl, hl⟩ := hrel
    clear HL
    by_cases hlt : k < s.size
    · rw [tx_drop s k hlt, bk_cons] at hl
      have ik : (k : Int) < (s.size : Int) := by omega
      have hx := s[k].toNat_lt
      obtain ⟨x, hxe⟩ : ∃ x, s[k].toNat = x := ⟨_, rfl⟩
      rw [hxe] at hx
      rw [al_eq hxe, dt_eq hxe] at hl
      have hxi : (s[k].toNat : Int) = (x : Int) := by rw [hxe]
      have HX : Hid (s[k].toNat = x) := hxe
      clear hxe
      have hcase : (97 ≤ x ∧ x ≤ 122) ∨ (48 ≤ x ∧ x ≤ 57) ∨ (x = 45 ∨ x = 46) ∨ (x < 48 ∧ x ≠ 45 ∧ x ≠ 46) ∨ (57 < x ∧ x < 97) ∨ 122 < x := by omega
      rcases hcase with ⟨c1, c2⟩ | ⟨c1, c2⟩ | c1 | ⟨c1, c2, c3⟩ | ⟨c1, c2⟩ | c1
      · have HH : Hid (bk false ((tx s).drop (k + 1)) = L) := by
          have e1 : (decide (97 ≤ x ∧ x ≤ 122) || decide (48 ≤ x ∧ x ≤ 57)) = true := by simp; omega
          have e2 : (decide (x = 45) || decide (x = 46)) = false := by simp; omega
          rw [e1, e2] at hl
          unfold Hid; simpa using hl
        clear hl
        have n1 : ((x : Int) == 45) = false := by simp; omega
        have n2 : ((x : Int) == 46) = false := by simp; omega
        have i1 : (97 : Int) ≤ (x : Int) := by omega
        have i2 : (x : Int) ≤ 122 := by omega
        go_wp2
        go_round
        case rel => exact ⟨k + 1, false, by omega, rfl, by go_num, HH.out⟩
        case measure => simp [intOf]; omega
      · have HH : Hid (bk false ((tx s).drop (k + 1)) = L) := by
          have e1 : (decide (97 ≤ x ∧ x ≤ 122) || decide (48 ≤ x ∧ x ≤ 57)) = true := by simp; omega
          have e2 : (decide (x = 45) || decide (x = 46)) = false := by simp; omega
          rw [e1, e2] at hl
          unfold Hid; simpa using hl
        clear hl
        have n1 : ((x : Int) == 45) = false := by simp; omega
        have n2 : ((x : Int) == 46) = false := by simp; omega
        have i1 : (x : Int) < 97 := by omega
        have i2 : (48 : Int) ≤ (x : Int) := by omega
        have i3 : (x : Int) ≤ 57 := by omega
        go_wp2
        go_round
        case rel => exact ⟨k + 1, false, by omega, rfl, by go_num, HH.out⟩
        case measure => simp [intOf]; omega
      · have e1 : (decide (97 ≤ x ∧ x ≤ 122) || decide (48 ≤ x ∧ x ≤ 57)) = false := by simp; omega
        have e2 : (decide (x = 45) || decide (x = 46)) = true := by simp; omega
        rw [e1, e2] at hl
        have i1 : (x : Int) < 97 := by omega
        have i2 : (x : Int) < 48 := by omega
        cases v with
        | true =>
          have HH : Hid (false = L) := by unfold Hid; simpa using hl
          clear hl e1 e2
          rcases c1 with c1 | c1
          · have n1 : ((x : Int) == 45) = true := by simp; omega
            go_wp2
            go_ret
            exact ⟨ret_b HH.out, rfl⟩
          · have n1 : ((x : Int) == 45) = false := by simp; omega
            have n2 : ((x : Int) == 46) = true := by simp; omega
            go_wp2
            go_ret
            exact ⟨ret_b HH.out, rfl⟩
        | false =>
          have HH : Hid (bk true ((tx s).drop (k + 1)) = L) := by unfold Hid; simpa using hl
          clear hl e1 e2
          rcases c1 with c1 | c1
          · have n1 : ((x : Int) == 45) = true := by simp; omega
            go_wp2
            go_round
            case rel => exact ⟨k + 1, true, by omega, rfl, by go_num, HH.out⟩
            case measure => simp [intOf]; omega
          · have n1 : ((x : Int) == 45) = false := by simp; omega
            have n2 : ((x : Int) == 46) = true := by simp; omega
            go_wp2
            go_round
            case rel => exact ⟨k + 1, true, by omega, rfl, by go_num, HH.out⟩
            case measure => simp [intOf]; omega
      · have e1 : (decide (97 ≤ x ∧ x ≤ 122) || decide (48 ≤ x ∧ x ≤ 57)) = false := by simp; omega
        have e2 : (decide (x = 45) || decide (x = 46)) = false := by simp; omega
        rw [e1, e2] at hl
        have HH : Hid (false = L) := by unfold Hid; simpa using hl
        clear hl e1 e2
        have n1 : ((x : Int) == 45) = false := by simp; omega
        have n2 : ((x : Int) == 46) = false := by simp; omega
        have i1 : (x : Int) < 97 := by omega
        have i2 : (x : Int) < 48 := by omega
        go_wp2
        go_ret
        exact ⟨ret_b HH.out, rfl⟩
      · have e1 : (decide (97 ≤ x ∧ x ≤ 122) || decide (48 ≤ x ∧ x ≤ 57)) = false := by simp; omega
        have e2 : (decide (x = 45) || decide (x = 46)) = false := by simp; omega
        rw [e1, e2] at hl
        have HH : Hid (false = L) := by unfold Hid; simpa using hl
        clear hl e1 e2
        have n1 : ((x : Int) == 45) = false := by simp; omega
        have n2 : ((x : Int) == 46) = false := by simp; omega
        have i1 : (x : Int) < 97 := by omega
        have i2 : (48 : Int) ≤ (x : Int) := by omega
        have i3 : (57 : Int) < (x : Int) := by omega
        go_wp2
        go_ret
        exact ⟨ret_b HH.out, rfl⟩
      · have e1 : (decide (97 ≤ x ∧ x ≤ 122) || decide (48 ≤ x ∧ x ≤ 57)) = false := by simp; omega
        have e2 : (decide (x = 45) || decide (x = 46)) = false := by simp; omega
        rw [e1, e2] at hl
        have HH : Hid (false = L) := by unfold Hid; simpa using hl
        clear hl e1 e2
        have n1 : ((x : Int) == 45) = false := by simp; omega
        have n2 : ((x : Int) == 46) = false := by simp; omega
        have i1 : (97 : Int) ≤ (x : Int) := by omega
        have i2 : (122 : Int) < (x : Int) := by omega
        have i3 : (48 : Int) ≤ (x : Int) := by omega
        have i4 : (57 : Int) < (x : Int) := by omega
        go_wp2
        go_ret
        exact ⟨ret_b HH.out, rfl⟩
    · have hd : (tx s).drop k = [] := List.drop_eq_nil_of_le (by rw [tx_length]; omega)
      rw [hd] at hl
      have HH : Hid ((!v) = L) := hl
      have ik : (s.size : Int) ≤ (k : Int) := by omega
      clear hl hd
      go_wp2
      go_ret
      exact ⟨ret_b HH.out, rfl⟩
end Go.Proofs.YtighljdeaofanaaDoor
