/-
  What the document's own Pow, Exp, Log, Inv, Div answer: the same as a table's; they change nothing.
-/
import Derived.Test.YtbfhmdphhhjlnaaMul
namespace Go.Proofs.Ytbfhmdphhhjlnaa
open Go.RowKit Gf

theorem L_one : L 1 = 0 := by decide +kernel
theorem L_two : L 2 = 1 := by decide +kernel
theorem dv_one {a : Nat} (h0 : 0 < a) : dv 1 a = inv a := by
  unfold dv inv; rw [if_neg (by omega), L_one, Nat.zero_add]
theorem dv_one_zero : dv 1 0 = 0 := rfl
theorem M_dv {a b : Nat} (ha : a < 256) (hb : b < 256) : M a (dv 1 b) = dv a b := by
  by_cases b0 : b = 0
  · subst b0; rw [dv_one_zero, M_zero_right]; unfold dv; rw [if_pos (.inr rfl)]
  · rw [dv_one (by omega)]; unfold inv
    by_cases a0 : a = 0
    · subst a0; rw [M_zero_left]; unfold dv; rw [if_pos (.inl rfl)]
    · have l := L_lt hb (by omega)
      conv => lhs; arg 1; rw [← E_L ha (by omega)]
      rw [M_EE]; unfold dv; rw [if_neg (by omega)]; congr 1; omega
theorem pw_P {x : Nat} {n : Int} (hx : x < 256) (hn : 0 ≤ n) (h : n = 0 ∨ 0 < x) : pw x n = P x (n % 255).toNat := by
  unfold pw; rw [if_neg (by omega)]
  by_cases z : n = 0
  · subst z; rw [if_pos rfl]; rfl
  · rw [if_neg z, if_neg (by omega), P_log hx (by omega)]
theorem pw_two (m : Int) (h : 0 ≤ m) (k : m < 255) : pw 2 m = E m.toNat := by
  rw [pw_P (by omega) h (.inr (by omega)), P_two]; exact E_congr (by omega)

theorem u8_eq {a b : Nat} (h : a = b) : Value.int .u8 (a : Int) = .int .u8 (b : Int) := by rw [h]

set_option maxRecDepth 100000 in
set_option maxHeartbeats 400000 in
theorem rpow_any (x : Nat) (n : Int) (w : World) (hx : x < 256) (n1 : -9223372036854775808 ≤ n) (n2 : n ≤ 9223372036854775807) :
    Calls Try.prog 66 #[.int .u8 x, .int .i64 n] w fun e w' => e = .returned (.int .u8 (pw x n : Nat)) ∧ w = w' := by
  by_cases hn : n < 0
  · have e : pw x n = 0 := by unfold pw; rw [if_pos hn]
    rw [e]; clear e
    go_enter Try.func66, Try.ntmps66
    go_wp2
    go_ret
    exact ⟨rfl, rfl⟩
  by_cases hz : 0 < n ∧ x = 0
  · obtain ⟨h1, rfl⟩ := hz
    have e : pw 0 n = 0 := by unfold pw; rw [if_neg hn, if_neg (by omega), if_pos rfl]
    rw [e]; clear e hn
    go_enter Try.func66, Try.ntmps66
    go_wp2
    go_ret
    exact ⟨rfl, rfl⟩
  have hn' : 0 ≤ n := by omega
  rw [pw_P hx hn' (by omega)]
  have fin : (0 < n ∧ ((x : Int) == 0) = false) ∨ n = 0 := by
    rcases Int.lt_or_le 0 n with h | h
    · exact .inl ⟨h, by simp; omega⟩
    · exact .inr (by omega)
  clear hz
  rcases fin with ⟨h1, h2⟩ | h1
  · clear hn
    go_enter Try.func66, Try.ntmps66
    go_wp2
    go_loop [5, 6] (fun p i => ∃ k : Nat, (k : Int) ≤ n % 255 ∧ p = .int .u8 (P x k : Nat) ∧ i = .int .i64 k) (fun _ i => 255 - (intOf i).toNat)
    case atStart => exact ⟨0, by omega, rfl, rfl⟩
    case round =>
      obtain ⟨k, hk, rfl, rfl⟩ := hrel
      by_cases hlt : (k : Int) < n % 255
      · have hp := P_lt (a := x) k
        have hM := fun w => rmul_any (P x k) x w hp hx
        have HP : Hid (P x (k + 1) = M (P x k) x) := rfl
        generalize M (P x k) x = m at *
        generalize P x k = p at *
        go_wp2_with (go_at_call 40; refine (hM _).mono ?_; rintro e w' ⟨rfl, rfl⟩)
        go_round
        case rel => exact ⟨k + 1, by omega, u8_eq HP.out.symm, by go_num⟩
        case measure => simp [intOf]; omega
      · have e : (n % 255).toNat = k := by omega
        obtain ⟨p, hp⟩ : ∃ p, P x k = p := ⟨_, rfl⟩
        have HK : Hid (p = P x (n % 255).toNat) := by rw [e]; exact hp.symm
        clear e
        rw [hp]
        clear hp
        go_wp2
        go_ret
        exact ⟨ret_u8 HK.out, rfl⟩
  · subst h1
    clear hn hn'
    go_enter Try.func66, Try.ntmps66
    go_wp2
    go_loop [5, 6] (fun p i => p = .int .u8 1 ∧ i = .int .i64 0) (fun _ i => 255 - (intOf i).toNat)
    case atStart => exact ⟨rfl, rfl⟩
    case round =>
      obtain ⟨rfl, rfl⟩ := hrel
      go_wp2
      go_ret
      exact ⟨rfl, rfl⟩

theorem ret2 {u v : Value} {p q : Bool} (h : u = v) (k : p = q) : Ending.returned (.tuple #[u, .bool p]) = .returned (.tuple #[v, .bool q]) := by rw [h, k]

set_option maxRecDepth 100000 in
set_option maxHeartbeats 400000 in
theorem rinv_any (a : Nat) (w : World) (ha : a < 256) :
    Calls Try.prog 52 #[.int .u8 a] w fun e w' => e = .returned (.tuple #[.int .u8 (dv 1 a : Nat), .bool (decide (0 < a))]) ∧ w = w' := by
  go_enter Try.func52, Try.ntmps52
  go_wp2
  go_loop [4] (fun i => ∃ k : Nat, k ≤ 256 ∧ 1 ≤ k ∧ (∀ j, j < k → M a j ≠ 1) ∧ i = .int .i64 k) (fun i => 256 - (intOf i).toNat)
  case atStart => exact ⟨1, by omega, by omega, fun j hj => by rw [show j = 0 by omega, M_zero_right]; omega, rfl⟩
  case round =>
    obtain ⟨k, hk, hk1, hj, rfl⟩ := hrel
    have HJ : Hid (∀ j, j < k → M a j ≠ 1) := hj
    clear hj
    by_cases hlt : k < 256
    · have hE := fun w => rmul_any a k w ha hlt
      by_cases he : M a k = 1
      · have HL : Hid (k = dv 1 a ∧ 0 < a) := by
          obtain ⟨h0, h1⟩ := M_eq_one ha hlt he
          exact ⟨by rw [dv_one h0]; exact h1, h0⟩
        rw [he] at hE
        clear he
        go_wp2_with (go_at_call 40; refine (hE _).mono ?_; rintro e w' ⟨rfl, rfl⟩)
        go_ret2
        exact ⟨ret2 (by rw [← HL.out.1]; rfl) (decide_eq_true HL.out.2).symm, rfl⟩
      · have hd : (((M a k : Nat) : Int) == 1) = false := by simp; omega
        have HN : Hid (∀ j, j < k + 1 → M a j ≠ 1) := fun j hj => by
          rcases Nat.lt_or_ge j k with h | h
          · exact HJ.out j h
          · have e : j = k := by omega
            subst e; exact he
        clear he HJ
        generalize M a k = p at *
        go_wp2_with (go_at_call 40; refine (hE _).mono ?_; rintro e w' ⟨rfl, rfl⟩)
        go_round
        case rel => exact ⟨k + 1, by omega, by omega, HN.out, by go_num⟩
        case measure => simp [intOf]; omega
    · have HZ : Hid (a = 0) := by
        rcases Nat.eq_zero_or_pos a with z | z
        · exact z
        · exact absurd (M_inv ha z) (HJ.out (inv a) (by have := inv_lt a; omega))
      clear HJ
      go_wp2
      go_ret2
      exact ⟨ret2 (by rw [HZ.out, dv_one_zero]; rfl) (by rw [HZ.out]; rfl), rfl⟩

end Go.Proofs.Ytbfhmdphhhjlnaa
