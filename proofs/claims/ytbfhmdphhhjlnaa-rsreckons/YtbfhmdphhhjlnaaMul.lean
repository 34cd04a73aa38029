/-
  What gf.Mul and the document's own Mul do: both answer the product bit by bit, and change nothing.
-/
import Derived.Test.YtbfhmdphhhjlnaaOps
namespace Go.Proofs.Ytbfhmdphhhjlnaa
open Go.RowKit Gf

theorem low_bit (b : Nat) (h : b < 256) : (bits .and .u8 (b : Int) 1 == 1) = decide (b % 2 = 1) := by
  rw [show (1 : Int) = ((1 : Nat) : Int) from rfl, u8_and_nat b 1 h (by omega), nat_mask1]
  by_cases e : b % 2 = 1
  · simp [e]
  · have q : b % 2 = 0 := by omega
    simp [q]

theorem Mf_succ (f a b : Nat) : Mf (f + 1) a b = (if b % 2 = 1 then a else 0) ^^^ Mf f (dbl a) (b / 2) := rfl

theorem i64_xor_nat (a b : Nat) (ha : a < 1024) (hb : b < 1024) : bits .xor .i64 (a : Int) (b : Int) = ((a ^^^ b : Nat) : Int) := by
  have hl : a ^^^ b < 1024 := Nat.xor_lt_two_pow (n := 10) ha hb
  have e1 : a % 2 ^ IntKind.i64.bits = a := Nat.mod_eq_of_lt (by simp [IntKind.bits]; omega)
  have e2 : b % 2 ^ IntKind.i64.bits = b := Nat.mod_eq_of_lt (by simp [IntKind.bits]; omega)
  simp only [bits, BitVec.ofInt_natCast, BitVec.toNat_xor, BitVec.toNat_ofNat, e1, e2]
  rw [IntKind.wrap_i64]; omega

theorem hi_all : ∀ u, u < 256 → 256 ≤ u * 2 → (u * 2) ^^^ 285 = dbl u := by decide +kernel
theorem dbl_i64_hi (u : Nat) (hu : u < 256) (h : (256 : Int) ≤ (u : Int) * 2) : bits .xor .i64 ((u : Int) * 2) 285 = ((dbl u : Nat) : Int) := by
  rw [show (u : Int) * 2 = ((u * 2 : Nat) : Int) by omega, show (285 : Int) = ((285 : Nat) : Int) from rfl, i64_xor_nat _ _ (by omega) (by omega), hi_all u hu (by omega)]
theorem dbl_i64_lo (u : Nat) (h : (u : Int) * 2 < 256) : (u : Int) * 2 = ((dbl u : Nat) : Int) := by
  unfold dbl; rw [if_pos (by omega)]; omega
theorem at_bit (y k : Nat) (hy : y < 256) : (bits .and .u8 ((y : Int) / 2 ^ k) 1 == 1) = decide (y / 2 ^ k % 2 = 1) := by
  have e : (y : Int) / 2 ^ k = ((y / 2 ^ k : Nat) : Int) := by simp
  rw [e, low_bit _ (Nat.lt_of_le_of_lt (Nat.div_le_self _ _) hy)]

theorem rstep (x y k u q : Nat) (hk : k < 8) (h : q ^^^ Mf (8 - k) u (y / 2 ^ k) = M x y) :
    (y / 2 ^ k % 2 = 1 → (q ^^^ u) ^^^ Mf (8 - (k + 1)) (dbl u) (y / 2 ^ (k + 1)) = M x y) ∧ (¬ y / 2 ^ k % 2 = 1 → q ^^^ Mf (8 - (k + 1)) (dbl u) (y / 2 ^ (k + 1)) = M x y) := by
  have e : 8 - k = (8 - (k + 1)) + 1 := by omega
  rw [e, Mf_succ] at h
  have d : y / 2 ^ (k + 1) = y / 2 ^ k / 2 := by rw [Nat.pow_succ, Nat.div_div_eq_div_mul]
  constructor
  · intro o; rw [if_pos o] at h; rw [d, Nat.xor_assoc]; exact h
  · intro o; rw [if_neg o, Nat.zero_xor] at h; rw [d]; exact h

theorem i64_eq {a b : Int} (h : a = b) : Value.int .i64 a = .int .i64 b := by rw [h]

set_option maxRecDepth 100000 in
set_option maxHeartbeats 1000000 in
theorem rmul_any (x y : Nat) (w : World) (hx : x < 256) (hy : y < 256) :
    Calls Try.prog 40 #[.int .u8 x, .int .u8 y] w fun e w' => e = .returned (.int .u8 (M x y : Nat)) ∧ w = w' := by
  go_enter Try.func40, Try.ntmps40
  go_wp2
  go_loop [5, 6, 7] (fun a p i => ∃ k u q : Nat, k ≤ 8 ∧ u < 256 ∧ q < 256 ∧ q ^^^ Mf (8 - k) u (y / 2 ^ k) = M x y ∧ a = .int .i64 u ∧ p = .int .i64 q ∧ i = .int .i64 k) (fun _ _ i => 8 - (intOf i).toNat)
  case atStart => exact ⟨0, x, 0, by omega, hx, by omega, by simp [M], rfl, rfl, rfl⟩
  case round =>
    obtain ⟨k, u, q, hk, hu, hq, hM, rfl, rfl, rfl⟩ := hrel
    by_cases hlt : k < 8
    · have HS : Hid _ := rstep x y k u q hlt hM
      have HB : Hid _ := at_bit y k hy
      have hxl := xor_lt hq hu
      have hdu := dbl_lt hu
      clear hM
      go_wp2
      all_goals
        have HS' := HS.out
        have HB' := HB.out
        clear HS HB
      all_goals go_round
      case rel =>
        rename_i h1 h2
        rw [h1] at HB'
        exact ⟨k + 1, dbl u, q ^^^ u, by omega, hdu, hxl, HS'.1 (of_decide_eq_true HB'.symm), i64_eq (dbl_i64_hi u hu h2), i64_eq (i64_xor_nat q u (by omega) (by omega)), by go_num⟩
      case measure => simp [intOf]; omega
      case rel =>
        rename_i h1 h2
        rw [h1] at HB'
        exact ⟨k + 1, dbl u, q ^^^ u, by omega, hdu, hxl, HS'.1 (of_decide_eq_true HB'.symm), i64_eq (dbl_i64_lo u h2), i64_eq (i64_xor_nat q u (by omega) (by omega)), by go_num⟩
      case measure => simp [intOf]; omega
      case rel =>
        rename_i h1 h2
        rw [h1] at HB'
        exact ⟨k + 1, dbl u, q, by omega, hdu, hq, HS'.2 (of_decide_eq_false HB'.symm), i64_eq (dbl_i64_hi u hu h2), rfl, by go_num⟩
      case measure => simp [intOf]; omega
      case rel =>
        rename_i h1 h2
        rw [h1] at HB'
        exact ⟨k + 1, dbl u, q, by omega, hdu, hq, HS'.2 (of_decide_eq_false HB'.symm), i64_eq (dbl_i64_lo u h2), rfl, by go_num⟩
      case measure => simp [intOf]; omega
    · have e : k = 8 := by omega
      subst e
      have HM : Hid (q = M x y) := by
        have z : y / 2 ^ 8 = 0 := by omega
        rw [z, Mf_zero, Nat.xor_zero] at hM; exact hM
      clear hM hlt hk
      go_wp2
      go_ret
      exact ⟨ret_u8 HM.out, rfl⟩
end Go.Proofs.Ytbfhmdphhhjlnaa
