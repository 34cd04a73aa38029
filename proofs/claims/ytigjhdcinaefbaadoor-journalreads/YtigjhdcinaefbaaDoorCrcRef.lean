/-
  What the document's More, Sum, little, Bytes of layer 4 do.
-/
import Derived.Test.YtigjhdcinaefbaaDoorCrc
namespace Go.Proofs.YtigjhdcinaefbaaDoor
open Go.RowKit Crc
attribute [local go_sem ↓] Go.wp_at_zero Go.wp_at_succ

theorem itn_succ (n s : Nat) : itn (n + 1) s = st (itn n s) := itn_add n 1 s

set_option maxRecDepth 100000 in
set_option maxHeartbeats 1000000 in
theorem rmore_any (s : Nat) (a : Option Addr) (n c : Nat) (f : Nat → Nat) (w : World) (h : Row w a n f) (hs : s < 4294967296) (hn : n ≤ maxLen) :
    Calls Tryd.prog 46 #[.int .u32 s, .slice a n c] w fun e w' => e = .returned (.int .u32 (more s n f : Nat)) ∧ w = w' := by
  unfold maxLen at hn
  have sg : IntKind.u32.signed = false := rfl
  have l0 : s ^^^ full < 4294967296 := Nat.xor_lt_two_pow (n := 32) hs (by unfold full; omega)
  have x0 : bits .xor .u32 IntKind.u32.max (s : Int) = ((s ^^^ full : Nat) : Int) := by
    rw [Nat.xor_comm]; exact u32_xor full s (by unfold full; omega) hs
  have lr := fun k => rb_lt k (f := f) l0 h.lt
  have HM : Hid (more s n f = rb n (s ^^^ full) f ^^^ full) := rfl
  generalize more s n f = z at *
  generalize s ^^^ full = s1 at *
  go_enter Tryd.func46, Tryd.ntmps46
  go_wp2
  clear x0
  go_loop [0, 5] (fun p i => ∃ k : Nat, k ≤ n ∧ p = .int .u32 (rb k s1 f : Nat) ∧ i = .int .i64 k) (fun _ i => n - (intOf i).toNat)
  case atStart => exact ⟨0, by omega, rfl, rfl⟩
  case round =>
    obtain ⟨k, hk, rfl, rfl⟩ := hrel
    have lp := lr k
    by_cases hlt : k < n
    · obtain ⟨b, o, rfl, hc⟩ := h.lies (by omega)
      have c0 := hc k hlt
      have lx := h.lt k
      have HR : Hid (rb (k + 1) s1 f = itn 8 (rb k s1 f ^^^ f k)) := rfl
      generalize rb k s1 f = p at *
      generalize f k = x at *
      have lq : p ^^^ x < 4294967296 := Nat.xor_lt_two_pow (n := 32) lp (by omega)
      have e1 : bits .xor .u32 (p : Int) (x : Int) = ((p ^^^ x : Nat) : Int) := u32_xor p x lp (by omega)
      generalize p ^^^ x = q at *
      have ik : (k : Int) < (n : Int) := by omega
      clear hc h lr
      go_wp2
      go_loop [0, 6] (fun p i => ∃ j : Nat, j ≤ 8 ∧ p = .int .u32 (itn j q : Nat) ∧ i = .int .i64 j) (fun _ i => 8 - (intOf i).toNat)
      case atStart => exact ⟨0, by omega, rfl, rfl⟩
      case round =>
        obtain ⟨j, hj, rfl, rfl⟩ := hrel
        by_cases hlt2 : j < 8
        · have ij : (j : Int) < 8 := by omega
          have HN : Hid (itn (j + 1) q = st (itn j q)) := itn_succ j q
          have lt := itn_lt j lq
          generalize itn j q = t at *
          have hb : bits .and .u32 (t : Int) 1 = ((t % 2 : Nat) : Int) := u32_mask t 1 lt (by omega)
          by_cases od : t % 2 = 1
          · have HS : Hid (st t = t / 2 ^^^ 2197175160) := if_pos od
            have x1 : bits .xor .u32 ((t : Int) / 2) 2197175160 = ((t / 2 ^^^ 2197175160 : Nat) : Int) := by
              rw [show (t : Int) / 2 = ((t / 2 : Nat) : Int) by omega]; exact u32_xor (t / 2) 2197175160 (by omega) (by omega)
            rw [od] at hb
            generalize t / 2 ^^^ 2197175160 = u at *
            clear od
            go_wp2
            go_round
            case rel => exact ⟨j + 1, by omega, u32_eq (HN.out.trans HS.out).symm, by go_num⟩
            case measure => simp [intOf]; omega
          · have HS : Hid (st t = t / 2) := if_neg od
            rw [show t % 2 = 0 by omega] at hb
            have x1 : (t : Int) / 2 = ((t / 2 : Nat) : Int) := by omega
            generalize t / 2 = u at *
            clear od
            go_wp2
            go_round
            case rel => exact ⟨j + 1, by omega, u32_eq (HN.out.trans HS.out).symm, by go_num⟩
            case measure => simp [intOf]; omega
        · have : j = 8 := by omega
          subst this
          generalize itn 8 q = t at *
          go_wp2
          go_round
          case rel => exact ⟨k + 1, by omega, u32_eq HR.out.symm, by go_num⟩
          case measure => simp [intOf]; omega
    · have : k = n := by omega
      subst this
      have x3 : bits .xor .u32 IntKind.u32.max ((rb k s1 f : Nat) : Int) = ((rb k s1 f ^^^ full : Nat) : Int) := by
        rw [Nat.xor_comm]; exact u32_xor full _ (by unfold full; omega) lp
      generalize rb k s1 f ^^^ full = z' at *
      generalize rb k s1 f = p at *
      clear h lr
      go_wp2
      go_ret
      exact ⟨ret_u32 HM.out.symm, rfl⟩

set_option maxRecDepth 100000 in
theorem rsum_any (a : Option Addr) (n c : Nat) (f : Nat → Nat) (w : World) (h : Row w a n f) (hn : n ≤ maxLen) :
    Calls Tryd.prog 36 #[.slice a n c] w fun e w' => e = .returned (.int .u32 (sum n f : Nat)) ∧ w = w' := by
  have cM := rmore_any 0 a n c f w h (by omega) hn
  have HS : Hid (more 0 n f = sum n f) := rfl
  generalize more 0 n f = z at *
  go_enter Tryd.func36, Tryd.ntmps36
  go_wp2_with fail
  go_at_call 46
  refine cM.mono ?_
  rintro e w' ⟨rfl, rfl⟩
  go_wp2
  go_ret
  exact ⟨ret_u32 HS.out, rfl⟩

set_option maxRecDepth 100000 in
set_option maxHeartbeats 1000000 in
theorem little_any (s m : Nat) (w : World) (_ : s < 9223372036854775808) (hm : m ≤ 8) :
    Calls Tryd.prog 34 #[.int .i64 s, .int .i64 m] w fun e w' => ∃ v, e = .returned v ∧ Own w' w.heap.size v m (by4 s) ∧ Below w.heap.size w w' := by
  go_enter Tryd.func34, Tryd.ntmps34
  go_wp2
  go_loopw [5, 6] (fun v i wr => ∃ k : Nat, k ≤ m ∧ i = .int .i64 k ∧ Own wr w.heap.size v k (by4 s) ∧ Below w.heap.size w wr) (fun _ i _ => m - (intOf i).toNat)
  case atStart => exact ⟨0, by omega, rfl, Own.start _ _ _, Below.refl _ _⟩
  case round =>
    obtain ⟨k, hk, rfl, ho, hb⟩ := hrel
    by_cases hlt : k < m
    · have ik : (k : Int) < (m : Int) := by omega
      obtain ⟨v', W, hr, ho2, hb2⟩ := push1 ho (by4_lt s k) (by omega) hb.size rfl
      have HA : Hid _ := hr
      have HO : Hid _ := ho2
      have HB : Hid (Below w.heap.size w W) := hb.trans hb2
      have ex : (s : Int) / 2 ^ (8 * k) % 256 = ((by4 s k : Nat) : Int) := by
        unfold by4
        rw [show (256 : Nat) ^ k = 2 ^ (8 * k) by rw [Nat.pow_mul]]
        simp
      generalize by4 s k = x at *
      clear hr ho ho2 hb hb2
      go_wp2_with (at_builtin; refine wpList_append_ran (by rfl) _ _ 27 (by rfl) _ _ _ _ (by rfl) (by rfl) HA.out ?_)
      go_wp2
      go_round
      case rel => exact ⟨k + 1, by omega, by go_num, HO.out, HB.out⟩
      case measure => simp [intOf]; omega
    · have : k = m := by omega
      subst this
      have HO : Hid _ := ho
      clear ho
      go_wp2
      go_ret
      exact ⟨_, rfl, HO.out, hb⟩

set_option maxRecDepth 100000 in
theorem rbytes_any (s : Nat) (w : World) (hs : s < 4294967296) :
    Calls Tryd.prog 35 #[.int .u32 s] w fun e w' => ∃ v, e = .returned v ∧ Own w' w.heap.size v 4 (by4 s) ∧ Below w.heap.size w w' := by
  have cL := little_any s 4 w (by omega) (by omega)
  go_enter Tryd.func35, Tryd.ntmps35
  go_wp2_with fail
  go_at_call 34
  refine cL.mono ?_
  rintro e w' ⟨v, rfl, ho, hb⟩
  have HO : Hid _ := ho
  clear ho
  go_wp2
  go_ret
  exact ⟨_, rfl, HO.out, hb⟩
end Go.Proofs.YtigjhdcinaefbaaDoor
