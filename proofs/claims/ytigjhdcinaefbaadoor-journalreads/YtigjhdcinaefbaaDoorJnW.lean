/-
  What the document's get of layer 4 answers.
-/
import Derived.Test.YtigjhdcinaefbaaDoorJnH
namespace Go.Proofs.YtigjhdcinaefbaaDoor
open Go.RowKit Crc
attribute [local go_sem ↓] Go.wp_at_zero Go.wp_at_succ
set_option linter.unusedVariables false

/-- The number so far, behind k of w bytes, the highest first. -/
def gvr (f : Nat → Nat) (p w : Nat) : Nat → Nat
  | 0 => 0
  | k + 1 => gvr f p w k * 256 + f (p + (w - 1 - k))
theorem gvr_lt {f : Nat → Nat} {p w : Nat} (hf : ∀ i, f i < 256) (k : Nat) (hk : k ≤ 4) : gvr f p w k < 256 ^ k := by
  induction k with
  | zero => unfold gvr; decide
  | succ k ih =>
    have h1 := ih (by omega)
    have h2 := hf (p + (w - 1 - k))
    unfold gvr
    rw [Nat.pow_succ]
    generalize 256 ^ k = q at *
    omega
theorem gvr_four {f : Nat → Nat} (p : Nat) : gvr f p 4 4 = le4 (fun i => f (p + i)) := by
  show (((0 * 256 + f (p + 3)) * 256 + f (p + 2)) * 256 + f (p + 1)) * 256 + f (p + 0) = f (p + 0) + 256 * f (p + 1) + 65536 * f (p + 2) + 16777216 * f (p + 3)
  generalize f (p + 0) = a
  generalize f (p + 1) = b
  generalize f (p + 2) = c
  generalize f (p + 3) = d
  omega
theorem gvr_two {f : Nat → Nat} (p : Nat) : gvr f p 2 2 = f p + 256 * f (p + 1) := by
  show (0 * 256 + f (p + 1)) * 256 + f (p + 0) = f (p + 0) + 256 * f (p + 1)
  generalize f (p + 0) = a
  generalize f (p + 1) = b
  omega
theorem or64r (a b : Nat) (ha : a < 16777216) (hb : b < 256) : bits .or .i64 ((a : Int) * 256) (b : Int) = ((a * 256 + b : Nat) : Int) := by
  rw [show (a : Int) * 256 = ((a * 2 ^ 8 : Nat) : Int) by simp, (bits_nat .i64 40 (by decide) wraps_i64' (a * 2 ^ 8) b (by omega) (by omega)).2, Nat.mul_comm a, ← Nat.two_pow_add_eq_or_of_lt hb]

set_option maxRecDepth 100000 in
set_option maxHeartbeats 1000000 in
theorem get_any (a : Option Addr) (n c p m : Nat) (f : Nat → Nat) (w : World) (h : Row w a n f) (hp : p + m ≤ n) (hm : m ≤ 4) (hn : n ≤ 262144) :
    Calls Tryd.prog 42 #[.slice a n c, .int .i64 (p : Int), .int .i64 (m : Int)] w fun e w' => e = .returned (.int .i64 ((gvr f p m m : Nat) : Int)) ∧ w = w' := by
  go_enter Tryd.func42, Tryd.ntmps42
  go_wp2
  go_loop [7, 8] (fun v i => ∃ j : Nat, j ≤ m ∧ v = .int .i64 ((gvr f p m (m - j) : Nat) : Int) ∧ i = .int .i64 ((j : Int) - 1)) (fun _ i => (intOf i + 1).toNat)
  case atStart => exact ⟨m, by omega, by rw [Nat.sub_self]; rfl, rfl⟩
  case round =>
    obtain ⟨j, hj, rfl, rfl⟩ := hrel
    cases j with
    | succ q =>
      have e0 : ((q + 1 : Nat) : Int) - 1 = (q : Int) := by omega
      rw [e0]
      clear e0
      obtain ⟨b, o, rfl, hc⟩ := h.lies (by omega)
      have c0 := hc (p + q) (by omega)
      have lx := h.lt (p + q)
      have lg := gvr_lt (p := p) (w := m) h.lt (m - (q + 1)) (by omega)
      have lg2 : gvr f p m (m - (q + 1)) < 16777216 := by
        have : (256 : Nat) ^ (m - (q + 1)) ≤ 256 ^ 3 := Nat.pow_le_pow_right (by omega) (by omega)
        have e3 : (256 : Nat) ^ 3 = 16777216 := rfl
        omega
      have ho := or64r (gvr f p m (m - (q + 1))) (f (p + q)) lg2 lx
      obtain ⟨y, hy⟩ : ∃ y, gvr f p m (m - (q + 1)) * 256 + f (p + q) = y := ⟨_, rfl⟩
      have HG : Hid (gvr f p m (m - q) = y) := by
        unfold Hid
        rw [show m - q = (m - (q + 1)) + 1 by omega, ← hy]
        show gvr f p m (m - (q + 1)) * 256 + f (p + (m - 1 - (m - (q + 1)))) = _
        rw [show m - 1 - (m - (q + 1)) = q by omega]
      have e1 : (p : Int) + (q : Int) = ((p + q : Nat) : Int) := by omega
      have i1 : ((p + q : Nat) : Int) < (n : Int) := by omega
      have i2 : p + q < n := by omega
      have b1 : ((gvr f p m (m - (q + 1)) : Nat) : Int) < 16777216 := by omega
      rw [hy] at ho
      clear hc lg h hy
      generalize f (p + q) = x at *
      generalize p + q = P at *
      generalize gvr f p m (m - (q + 1)) = g0 at *
      go_wp2
      go_round
      case rel => exact ⟨q, by omega, by rw [HG.out], rfl⟩
      case measure => simp [intOf]
    | zero =>
      clear h
      rw [Nat.sub_zero]
      obtain ⟨g0, hg0⟩ : ∃ g0, gvr f p m m = g0 := ⟨_, rfl⟩
      have HG : Hid (gvr f p m m = g0) := hg0
      rw [hg0]
      clear hg0
      go_wp2
      go_ret
      exact ⟨by rw [HG.out]; rfl, rfl⟩
end Go.Proofs.YtigjhdcinaefbaaDoor
