/-
  What gf.Table.Exp does with a table of New: it answers the power, whatever the number, and changes nothing.
-/
import Derived.Test.YtbfhmdphhhjlnaaNew
import Derived.Deep.QuietTactic
import Derived.BigQuiet
namespace Go.Proofs.Ytbfhmdphhhjlnaa
open Go.RowKit Gf

structure Tab (w : World) (b : Nat) : Prop where
  exp : ∀ i, i < 255 → w.cell? ⟨b, i, none⟩ = some (.int .u8 ((E i : Nat) : Int))
  log : ∀ j, j < 256 → w.cell? ⟨b, 255 + j, none⟩ = some (.int .u8 ((L j : Nat) : Int))
  one : w.cell? ⟨b, 0, none⟩ = some (.int .u8 1)

theorem Upto.tab {w : World} {b : Nat} (h : Upto w b 255) : Tab w b := by
  refine ⟨fun i hi => by rw [h.exp i hi, if_pos hi], fun j hj => ?_, by rw [h.exp 0 (by omega), if_pos (by omega), E_zero]; rfl⟩
  rw [h.log j hj]
  by_cases z : 0 < j
  · rw [if_pos ⟨z, L_lt hj z⟩]
  · have e : j = 0 := by omega
    subst e; rw [if_neg (by omega), L_zero]

set_option maxHeartbeats 400000 in
theorem built_any (b : Nat) (w : World) (h : w.cell? ⟨b, 0, none⟩ = some (.int .u8 1)) :
    Calls Try.prog 61 #[.pointer (some ⟨b, 0, none⟩)] w fun e w' => e = .returned (.bool true) ∧ w = w' := by
  go_enter Try.func61, Try.ntmps61
  go_wp2
  go_ret
  exact ⟨rfl, rfl⟩

theorem tmod_form (n : Int) : (0 ≤ n ∧ n.tmod 255 = n % 255) ∨ (n < 0 ∧ n % 255 = 0 ∧ n.tmod 255 = 0) ∨ (n < 0 ∧ n % 255 ≠ 0 ∧ n.tmod 255 = n % 255 - 255) := by
  rcases Int.lt_or_le n 0 with h | h
  · have q : n.tmod 255 = -((-n) % 255) := by
      have e : n.tmod 255 = -((-n).tmod 255) := by rw [Int.neg_tmod]; omega
      rw [e, Int.tmod_eq_emod_of_nonneg (by omega)]
    by_cases z : n % 255 = 0
    · exact .inr (.inl ⟨h, z, by omega⟩)
    · exact .inr (.inr ⟨h, z, by omega⟩)
  · exact .inl ⟨h, Int.tmod_eq_emod_of_nonneg h⟩

set_option maxRecDepth 100000 in
set_option maxHeartbeats 400000 in
theorem exp_any (b : Nat) (n : Int) (w : World) (h : Tab w b) (n1 : -9223372036854775808 ≤ n) (n2 : n ≤ 9223372036854775807) :
    Calls Try.prog 67 #[.pointer (some ⟨b, 0, none⟩), .int .i64 n] w fun e w' => e = .returned (.int .u8 ((E (n % 255).toNat : Nat) : Int)) ∧ w = w' := by
  have h1 := h.one
  have hc := h.exp (n % 255).toNat (by omega)
  have hlt := E_lt (n % 255).toNat
  generalize E (n % 255).toNat = p at *
  clear h
  rcases tmod_form n with ⟨g0, g⟩ | ⟨g0, g2, g⟩ | ⟨g0, g2, g⟩
  · clear g
    go_enter Try.func67, Try.ntmps67
    go_wp2_with (go_at_call 61; refine (built_any _ _ h1).mono ?_; rintro e w' ⟨rfl, rfl⟩)
    go_ret
    exact ⟨rfl, rfl⟩
  · have G : Hid (n.tmod 255 = 0) := g
    have g3 : 0 ≤ n.tmod 255 := by omega
    have g4 : n.tmod 255 < 1 := by omega
    have hc' : w.cell? ⟨b, (n.tmod 255).toNat, none⟩ = some (.int .u8 (p : Int)) := by rw [g]; rw [g2] at hc; exact hc
    clear g hc g2
    go_enter Try.func67, Try.ntmps67
    go_wp2_with (go_at_call 61; refine (built_any _ _ h1).mono ?_; rintro e w' ⟨rfl, rfl⟩)
    go_ret
    exact ⟨rfl, rfl⟩
  · have g3 : n.tmod 255 < 0 := by omega
    have g4 : -255 < n.tmod 255 := by omega
    have hc' : w.cell? ⟨b, (n.tmod 255 + 255).toNat, none⟩ = some (.int .u8 (p : Int)) := by rw [g]; rw [show n % 255 - 255 + 255 = n % 255 by omega]; exact hc
    clear g hc g2
    go_enter Try.func67, Try.ntmps67
    go_wp2_with (go_at_call 61; refine (built_any _ _ h1).mono ?_; rintro e w' ⟨rfl, rfl⟩)
    go_ret
    exact ⟨rfl, rfl⟩
end Go.Proofs.Ytbfhmdphhhjlnaa
