/-
  What the program's Less, Prefix, digit of layer 6 answer.
-/
import Derived.Test.YthkhkijdehbbmaaNmR
import Derived.Laws.Externs
set_option maxRecDepth 100000
namespace Go.Proofs.Ythkhkijdehbbmaa
open Go.RowKit Nm
attribute [local go_sem ↓] Go.wp_at_zero Go.wp_at_succ
set_option linter.unusedVariables false

theorem less_ls (a : List UInt8) : ∀ b, Op.bytesLess a b = ls a b := by
  induction a with
  | nil => intro b; cases b <;> rfl
  | cons x a ih =>
    intro b
    cases b with
    | nil => rfl
    | cons y b =>
      rw [ls_cons, ← ih b]
      show (decide (x < y) || (x == y) && Op.bytesLess a b) = _
      by_cases e : x = y
      · subst e
        rw [if_pos rfl]
        show (decide (x < x) || (x == x) && Op.bytesLess a b) = Op.bytesLess a b
        have : ¬ x < x := fun q => absurd (UInt8.lt_iff_toNat_lt.1 q) (by omega)
        simp [this]
      · have := u8_ne e
        rw [if_neg e]
        by_cases hl : x.toNat < y.toNat
        · have h1 : x < y := UInt8.lt_iff_toNat_lt.2 hl
          simp [h1, hl]
        · have h1 : ¬ x < y := fun q => hl (UInt8.lt_iff_toNat_lt.1 q)
          simp [h1, hl, e]
set_option maxRecDepth 100000 in
theorem less_any (a b : ByteArray) (w : World) :
    Calls Try.prog 55 #[.string a, .string b] w fun e w' => e = .returned (.bool (ls (tx a) (tx b))) ∧ w = w' := by
  have h : Op.bytesLess a.toList b.toList = ls (tx a) (tx b) := by
    rw [less_ls, ByteArray.toList_eq, ByteArray.toList_eq]; rfl
  go_enter Try.func55, Try.ntmps55
  go_wp2
  go_ret
  exact ⟨rfl, rfl⟩

set_option maxRecDepth 100000 in
set_option maxHeartbeats 1000000 in
theorem has0_any (a p : ByteArray) (w : World) (ha : a.size ≤ maxLen) (hp : p.size ≤ maxLen) :
    Calls Try.prog 67 #[.string a, .string p] w fun e w' => e = .returned (.bool (pre (tx a) (tx p))) ∧ w = w' := by
  unfold maxLen at ha hp
  rw [pre_take, tx_length, tx_length]
  by_cases h : p.size ≤ a.size
  · have i1 : (p.size : Int) ≤ (a.size : Int) := by omega
    go_enter Try.func67, Try.ntmps67
    go_wp2
    go_ret
    exact ⟨ret_b (by rw [tx_beq, tx_extract _ _ h]; exact decide_eq_decide.2 ⟨fun q => ⟨h, q⟩, fun q => q.2⟩), rfl⟩
  · have i1 : (a.size : Int) < (p.size : Int) := by omega
    go_enter Try.func67, Try.ntmps67
    go_wp2
    go_ret
    exact ⟨ret_b (by rw [decide_eq_false (by omega)]), rfl⟩
set_option maxRecDepth 100000 in
theorem has_any (a p : ByteArray) (w : World) (ha : a.size ≤ maxLen) (hp : p.size ≤ maxLen) :
    Calls Try.prog 60 #[.string a, .string p] w fun e w' => e = .returned (.bool (pre (tx a) (tx p))) ∧ w = w' := by
  go_enter Try.func60, Try.ntmps60
  go_wp2_with (go_at_call 67; refine (has0_any a p _ ha hp).mono ?_; rintro e w' ⟨rfl, rfl⟩)
  go_ret
  exact ⟨rfl, rfl⟩
set_option maxRecDepth 100000 in
theorem prefix_any (a p : ByteArray) (w : World) (ha : a.size ≤ maxLen) (hp : p.size ≤ maxLen) :
    Calls Try.prog 52 #[.string a, .string p] w fun e w' => e = .returned (.bool (pre (tx a) (tx p))) ∧ w = w' := by
  go_enter Try.func52, Try.ntmps52
  go_wp2_with (go_at_call 60; refine (has_any a p _ ha hp).mono ?_; rintro e w' ⟨rfl, rfl⟩)
  go_ret
  exact ⟨rfl, rfl⟩

end Go.Proofs.Ythkhkijdehbbmaa
