/-
  What the program's Less, Prefix, digit of layer 6 answer.
-/
import Derived.Test.YtighljdeaofanaaDoorNmR
import Derived.Test.YtighljdeaofanaaDoorNmU
import Derived.Laws.Externs
namespace Go.Proofs.YtighljdeaofanaaDoor
open Go.RowKit Nm
attribute [local go_sem ↓] Go.wp_at_zero Go.wp_at_succ
set_option linter.unusedVariables false

theorem less_ls (a : List UInt8) : ∀ b, Op.bytesLess a b = ls a b := by
  induction a with
  | nil => intro b; cases b <;> rfl
  | cons x a ih =>
    intro b
    cases b with
    | nil => rfl
    | cons y b =>
      rw [ls_cons, ← ih b]
      show (decide (x < y) || (x == y) && Op.bytesLess a b) = _
      by_cases e : x = y
      · subst e
        rw [if_pos rfl]
        show (decide (x < x) || (x == x) && Op.bytesLess a b) = Op.bytesLess a b
        have : ¬ x < x := fun q => absurd (UInt8.lt_iff_toNat_lt.1 q) (by omega)
        simp [this]
      · have := u8_ne e
        rw [if_neg e]
        by_cases hl : x.toNat < y.toNat
        · have h1 : x < y := UInt8.lt_iff_toNat_lt.2 hl
          simp [h1, hl]
        · have h1 : ¬ x < y := fun q => hl (UInt8.lt_iff_toNat_lt.1 q)
          simp [h1, hl, e]
set_option maxRecDepth 100000 in
theorem less_any (a b : ByteArray) (w : World) :
    Calls Tryd.prog 19 #[.string a, .string b] w fun e w' => e = .returned (.bool (ls (tx a) (tx b))) ∧ w = w' := by
  have h : Op.bytesLess a.toList b.toList = ls (tx a) (tx b) := by
    rw [less_ls, ByteArray.toList_eq, ByteArray.toList_eq]; rfl
  go_enter Tryd.func19, Tryd.ntmps19
  go_wp2
  go_ret
  exact ⟨rfl, rfl⟩

set_option maxRecDepth 100000 in
set_option maxHeartbeats 1000000 in
theorem has0_any (a p : ByteArray) (w : World) (ha : a.size ≤ maxLen) (hp : p.size ≤ maxLen) :
    Calls Tryd.prog 32 #[.string a, .string p] w fun e w' => e = .returned (.bool (pre (tx a) (tx p))) ∧ w = w' := by
  unfold maxLen at ha hp
  rw [pre_take, tx_length, tx_length]
  by_cases h : p.size ≤ a.size
  · have i1 : (p.size : Int) ≤ (a.size : Int) := by omega
    go_enter Tryd.func32, Tryd.ntmps32
    go_wp2
    go_ret
    exact ⟨ret_b (by rw [tx_beq, tx_extract _ _ h]; exact decide_eq_decide.2 ⟨fun q => ⟨h, q⟩, fun q => q.2⟩), rfl⟩
  · have i1 : (a.size : Int) < (p.size : Int) := by omega
    go_enter Tryd.func32, Tryd.ntmps32
    go_wp2
    go_ret
    exact ⟨ret_b (by rw [decide_eq_false (by omega)]), rfl⟩
set_option maxRecDepth 100000 in
theorem has_any (a p : ByteArray) (w : World) (ha : a.size ≤ maxLen) (hp : p.size ≤ maxLen) :
    Calls Tryd.prog 29 #[.string a, .string p] w fun e w' => e = .returned (.bool (pre (tx a) (tx p))) ∧ w = w' := by
  go_enter Tryd.func29, Tryd.ntmps29
  go_wp2_with (go_at_call 32; refine (has0_any a p _ ha hp).mono ?_; rintro e w' ⟨rfl, rfl⟩)
  go_ret
  exact ⟨rfl, rfl⟩
set_option maxRecDepth 100000 in
theorem prefix_any (a p : ByteArray) (w : World) (ha : a.size ≤ maxLen) (hp : p.size ≤ maxLen) :
    Calls Tryd.prog 21 #[.string a, .string p] w fun e w' => e = .returned (.bool (pre (tx a) (tx p))) ∧ w = w' := by
  go_enter Tryd.func21, Tryd.ntmps21
  go_wp2_with (go_at_call 29; refine (has_any a p _ ha hp).mono ?_; rintro e w' ⟨rfl, rfl⟩)
  go_ret
  exact ⟨rfl, rfl⟩

/-- The sixteen digits. -/
def dgs : ByteArray := ⟨#[48, 49, 50, 51, 52, 53, 54, 55, 56, 57, 97, 98, 99, 100, 101, 102]⟩
theorem first_dg (c : UInt8) : firstIdx dgs c = if dg c < 16 then (dg c : Int) else -1 := by
  have h : ∀ n : Fin 256, firstIdx dgs (UInt8.ofNat n.1) = if dg (UInt8.ofNat n.1) < 16 then (dg (UInt8.ofNat n.1) : Int) else -1 := by decide +kernel
  have := h ⟨c.toNat, c.toNat_lt⟩
  rwa [UInt8.ofNat_toNat] at this
set_option maxRecDepth 100000 in
theorem idx0_any (s : ByteArray) (c : UInt8) (w : World) :
    Calls Tryd.prog 33 #[.string s, .int .u8 (c.toNat : Int)] w fun e w' => e = .returned (.int .i64 (firstIdx s c)) ∧ w = w' := by
  go_enter Tryd.func33, Tryd.ntmps33
  go_wp2
  rw [run_callFunc_extern Tryd.func34 (by kernel_rfl) (by kernel_rfl) (by kernel_rfl) (e := Extern.BytealgIndexByte.indexByte) (by kernel_rfl), run_indexByte_string]
  simp only [Result.andThen]
  rw [Oper.upon_value]
  go_wp2
  go_ret
  exact ⟨rfl, rfl⟩
set_option maxRecDepth 100000 in
theorem idx_any (s : ByteArray) (c : UInt8) (w : World) :
    Calls Tryd.prog 30 #[.string s, .int .u8 (c.toNat : Int)] w fun e w' => e = .returned (.int .i64 (firstIdx s c)) ∧ w = w' := by
  go_enter Tryd.func30, Tryd.ntmps30
  go_wp2_with (go_at_call 33; refine (idx0_any s c _).mono ?_; rintro e w' ⟨rfl, rfl⟩)
  go_ret
  exact ⟨rfl, rfl⟩
set_option maxRecDepth 100000 in
theorem pdigit_any (c : UInt8) (w : World) :
    Calls Tryd.prog 24 #[.int .u8 (c.toNat : Int)] w fun e w' => e = .returned (.int .i64 (if dg c < 16 then (dg c : Int) else -1)) ∧ w = w' := by
  have h := fun W => idx_any dgs c W
  rw [first_dg] at h
  obtain ⟨z, hz⟩ : ∃ z : Int, (if dg c < 16 then (dg c : Int) else -1) = z := ⟨_, rfl⟩
  rw [hz] at h ⊢
  clear hz
  go_enter Tryd.func24, Tryd.ntmps24
  go_wp2_with (go_at_call 30; refine (h _).mono ?_; rintro e w' ⟨rfl, rfl⟩)
  go_ret
  exact ⟨rfl, rfl⟩
end Go.Proofs.YtighljdeaofanaaDoor
