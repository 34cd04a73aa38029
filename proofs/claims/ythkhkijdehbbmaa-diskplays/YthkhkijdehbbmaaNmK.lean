/-
  Plain mathematics of keys: texts of well-formed UTF-8, rune by rune; one behind the other they are one.
-/
import Derived.Test.YthkhkijdehbbmaaNmP
import Derived.Lib.ValidU
import Derived.Lib.ValidLaws
import Derived.Lib.MapLaws
namespace Go.Proofs.Ythkhkijdehbbmaa
namespace Nm
open Go.Lib

/-- The decoder is at fault here. -/
def Ef (l : List UInt8) : Prop := (decodeL l).1 = 65533 ∧ (decodeL l).2 = 1
/-- One rune that is well written. -/
theorem step_ok (l : List UInt8) (h : l ≠ []) (hE : ¬ Ef l) :
    1 ≤ (decodeL l).2 ∧ (decodeL l).2 ≤ l.length ∧ ((l.getD 0 0).toNat < 128 → (decodeL l).1 = (l.getD 0 0).toNat ∧ (decodeL l).2 = 1) ∧ (128 ≤ (l.getD 0 0).toNat → 128 ≤ (decodeL l).1 ∧ ∀ i, i < (decodeL l).2 → 128 ≤ (l.getD i 0).toNat) := by
  have hl : 0 < l.length := List.length_pos_iff.2 h
  unfold Ef at hE
  rw [decodeL_N] at hE ⊢
  rcases decodeN_shape l.length (l.getD 0 0).toNat (l.getD 1 0).toNat (l.getD 2 0).toNat (l.getD 3 0).toNat with ⟨c, e⟩ | ⟨c1, c2, c3, c4, e⟩ | ⟨c1, c2, c3, c4, c5, c6, e⟩ | ⟨c1, c2, c3, c4, c5, c6, c7, e⟩ | e
  · rw [e]
    exact ⟨Nat.le_refl _, hl, fun _ => ⟨rfl, rfl⟩, fun q => absurd q (by omega)⟩
  · rw [e]
    refine ⟨by show 1 ≤ 2; omega, c2, fun q => absurd q (by omega), fun _ => ⟨c4, fun i hi => ?_⟩⟩
    have hi' : i < 2 := hi
    rcases (by omega : i = 0 ∨ i = 1) with rfl | rfl <;> omega
  · rw [e]
    refine ⟨by show 1 ≤ 3; omega, c2, fun q => absurd q (by omega), fun _ => ⟨by show 128 ≤ _; omega, fun i hi => ?_⟩⟩
    have hi' : i < 3 := hi
    rcases (by omega : i = 0 ∨ i = 1 ∨ i = 2) with rfl | rfl | rfl <;> omega
  · rw [e]
    refine ⟨by show 1 ≤ 4; omega, c2, fun q => absurd q (by omega), fun _ => ⟨by show 128 ≤ _; omega, fun i hi => ?_⟩⟩
    have hi' : i < 4 := hi
    rcases (by omega : i = 0 ∨ i = 1 ∨ i = 2 ∨ i = 3) with rfl | rfl | rfl | rfl <;> omega
  · rw [e] at hE
    exact absurd ⟨rfl, rfl⟩ hE
theorem valid_bad (l : List UInt8) (h : l ≠ []) (hE : Ef l) : validD l = false := by
  rw [validD_step l h]; exact if_pos hE
theorem valid_step (l : List UInt8) (h : l ≠ []) (hE : ¬ Ef l) : validD l = validD (l.drop (decodeL l).2) := by
  rw [validD_step l h]; exact if_neg hE
/-- What is well written is read so, whatever follows. -/
theorem same_step (l b : List UInt8) (h : l ≠ []) (hE : ¬ Ef l) : decodeL (l ++ b) = decodeL l := by
  have hl : 0 < l.length := List.length_pos_iff.2 h
  have hg : ∀ i, i < l.length → (l ++ b).getD i 0 = l.getD i 0 := fun i hi => by
    unfold List.getD
    rw [List.getElem?_append_left hi]
  have hs := step_ok l h hE
  have hle : l.length ≤ (l ++ b).length := by rw [List.length_append]; omega
  unfold Ef at hE
  rw [decodeL_N] at hE hs ⊢
  rw [decodeL_N l]
  rw [hg 0 hl]
  rcases decodeN_shape l.length (l.getD 0 0).toNat (l.getD 1 0).toNat (l.getD 2 0).toNat (l.getD 3 0).toNat with ⟨c, e⟩ | ⟨c1, c2, c3, c4, e⟩ | ⟨c1, c2, c3, c4, c5, c6, e⟩ | ⟨c1, c2, c3, c4, c5, c6, c7, e⟩ | e
  · rw [e, decodeN_ascii _ _ _ _ _ c]
  · rw [e, hg 1 (by omega)]
    unfold decodeN
    rw [if_neg (by omega), if_pos ⟨c1, by omega, c3⟩, if_pos c4]
  · rw [e, hg 1 (by omega), hg 2 (by omega)]
    unfold decodeN
    rw [if_neg (by omega), if_neg (by omega), if_pos ⟨c1, ⟨by omega, c3⟩, by omega, c4⟩, if_pos ⟨c5, by omega⟩]
  · rw [e, hg 1 (by omega), hg 2 (by omega), hg 3 (by omega)]
    unfold decodeN
    rw [if_neg (by omega), if_neg (by omega), if_neg (by omega), if_pos ⟨c1, ⟨by omega, c3⟩, ⟨by omega, c4⟩, by omega, c5⟩, if_pos ⟨c6, by omega⟩]
  · rw [e] at hE
    exact absurd ⟨rfl, rfl⟩ hE
theorem valid_app (n : Nat) : ∀ a b : List UInt8, a.length ≤ n → validD a = true → validD (a ++ b) = validD b := by
  induction n with
  | zero =>
    intro a b h _
    have : a = [] := List.eq_nil_of_length_eq_zero (by omega)
    rw [this]; rfl
  | succ n ih =>
    intro a b h hv
    by_cases e : a = []
    · rw [e]; rfl
    · by_cases hE : Ef a
      · rw [valid_bad a e hE] at hv; cases hv
      · have hs := step_ok a e hE
        have hd := same_step a b e hE
        have hE2 : ¬ Ef (a ++ b) := by unfold Ef at hE ⊢; rw [hd]; exact hE
        rw [valid_step (a ++ b) (by simp [e]) hE2, hd, List.drop_append_of_le_length hs.2.1]
        rw [valid_step a e hE] at hv
        exact ih _ b (by rw [List.length_drop]; omega) hv
/-- No byte below 32, none 127. -/
def kb (l : List UInt8) : Bool := l.all fun c => decide (32 ≤ c.toNat ∧ c.toNat ≠ 127)
theorem kb_app (a b : List UInt8) : kb (a ++ b) = (kb a && kb b) := List.all_append
/-- A rune that is well written is as it should be just if its bytes are. -/
theorem kb_step (l : List UInt8) (h : l ≠ []) (hE : ¬ Ef l) : kb (l.take (decodeL l).2) = decide (32 ≤ (decodeL l).1 ∧ (decodeL l).1 ≠ 127) := by
  obtain ⟨h1, h2, h3, h4⟩ := step_ok l h hE
  by_cases hc : (l.getD 0 0).toNat < 128
  · obtain ⟨e1, e2⟩ := h3 hc
    rw [e1, e2]
    cases l with
    | nil => exact absurd rfl h
    | cons c t => simp [kb]
  · obtain ⟨e1, e2⟩ := h4 (by omega)
    rw [decide_eq_true (show 32 ≤ (decodeL l).1 ∧ (decodeL l).1 ≠ 127 by omega)]
    unfold kb
    rw [List.all_eq_true]
    intro c hc'
    obtain ⟨i, hi, rfl⟩ := List.getElem_of_mem hc'
    have hi' : i < (decodeL l).2 := by rw [List.length_take] at hi; omega
    have := e2 i hi'
    rw [List.getElem_take]
    unfold List.getD at this
    rw [List.getElem?_eq_getElem (by omega)] at this
    simp only [Option.getD_some] at this
    exact decide_eq_true (by omega)
/-- A key. -/
def ky (l : List UInt8) : Bool := decide (1 ≤ l.length ∧ l.length ≤ 200) && validD l && kb l
theorem ky_join (a b : List UInt8) (ha : ky a = true) (hb : ky b = true) : ky (a ++ b) = decide (a.length + b.length ≤ 200) := by
  unfold ky at *
  rw [Bool.and_eq_true, Bool.and_eq_true, decide_eq_true_iff] at ha hb
  rw [valid_app a.length a b (Nat.le_refl _) ha.1.2, hb.1.2, kb_app, ha.2, hb.2, List.length_append]
  simp only [Bool.and_true]
  exact decide_eq_decide.2 (by omega)
end Nm
end Go.Proofs.Ythkhkijdehbbmaa
