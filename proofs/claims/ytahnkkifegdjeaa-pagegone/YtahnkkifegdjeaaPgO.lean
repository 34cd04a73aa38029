/-
  Plain mathematics of the stable sort: sorted blocks, merged two by two.
-/
import Derived.Test.YtahnkkifegdjeaaPgM
namespace Go.Proofs.Ytahnkkifegdjeaa
open Go.Sort
namespace Pg
/-- each block of s places is sorted, the last one up to n -/
def Blk {α : Type} [Inhabited α] (lt : α → α → Bool) (s n : Nat) (d : Array α) : Prop := ∀ p, SortedIn lt (p * s) (min (p * s + s) n) d
/-- q pairs of blocks are merged, the others are as they were -/
structure MB {α : Type} [Inhabited α] (lt : α → α → Bool) (s q n : Nat) (d : Array α) : Prop where
  done : ∀ p, p < q → SortedIn lt (p * (2 * s)) (p * (2 * s) + 2 * s) d
  rest : ∀ p, 2 * q ≤ p → SortedIn lt (p * s) (min (p * s + s) n) d
theorem mb_start {α : Type} [Inhabited α] {lt : α → α → Bool} {s n : Nat} {d : Array α} (h : Blk lt s n d) : MB lt s 0 n d :=
  ⟨fun _ hp => absurd hp (Nat.not_lt_zero _), fun p _ => h p⟩
theorem mul_two (q s : Nat) : 2 * q * s = q * (2 * s) := by rw [Nat.mul_comm 2 q, Nat.mul_assoc]
theorem mb_one {α : Type} [Inhabited α] {lt : α → α → Bool} {s q n a : Nat} {d : Array α} (h : MB lt s q n d) (ha : a = q * (2 * s)) : SortedIn lt a (min (a + s) n) d ∧ SortedIn lt (a + s) (min (a + 2 * s) n) d := by
  have h0 := h.rest (2 * q) (Nat.le_refl _)
  have h1 := h.rest (2 * q + 1) (by omega)
  rw [mul_two, ← ha] at h0
  rw [Nat.succ_mul, mul_two, ← ha, show a + s + s = a + 2 * s by omega] at h1
  exact ⟨h0, h1⟩
theorem mb_two {α : Type} [Inhabited α] {lt : α → α → Bool} {s q n a b : Nat} {d : Array α} (h : MB lt s q n d) (ha : a = q * (2 * s)) (hb : b = a + 2 * s) (hn : b ≤ n) : SortedIn lt a (a + s) d ∧ SortedIn lt (a + s) b d := by
  obtain ⟨h0, h1⟩ := mb_one h ha
  rw [Nat.min_eq_left (by omega)] at h0 h1
  rw [hb]; exact ⟨h0, h1⟩
theorem mb_step {α : Type} [Inhabited α] {lt : α → α → Bool} {s q n a b : Nat} {d d' : Array α} (h : MB lt s q n d) (ha : a = q * (2 * s)) (hb : b = a + 2 * s) (hp : PermIn a b d d') (hs : SortedIn lt a b d') : MB lt s (q + 1) n d' := by
  refine ⟨fun p hpq => ?_, fun p hpq => ?_⟩
  · by_cases e : p = q
    · subst e; rw [← ha, ← hb]; exact hs
    · refine sorted_congr (h.done p (by omega)) fun t _ ht => hp.2.1 t (Or.inl ?_)
      have : (p + 1) * (2 * s) ≤ q * (2 * s) := Nat.mul_le_mul_right _ (by omega)
      rw [Nat.succ_mul] at this
      omega
  · refine sorted_congr (h.rest p (by omega)) fun t ht _ => hp.2.1 t (Or.inr ?_)
    have : (2 * q + 2) * s ≤ p * s := Nat.mul_le_mul_right _ (by omega)
    rw [Nat.add_mul, mul_two, ← ha] at this
    omega
theorem mb_end {α : Type} [Inhabited α] {lt : α → α → Bool} {s q n a : Nat} {d d' : Array α} (h : MB lt s q n d) (ha : a = q * (2 * s)) (han : a ≤ n) (hb : n < a + 2 * s) (hp : PermIn a n d d') (hs : SortedIn lt a n d') : Blk lt (2 * s) n d' := by
  intro p
  by_cases e : p = q
  · subst e; rw [← ha, Nat.min_eq_right (by omega)]; exact hs
  · by_cases e2 : p < q
    · have k : (p + 1) * (2 * s) ≤ q * (2 * s) := Nat.mul_le_mul_right _ (by omega)
      rw [Nat.succ_mul] at k
      rw [Nat.min_eq_left (by omega)]
      exact sorted_congr (h.done p e2) fun t _ ht => hp.2.1 t (Or.inl (by omega))
    · have k : (q + 1) * (2 * s) ≤ p * (2 * s) := Nat.mul_le_mul_right _ (by omega)
      rw [Nat.succ_mul] at k
      intro i j hi hij hj
      have := Nat.lt_of_lt_of_le hj (Nat.min_le_right _ _)
      omega
theorem mb_skip {α : Type} [Inhabited α] {lt : α → α → Bool} {s q n a : Nat} {d : Array α} (h : MB lt s q n d) (ha : a = q * (2 * s)) (han : a ≤ n) (hb : n < a + 2 * s) (hm : n ≤ a + s) : Blk lt (2 * s) n d := by
  have h0 := (mb_one h ha).1
  rw [Nat.min_eq_right (by omega)] at h0
  exact mb_end h ha han hb (permIn_refl _ _ _) h0
theorem mb_last {α : Type} [Inhabited α] {lt : α → α → Bool} {s q n a : Nat} {d : Array α} (h : MB lt s q n d) (ha : a = q * (2 * s)) (hb : n < a + 2 * s) (hm : a + s < n) : SortedIn lt a (a + s) d ∧ SortedIn lt (a + s) n d := by
  obtain ⟨h0, h1⟩ := mb_one h ha
  rw [Nat.min_eq_left (by omega)] at h0
  rw [Nat.min_eq_right (by omega)] at h1
  exact ⟨h0, h1⟩
theorem blk_all {α : Type} [Inhabited α] {lt : α → α → Bool} {s n : Nat} {d : Array α} (h : Blk lt s n d) (hn : n ≤ s) : SortedIn lt 0 n d := by
  have := h 0
  rw [Nat.zero_mul, Nat.zero_add, Nat.min_eq_right hn] at this
  exact this
/-- q blocks of s places are sorted -/
def Done {α : Type} [Inhabited α] (lt : α → α → Bool) (s q : Nat) (d : Array α) : Prop := ∀ p, p < q → SortedIn lt (p * s) (p * s + s) d
theorem done_zero {α : Type} [Inhabited α] {lt : α → α → Bool} {s : Nat} {d : Array α} : Done lt s 0 d := fun _ hp => absurd hp (Nat.not_lt_zero _)
theorem done_step {α : Type} [Inhabited α] {lt : α → α → Bool} {s q a b : Nat} {d d' : Array α} (h : Done lt s q d) (ha : a = q * s) (hb : b = a + s) (hp : PermIn a b d d') (hs : SortedIn lt a b d') : Done lt s (q + 1) d' := by
  intro p hpq
  by_cases e : p = q
  · subst e; rw [← ha, ← hb]; exact hs
  · have k : (p + 1) * s ≤ q * s := Nat.mul_le_mul_right _ (by omega)
    rw [Nat.succ_mul] at k
    exact sorted_congr (h p (by omega)) fun t _ ht => hp.2.1 t (Or.inl (by omega))
theorem done_end {α : Type} [Inhabited α] {lt : α → α → Bool} {s q n a : Nat} {d d' : Array α} (h : Done lt s q d) (ha : a = q * s) (han : a ≤ n) (hb : n < a + s) (hp : PermIn a n d d') (hs : SortedIn lt a n d') : Blk lt s n d' := by
  intro p
  by_cases e : p = q
  · subst e; rw [← ha, Nat.min_eq_right (by omega)]; exact hs
  · by_cases e2 : p < q
    · have k : (p + 1) * s ≤ q * s := Nat.mul_le_mul_right _ (by omega)
      rw [Nat.succ_mul] at k
      rw [Nat.min_eq_left (by omega)]
      exact sorted_congr (h p e2) fun t _ ht => hp.2.1 t (Or.inl (by omega))
    · have k : (q + 1) * s ≤ p * s := Nat.mul_le_mul_right _ (by omega)
      rw [Nat.succ_mul] at k
      intro i j hi hij hj
      have := Nat.lt_of_lt_of_le hj (Nat.min_le_right _ _)
      omega
end Pg
end Go.Proofs.Ytahnkkifegdjeaa
