/-
  Plain mathematics: one column of a matrix that has the unit beside it, cleared: what that keeps, and what it makes. Nothing of any program is imported here.
-/
import Derived.Test.YtbfhmdphhhjlnaaLin
namespace Go.Proofs.Ytbfhmdphhhjlnaa.Gf

/-- The columns from n on. -/
def hi (n : Nat) (W : Nat → Nat → Nat) : Nat → Nat → Nat := fun i j => W i (n + j)
theorem hi_swp (n c p : Nat) (W : Nat → Nat → Nat) : hi n (swp c p W) = swp c p (hi n W) := by
  funext i j; unfold hi swp; split; rfl; split <;> rfl
/-- The first k rows, but c, rid of what they have in column c. -/
def stp (c k : Nat) (W : Nat → Nat → Nat) : Nat → Nat → Nat := fun i j => if i ≠ c ∧ i < k then W i j ^^^ M (W i c) (W c j) else W i j
theorem stp_zero (c : Nat) (W : Nat → Nat → Nat) : stp c 0 W = W := by
  funext i j; unfold stp; rw [if_neg (by omega)]
theorem stp_own (c : Nat) (W : Nat → Nat → Nat) : stp c (c + 1) W = stp c c W := by
  funext i j; unfold stp
  by_cases h : i ≠ c ∧ i < c
  · rw [if_pos h, if_pos (by omega)]
  · rw [if_neg h, if_neg (by omega)]
theorem stp_succ {c k : Nat} (W : Nat → Nat → Nat) (h : k ≠ c) : stp c (k + 1) W = addr k c (W k c) (stp c k W) := by
  funext i j; unfold addr
  have e1 : stp c k W c j = W c j := by unfold stp; rw [if_neg (by omega)]
  have e2 : stp c k W k j = W k j := by unfold stp; rw [if_neg (by omega)]
  rw [e1, e2]
  by_cases e : i = k
  · subst e; rw [if_pos rfl]; unfold stp; rw [if_pos ⟨h, by omega⟩]
  · rw [if_neg e]; unfold stp
    by_cases q : i ≠ c ∧ i < k
    · rw [if_pos q, if_pos (by omega)]
    · rw [if_neg q, if_neg (by omega)]
theorem elim_stp {n c : Nat} {a W : Nat → Nat → Nat} (h : Elim n a W (hi n W)) (ha : B a) (hc : c < n) : ∀ k, k ≤ n → Elim n a (stp c k W) (hi n (stp c k W)) := by
  intro k
  induction k with
  | zero => intro _; rw [stp_zero]; exact h
  | succ k ih =>
    intro hk
    have e := ih (by omega)
    by_cases q : k = c
    · subst q; rw [stp_own]; exact e
    · rw [stp_succ W q]
      exact Elim.add e ha (by omega) hc q (h.bx k c)
/-- Column c cleared, with row p put at its place. -/
def clr (n c p : Nat) (W : Nat → Nat → Nat) : Nat → Nat → Nat := stp c n (scl c (inv (W p c)) (swp c p W))
theorem elim_clr {n c p : Nat} {a W : Nat → Nat → Nat} (h : Elim n a W (hi n W)) (ha : B a) (hc : c < n) (hp : p < n) : Elim n a (clr n c p W) (hi n (clr n c p W)) := by
  have e1 := h.swap hc hp
  rw [← hi_swp] at e1
  have e2 := e1.scale (c := c) (f := inv (W p c)) ha (inv_lt _) (E_pos _)
  exact elim_stp e2 ha hc n (Nat.le_refl _)
theorem swp_B {c p : Nat} {W : Nat → Nat → Nat} (h : B W) : B (swp c p W) := fun i j => by
  unfold swp; split; exact h _ _; split <;> exact h _ _
theorem scl_B {c f : Nat} {W : Nat → Nat → Nat} (h : B W) : B (scl c f W) := fun i j => by
  unfold scl; split; exact M_lt _ (h _ _); exact h _ _
theorem stp_B {c k : Nat} {W : Nat → Nat → Nat} (h : B W) : B (stp c k W) := fun i j => by
  unfold stp; split; exact xor_lt (h _ _) (M_lt _ (h _ _)); exact h _ _
theorem clr_red {n c p : Nat} {W : Nat → Nat → Nat} (hB : B W) (hred : ∀ i, i < n → ∀ j, j < c → W i j = one i j) (hcp : c ≤ p) (hp : p < n) (hne : W p c ≠ 0) : ∀ i, i < n → ∀ j, j < c + 1 → clr n c p W i j = one i j := by
  have hc : c < n := by omega
  -- the exchanged and scaled rows
  have s1 : ∀ i, i < n → ∀ j, j < c → scl c (inv (W p c)) (swp c p W) i j = one i j := by
    intro i hi j hj
    unfold scl
    have zc : swp c p W c j = 0 := by
      unfold swp; rw [if_pos rfl, hred p hp j hj]; unfold one; rw [if_neg (by omega)]
    by_cases e : i = c
    · subst e; rw [if_pos rfl, zc, M_zero_left]; unfold one; rw [if_neg (by omega)]
    · rw [if_neg e]; unfold swp; rw [if_neg e]
      by_cases q : i = p
      · rw [if_pos q, hred c hc j hj]; unfold one; rw [if_neg (by omega), if_neg (by omega)]
      · rw [if_neg q]; exact hred i hi j hj
  have s2 : scl c (inv (W p c)) (swp c p W) c c = 1 := by
    unfold scl swp; rw [if_pos rfl, if_pos rfl]; exact M_inv (hB p c) (by omega)
  have bS : ∀ i j, scl c (inv (W p c)) (swp c p W) i j < 256 := fun i j => by
    unfold scl swp
    split
    · rw [if_pos rfl]; exact M_lt _ (hB _ _)
    · split
      · exact hB _ _
      · exact hB _ _
  unfold clr
  generalize scl c (inv (W p c)) (swp c p W) = S at *
  intro i hi j hj
  unfold stp
  by_cases e : i = c
  · subst e
    rw [if_neg (by omega)]
    by_cases q : j = i
    · subst q; rw [s2]; unfold one; rw [if_pos rfl]
    · exact s1 i hi j (by omega)
  · rw [if_pos ⟨e, hi⟩]
    by_cases q : j = c
    · subst q
      rw [s2, M_one_right (bS i j), Nat.xor_self]; unfold one; rw [if_neg e]
    · rw [s1 c hc j (by omega), s1 i hi j (by omega)]
      have z : one c j = 0 := by unfold one; rw [if_neg (by omega)]
      rw [z, M_zero_right, Nat.xor_zero]
end Go.Proofs.Ytbfhmdphhhjlnaa.Gf
