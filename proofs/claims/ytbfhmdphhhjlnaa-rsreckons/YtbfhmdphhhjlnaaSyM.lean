/-
  Plain mathematics of the code: the rows of a systematic matrix, what comes back from any k of them; the numbers of the rows that are there, and of those that are not.
-/
import Derived.Test.YtbfhmdphhhjlnaaSys
namespace Go.Proofs.Ytbfhmdphhhjlnaa
open Gf

/-- S is the matrix of a code with k rows of data. -/
def IsSys (k : Nat) (S : Nat → Nat → Nat) : Prop := ∃ X, IsInv k V X ∧ B X ∧ S = mm k V X
theorem IsSys.lt {k : Nat} {S : Nat → Nat → Nat} (h : IsSys k S) : B S := by
  obtain ⟨X, _, _, rfl⟩ := h
  exact mm_B V_B
theorem IsSys.top {k : Nat} {S : Nat → Nat → Nat} (h : IsSys k S) : ∀ i, i < k → ∀ j, j < k → S i j = one i j := by
  obtain ⟨X, hi, _, rfl⟩ := h
  exact hi.right
theorem IsSys.inj {k : Nat} {S : Nat → Nat → Nat} {r : Nat → Nat} (h : IsSys k S) (hr : ∀ i, i < k → r i < 256) (hd : ∀ i, i < k → ∀ j, j < k → r i = r j → i = j) : Inj k (fun i => S (r i)) := by
  obtain ⟨X, hi, hX, rfl⟩ := h
  have h1 : Inj k (fun i j => P (r i) j) := vander_inj hr hd
  have h2 : Inj k X := hi.symm.inj hX V_B
  exact Inj.congr (Inj.mul (vander_B r) hX h1 h2) fun i _ j _ => rfl
theorem IsSys.same {k : Nat} {S T : Nat → Nat → Nat} (h : IsSys k S) (g : IsSys k T) (i j : Nat) (hj : j < k) : S i j = T i j := by
  obtain ⟨X, hi, hX, rfl⟩ := h
  obtain ⟨Y, gi, hY, rfl⟩ := g
  exact mm_congr (fun _ _ => rfl) fun t ht => hi.unique gi V_B hX hY t ht j hj

/-- The first k rows are the data. -/
theorem enc_top {k : Nat} {S F : Nat → Nat → Nat} (h : IsSys k S) (hF : B F) {i j : Nat} (hi : i < k) : mm k S F i j = F i j := by
  rw [mm_congr (a' := one) (b' := F) (fun t ht => h.top i hi t ht) (fun _ _ => rfl)]
  exact mm_one_left hF hi

/-- What is made of any k rows is what was made of the data. -/
theorem reb {k : Nat} {S Y D : Nat → Nat → Nat} {t q : Nat → Nat} (hS : B S) (hY : B Y) (hD : B D) (hi : IsInv k (fun i => S (t i)) Y) (i j : Nat) :
    mm k (mm k (fun i => S (q i)) Y) (fun i => mm k S D (t i)) i j = mm k S D (q i) j := by
  have bT : B (fun i => S (t i)) := fun i j => hS _ _
  have bQ : B (fun i => S (q i)) := fun i j => hS _ _
  have bH : B (fun i => mm k S D (t i)) := fun i j => mm_B hS _ _
  rw [mm_assoc bQ hY bH]
  refine mm_congr (a := fun i => S (q i)) (a' := fun _ => S (q i)) (fun _ _ => rfl) fun x hx => ?_
  have e1 : mm k Y (fun i => mm k S D (t i)) x j = mm k Y (mm k (fun i => S (t i)) D) x j := rfl
  rw [e1, ← mm_assoc hY bT hD, mm_congr (a' := one) (b' := D) (fun u hu => hi.left x hx u hu) (fun _ _ => rfl), mm_one_left hD hx]

theorem mv_unit {k i : Nat} {A : Nat → Nat → Nat} (hA : B A) (hi : i < k) (r : Nat) : mv k A (fun t => if t = i then 1 else 0) r = A r i := by
  unfold mv
  rw [xs_single hi (fun t _ ht => by dsimp only; rw [if_neg ht, M_zero_right])]
  dsimp only
  rw [if_pos rfl, M_one_right (hA r i)]

/-- No factor of parity is nought. -/
theorem IsSys.ne {k r i : Nat} {S : Nat → Nat → Nat} (h : IsSys k S) (hr : k ≤ r) (hr2 : r < 256) (hi : i < k) : S r i ≠ 0 := fun h0 => by
  have hin := h.inj (r := fun t => if t = i then r else t) (fun t ht => by split <;> omega) (fun a ha b hb e => by
    by_cases ea : a = i
    · by_cases eb : b = i
      · omega
      · rw [if_pos ea, if_neg eb] at e; omega
    · by_cases eb : b = i
      · rw [if_neg ea, if_pos eb] at e; omega
      · rw [if_neg ea, if_neg eb] at e; exact e)
  have hz := hin (fun t => if t = i then 1 else 0) (fun t => by split <;> omega) (fun t ht => by
    rw [mv_unit (fun _ _ => h.lt _ _) hi]
    by_cases e : t = i
    · rw [if_pos e]; exact h0
    · rw [if_neg e, h.top t ht i hi]; unfold one; rw [if_neg e]) i hi
  rw [if_pos rfl] at hz
  omega

/-- The product hangs on what is in the k rows alone. -/
theorem mm_rows {k : Nat} {a b b' : Nat → Nat → Nat} {i j : Nat} (g : ∀ t, t < k → b t j = b' t j) : mm k a b i j = mm k a b' i j := mm_congr (fun _ _ => rfl) g

/-- The numbers below n for which p holds, rising. -/
def th (p : Nat → Bool) (n : Nat) : List Nat := (List.range n).filter p
theorem th_yes {p : Nat → Bool} {n : Nat} (h : p n = true) : th p (n + 1) = th p n ++ [n] := by
  unfold th; rw [List.range_succ, List.filter_append]; simp [h]
theorem th_no {p : Nat → Bool} {n : Nat} (h : p n = false) : th p (n + 1) = th p n := by
  unfold th; rw [List.range_succ, List.filter_append]; simp [h]
theorem th_len_le (p : Nat → Bool) (n : Nat) : (th p n).length ≤ n := by
  have := List.length_filter_le p (List.range n)
  simpa [th] using this
theorem th_pre (p : Nat → Bool) (n : Nat) : ∀ d, ∃ l, th p (n + d) = th p n ++ l
  | 0 => ⟨[], by simp⟩
  | d + 1 => by
    obtain ⟨l, hl⟩ := th_pre p n d
    cases h : p (n + d) with
    | true => exact ⟨l ++ [n + d], by rw [← Nat.add_assoc, th_yes h, hl, List.append_assoc]⟩
    | false => exact ⟨l, by rw [← Nat.add_assoc, th_no h, hl]⟩
/-- The i-th of them. -/
def ti (p : Nat → Bool) (n i : Nat) : Nat := (th p n).getD i 0
theorem ti_at {p : Nat → Bool} {r n : Nat} (hr : r < n) (h : p r = true) : ti p n (th p r).length = r := by
  obtain ⟨d, rfl⟩ : ∃ d, n = r + 1 + d := ⟨n - (r + 1), by omega⟩
  obtain ⟨l, hl⟩ := th_pre p (r + 1) d
  unfold ti
  rw [hl, th_yes h, List.getD_eq_getElem?_getD, List.append_assoc, List.getElem?_append_right (by omega)]
  simp
theorem ti_mem {p : Nat → Bool} {n i : Nat} (hi : i < (th p n).length) : ti p n i < n ∧ p (ti p n i) = true := by
  have : ti p n i ∈ th p n := by
    unfold ti; rw [List.getD_eq_getElem?_getD, List.getElem?_eq_getElem hi]; exact List.getElem_mem hi
  unfold th at this
  rw [List.mem_filter, List.mem_range] at this
  exact this
theorem ti_has {p : Nat → Bool} {n x : Nat} (hx : x < n) (h : p x = true) : (th p x).length < (th p n).length := by
  obtain ⟨d, rfl⟩ : ∃ d, n = x + 1 + d := ⟨n - (x + 1), by omega⟩
  obtain ⟨l, hl⟩ := th_pre p (x + 1) d
  rw [hl, th_yes h]; simp only [List.length_append, List.length_singleton]; omega
theorem th_mono {p : Nat → Bool} {a b : Nat} (h : a ≤ b) : (th p a).length ≤ (th p b).length := by
  obtain ⟨d, rfl⟩ : ∃ d, b = a + d := ⟨b - a, by omega⟩
  obtain ⟨l, hl⟩ := th_pre p a d
  rw [hl, List.length_append]; omega
/-- Which of them it is. -/
theorem ti_idx {p : Nat → Bool} {n i : Nat} (hi : i < (th p n).length) : (th p (ti p n i)).length = i := by
  induction n with
  | zero => simp [th] at hi
  | succ n ih =>
    cases h : p n with
    | false =>
      have e : ti p (n + 1) i = ti p n i := by unfold ti; rw [th_no h]
      rw [th_no h] at hi
      rw [e]; exact ih hi
    | true =>
      rw [th_yes h, List.length_append, List.length_singleton] at hi
      by_cases q : i < (th p n).length
      · have e : ti p (n + 1) i = ti p n i := by
          unfold ti; rw [th_yes h, List.getD_eq_getElem?_getD, List.getElem?_append_left q, ← List.getD_eq_getElem?_getD]
        rw [e]; exact ih q
      · have e : i = (th p n).length := by omega
        rw [e, ti_at (by omega) h]
theorem ti_inj {p : Nat → Bool} {n i j : Nat} (hi : i < (th p n).length) (hj : j < (th p n).length) (e : ti p n i = ti p n j) : i = j := by
  have h1 := ti_idx hi
  have h2 := ti_idx hj
  rw [e] at h1; omega
theorem th_both (p : Nat → Bool) (n : Nat) : (th p n).length + (th (fun i => !p i) n).length = n := by
  induction n with
  | zero => simp [th]
  | succ n ih =>
    cases h : p n with
    | true => rw [th_yes h, th_no (by simp [h]), List.length_append, List.length_singleton]; omega
    | false => rw [th_no h, th_yes (by simp [h]), List.length_append, List.length_singleton]; omega
theorem th_congr {p q : Nat → Bool} {n : Nat} (h : ∀ i, i < n → p i = q i) : th p n = th q n := by
  unfold th
  exact List.filter_congr fun x hx => h x (List.mem_range.1 hx)
end Go.Proofs.Ytbfhmdphhhjlnaa
