/-
  Plain mathematics of the stable sort: the end of symMerge.
-/
import Derived.Test.YtahnkkifegdjeaaPgM
namespace Go.Proofs.Ytahnkkifegdjeaa
open Go.Sort
namespace Pg
/-- behind the rotation -/
structure MidA {α : Type} [Inhabited α] (lt : α → α → Bool) (a s mid en b : Nat) (d d1 : Array α) : Prop where
  perm : PermIn a b d d1
  bnd : a ≤ s ∧ s ≤ mid ∧ mid ≤ en ∧ en ≤ b ∧ a < mid ∧ mid < b ∧ b ≤ d.size
  s1 : SortedIn lt a s d1
  s2 : SortedIn lt s mid d1
  s3 : SortedIn lt mid en d1
  s4 : SortedIn lt en b d1
  cross : ∀ i j, a ≤ i → i < mid → mid ≤ j → j < b → lt d1[j]! d1[i]! = false
/-- behind the left half -/
structure MidB {α : Type} [Inhabited α] (lt : α → α → Bool) (a s mid en b : Nat) (d d1 : Array α) : Prop where
  perm : PermIn a b d d1
  bnd : a ≤ s ∧ s ≤ mid ∧ mid ≤ en ∧ en ≤ b ∧ a < mid ∧ mid < b ∧ b ≤ d.size
  s1 : SortedIn lt a mid d1
  s3 : SortedIn lt mid en d1
  s4 : SortedIn lt en b d1
  cross : ∀ i j, a ≤ i → i < mid → mid ≤ j → j < b → lt d1[j]! d1[i]! = false
theorem sorted_end {α : Type} [Inhabited α] {lt : α → α → Bool} {a s m : Nat} {d : Array α} (h : ¬ (a < s ∧ s < m)) (has : a ≤ s) (hsm : s ≤ m) (h1 : SortedIn lt a s d) (h2 : SortedIn lt s m d) : SortedIn lt a m d := by
  by_cases e : a < s
  · have : s = m := by omega
    subst this; exact h1
  · have : a = s := by omega
    subst this; exact h2
theorem MidA.skip {α : Type} [Inhabited α] {lt : α → α → Bool} {a s mid en b : Nat} {d d1 : Array α} (h : MidA lt a s mid en b d d1) (hn : ¬ (a < s ∧ s < mid)) : MidB lt a s mid en b d d1 :=
  ⟨h.perm, h.bnd, sorted_end hn h.bnd.1 h.bnd.2.1 h.s1 h.s2, h.s3, h.s4, h.cross⟩
theorem MidA.goes {α : Type} [Inhabited α] {lt : α → α → Bool} {a s mid en b : Nat} {d d1 d2 : Array α} (h : MidA lt a s mid en b d d1) (hp : PermIn a mid d1 d2) (hs : SortedIn lt a mid d2) : MidB lt a s mid en b d d2 := by
  obtain ⟨b1, b2, b3, b4, b5, b6, b7⟩ := h.bnd
  have e : ∀ t, mid ≤ t → d2[t]! = d1[t]! := fun t ht => hp.2.1 t (Or.inr ht)
  refine ⟨permIn_trans _ _ _ _ _ h.perm (permIn_mono d1 d2 a mid a b (Nat.le_refl _) (by omega) (by rw [h.perm.1]; exact b7) hp), h.bnd, hs, sorted_congr h.s3 fun t ht _ => e t ht, sorted_congr h.s4 fun t ht _ => e t (by omega), fun i j hi him hj hjb => ?_⟩
  rw [e j hj]
  exact permIn_all d1 d2 a mid (fun x => lt d1[j]! x = false) (by rw [h.perm.1]; omega) hp (fun t q1 q2 => h.cross t j q1 q2 hj hjb) i hi him
theorem MidB.skip {α : Type} [Inhabited α] {lt : α → α → Bool} {a s mid en b : Nat} {d d1 : Array α} (h : MidB lt a s mid en b d d1) (hn : ¬ (mid < en ∧ en < b)) : PermIn a b d d1 ∧ SortedIn lt a b d1 :=
  ⟨h.perm, sorted_join h.s1 (sorted_end hn h.bnd.2.2.1 h.bnd.2.2.2.1 h.s3 h.s4) h.cross⟩
theorem MidB.goes {α : Type} [Inhabited α] {lt : α → α → Bool} {a s mid en b : Nat} {d d1 d2 : Array α} (h : MidB lt a s mid en b d d1) (hp : PermIn mid b d1 d2) (hs : SortedIn lt mid b d2) : PermIn a b d d2 ∧ SortedIn lt a b d2 := by
  obtain ⟨b1, b2, b3, b4, b5, b6, b7⟩ := h.bnd
  exact ⟨permIn_trans _ _ _ _ _ h.perm (permIn_mono d1 d2 mid b a b (by omega) (Nat.le_refl _) (by rw [h.perm.1]; exact b7) hp),
    merged h.cross (by rw [h.perm.1]; exact b7) (permIn_refl _ _ _) h.s1 hp hs⟩
/-- the search of the middle is done: what the rotation leaves -/
theorem mid_end {α : Type} [Inhabited α] {lt : α → α → Bool} (hS : SWO lt) {a m b s r0 s0 mid : Nat} {d : Array α} (ham : a < m) (hmb : m < b) (hb : b ≤ d.size) (hmid : mid = (a + b) / 2)
    (hs0 : s0 = if m > mid then mid + m - b else a) (hr0 : r0 = if m > mid then mid else m) (h1 : SortedIn lt a m d) (h2 : SortedIn lt m b d)
    (hss : s0 ≤ s) (hsr : s ≤ r0) (hlo : ∀ t, s0 ≤ t → t < s → lt d[mid + m - 1 - t]! d[t]! = false) (hhi : ∀ t, s ≤ t → t < r0 → lt d[mid + m - 1 - t]! d[t]! = true) :
    (s ≤ m ∧ m ≤ mid + m - s ∧ a ≤ s ∧ s ≤ mid ∧ mid + m - s ≤ b) ∧ (∀ d1, Rot s m (mid + m - s) d d1 → PermIn s (mid + m - s) d d1 → MidA lt a s mid (mid + m - s) b d d1) ∧
      (¬ (s < m ∧ m < mid + m - s) → MidA lt a s mid (mid + m - s) b d d) := by
  have bb : s ≤ m ∧ m ≤ mid + m - s ∧ a ≤ s ∧ s ≤ mid ∧ mid + m - s ≤ b := by
    split at hs0 <;> split at hr0 <;> omega
  have F : ∀ d1, Rot s m (mid + m - s) d d1 → PermIn s (mid + m - s) d d1 → MidA lt a s mid (mid + m - s) b d d1 := fun d1 hr hp => by
    obtain ⟨q1, q2, q3, q4, q5, q6, q7, q8, q9, q10, q11, q12, q13⟩ := four hS ham hmb hmid hs0 hr0 h1 h2 hss hsr hlo hhi hr
    exact ⟨permIn_mono d d1 s (mid + m - s) a b q1 q6 hb hp, ⟨q1, q2, q4, q6, q7, q8, hb⟩, q9, q10, q11, q12, q13⟩
  refine ⟨bb, F, fun hn => F d ⟨rfl, fun t => ?_⟩ (permIn_refl _ _ _)⟩
  by_cases e : s < m
  · have : m = mid + m - s := by omega
    rw [← this]; exact (rot_none_r s m _ t).symm
  · have : s = m := by omega
    rw [this]; exact (rot_none_l m _ _ t).symm
/-- the search goes on -/
theorem mid_step {α : Type} [Inhabited α] {lt : α → α → Bool} (hS : SWO lt) {a m b s r r0 s0 mid c : Nat} {d : Array α} (ham : a < m) (hmb : m < b) (hmid : mid = (a + b) / 2)
    (hs0 : s0 = if m > mid then mid + m - b else a) (hr0 : r0 = if m > mid then mid else m) (h1 : SortedIn lt a m d) (h2 : SortedIn lt m b d)
    (hss : s0 ≤ s) (hsc : s ≤ c) (hcr : c < r) (hsr : r ≤ r0) :
    (lt d[mid + m - 1 - c]! d[c]! = false → ∀ t, s0 ≤ t → t < c + 1 → lt d[mid + m - 1 - t]! d[t]! = false) ∧ (lt d[mid + m - 1 - c]! d[c]! = true → ∀ t, c ≤ t → t < r0 → lt d[mid + m - 1 - t]! d[t]! = true) := by
  have k : a ≤ s0 ∧ r0 ≤ m ∧ r0 ≤ mid ∧ mid + m - s0 ≤ b := by split at hs0 <;> split at hr0 <;> omega
  refine ⟨fun hl t q1 q2 => ?_, fun hl t q1 q2 => ?_⟩
  · exact mid_more hS h1 h2 (n := mid + m) (by omega) hl t (by omega) (by omega) (by omega) (by omega)
  · exact mid_less hS h1 h2 (n := mid + m) (by omega) hl t q1 (by omega) (by omega) (by omega)
theorem mid_bnd {a m b r0 s0 mid : Nat} (ham : a < m) (hmb : m < b) (hmid : mid = (a + b) / 2)
    (hs0 : s0 = if m > mid then mid + m - b else a) (hr0 : r0 = if m > mid then mid else m) : a ≤ s0 ∧ s0 ≤ r0 ∧ r0 ≤ m ∧ r0 ≤ mid ∧ mid + m - s0 ≤ b ∧ a < mid ∧ mid < b := by
  split at hs0 <;> split at hr0 <;> omega
end Pg
end Go.Proofs.Ytahnkkifegdjeaa
