/-
  Plain mathematics of the stable sort: swapping of ranges, rotation, the merge of two sorted parts, blocks.
-/
import Derived.Sort.LotA
namespace Go.Proofs.Ytahnkkifegdjeaa
open Go.Sort
namespace Pg

/-! ### two ranges swapped -/
/-- what the swap of n places at a with those at b answers, place by place -/
def Swr {α : Type} [Inhabited α] (a b n : Nat) (d d' : Array α) : Prop :=
  d'.size = d.size ∧ ∀ t, d'[t]! = if a ≤ t ∧ t < a + n then d[t - a + b]! else if b ≤ t ∧ t < b + n then d[t - b + a]! else d[t]!
theorem Swr.zero {α : Type} [Inhabited α] (a b : Nat) (d : Array α) : Swr a b 0 d d :=
  ⟨rfl, fun t => by rw [if_neg (by omega), if_neg (by omega)]⟩
theorem Swr.step {α : Type} [Inhabited α] {a b n : Nat} {d d' : Array α} (h : Swr a b n d d') (hab : a + n < b) (hb : b + n < d.size) : Swr a b (n + 1) d (swp d' (a + n) (b + n)) := by
  refine ⟨by rw [swp_size, h.1], fun t => ?_⟩
  rw [swp_get d' (by rw [h.1]; omega) (by rw [h.1]; omega), h.2, h.2, h.2]
  by_cases h1 : t = b + n
  · subst h1
    rw [if_pos rfl, if_neg (by omega), if_neg (by omega), if_neg (by omega), if_pos (by omega)]; congr 1; omega
  · rw [if_neg h1]
    by_cases h2 : t = a + n
    · subst h2
      rw [if_pos rfl, if_neg (by omega), if_neg (by omega), if_pos (by omega)]; congr 1; omega
    · rw [if_neg h2]
      by_cases h3 : a ≤ t ∧ t < a + n
      · rw [if_pos h3, if_pos (by omega)]
      · rw [if_neg h3, if_neg (by omega : ¬ (a ≤ t ∧ t < a + (n + 1)))]
        by_cases h4 : b ≤ t ∧ t < b + n
        · rw [if_pos h4, if_pos (by omega)]
        · rw [if_neg h4, if_neg (by omega)]

/-! ### rotation -/
/-- [a, m) and [m, b) have changed places -/
def rot {α : Type} (a m b : Nat) (f : Nat → α) (t : Nat) : α := if a ≤ t ∧ t < b then (if t < a + (b - m) then f (t + (m - a)) else f (t - (b - m))) else f t
def Rot {α : Type} [Inhabited α] (a m b : Nat) (d d' : Array α) : Prop := d'.size = d.size ∧ ∀ t, d'[t]! = rot a m b (fun t => d[t]!) t
theorem rot_more {α : Type} [Inhabited α] {i j m : Nat} {d d' : Array α} (hi : i ≤ m) (hij : j < i) (h : Swr (m - i) m j d d') (t : Nat) :
    rot (m - (i - j)) m (m + j) (fun t => d'[t]!) t = rot (m - i) m (m + j) (fun t => d[t]!) t := by
  unfold rot
  simp only [h.2]
  repeat' split
  all_goals first
    | omega
    | (congr 1 <;> omega)
theorem rot_less {α : Type} [Inhabited α] {i j m : Nat} {d d' : Array α} (hi : i ≤ m) (hij : i < j) (h : Swr (m - i) (m + j - i) i d d') (t : Nat) :
    rot (m - i) m (m + (j - i)) (fun t => d'[t]!) t = rot (m - i) m (m + j) (fun t => d[t]!) t := by
  unfold rot
  simp only [h.2]
  repeat' split
  all_goals first
    | omega
    | (congr 1 <;> omega)
theorem rot_last {α : Type} [Inhabited α] {i m : Nat} {d d' : Array α} (hi : i ≤ m) (h : Swr (m - i) m i d d') (t : Nat) :
    d'[t]! = rot (m - i) m (m + i) (fun t => d[t]!) t := by
  unfold rot
  simp only [h.2]
  repeat' split
  all_goals first
    | omega
    | (congr 1 <;> omega)
theorem rot_none_l {α : Type} (a b : Nat) (f : Nat → α) (t : Nat) : rot a a b f t = f t := by
  unfold rot
  repeat' split
  all_goals first
    | omega
    | (congr 1 <;> omega)
    | rfl
theorem rot_none_r {α : Type} (a b : Nat) (f : Nat → α) (t : Nat) : rot a b b f t = f t := by
  unfold rot
  repeat' split
  all_goals first
    | omega
    | (congr 1 <;> omega)
    | rfl
/-- one more swap keeps a permutation -/
theorem perm_swp {α : Type} [Inhabited α] {a b i j : Nat} {d d' : Array α} (h : PermIn a b d d') (hi : a ≤ i ∧ i < b) (hj : a ≤ j ∧ j < b) (hb : b ≤ d.size) : PermIn a b d (swp d' i j) :=
  permIn_trans _ _ _ _ _ h (swp_permIn d' a b i j hi.1 hi.2 hj.1 hj.2 (by rw [h.1]; exact hb))

/-! ### sorted parts -/
theorem SortedIn.of {α : Type} [Inhabited α] {lt : α → α → Bool} {a b : Nat} {d : Array α} (h : ∀ i j, a ≤ i → i < j → j < b → lt d[j]! d[i]! = false) : SortedIn lt a b d := h
theorem le_of {α : Type} [Inhabited α] {lt : α → α → Bool} (hS : SWO lt) {a b : Nat} {d : Array α} (h : SortedIn lt a b d) {i j : Nat} (hi : a ≤ i) (hij : i ≤ j) (hj : j < b) : lt d[j]! d[i]! = false := by
  by_cases e : i = j
  · subst e; exact hS.irrefl _
  · exact h i j hi (by omega) hj
theorem lt_tr {α : Type} {lt : α → α → Bool} (hS : SWO lt) {x y z : α} (h1 : lt x y = true) (h2 : lt z y = false) : lt x z = true := by
  cases h : lt x z with
  | true => rfl
  | false => rw [hS.ntrans _ _ _ h h2] at h1; cases h1
theorem lt_tr' {α : Type} {lt : α → α → Bool} (hS : SWO lt) {x y z : α} (h1 : lt x y = true) (h2 : lt x z = false) : lt z y = true := by
  cases h : lt z y with
  | true => rfl
  | false => rw [hS.ntrans _ _ _ h2 h] at h1; cases h1
theorem sorted_sub {α : Type} [Inhabited α] {lt : α → α → Bool} {a b a' b' : Nat} {d : Array α} (h : SortedIn lt a b d) (ha : a ≤ a') (hb : b' ≤ b) : SortedIn lt a' b' d :=
  fun i j hi hij hj => h i j (by omega) hij (by omega)
theorem sorted_congr {α : Type} [Inhabited α] {lt : α → α → Bool} {a b : Nat} {d d' : Array α} (h : SortedIn lt a b d) (e : ∀ t, a ≤ t → t < b → d'[t]! = d[t]!) : SortedIn lt a b d' := by
  intro i j hi hij hj
  rw [e i hi (by omega), e j (by omega) hj]; exact h i j hi hij hj
/-- two sorted parts, nothing of the second below anything of the first -/
theorem sorted_join {α : Type} [Inhabited α] {lt : α → α → Bool} {a m b : Nat} {d : Array α} (h1 : SortedIn lt a m d) (h2 : SortedIn lt m b d) (hx : ∀ i j, a ≤ i → i < m → m ≤ j → j < b → lt d[j]! d[i]! = false) : SortedIn lt a b d := by
  intro i j hi hij hj
  by_cases h : j < m
  · exact h1 i j hi hij h
  · by_cases h' : i < m
    · exact hx i j hi h' (by omega) hj
    · exact h2 i j (by omega) hij hj

/-! ### one element is put into a sorted part -/
/-- the element at a stands behind what was at a + 1 .. i - 1 -/
def Up {α : Type} [Inhabited α] (a i : Nat) (d d' : Array α) : Prop := d'.size = d.size ∧ ∀ t, d'[t]! = if a ≤ t ∧ t < i then d[t + 1]! else if t = i then d[a]! else d[t]!
theorem Up.zero {α : Type} [Inhabited α] (a : Nat) (d : Array α) : Up a a d d := ⟨rfl, fun t => by rw [if_neg (by omega)]; split <;> simp_all⟩
theorem Up.step {α : Type} [Inhabited α] {a k : Nat} {d d' : Array α} (h : Up a k d d') (ha : a ≤ k) (hk : k + 1 < d.size) : Up a (k + 1) d (swp d' k (k + 1)) := by
  refine ⟨by rw [swp_size, h.1], fun t => ?_⟩
  rw [swp_get d' (by rw [h.1]; omega) (by rw [h.1]; omega), h.2, h.2, h.2]
  by_cases h1 : t = k + 1
  · subst h1
    rw [if_pos rfl, if_neg (by omega), if_pos rfl, if_neg (by omega), if_pos rfl]
  · rw [if_neg h1]
    by_cases h2 : t = k
    · subst h2
      rw [if_pos rfl, if_neg (by omega), if_neg (by omega), if_pos (by omega)]
    · rw [if_neg h2]
      by_cases h3 : a ≤ t ∧ t < k
      · rw [if_pos h3, if_pos (by omega)]
      · rw [if_neg h3, if_neg h2, if_neg (by omega), if_neg (by omega)]
/-- the element at m stands at i, ahead of what was at i .. m - 1 -/
def Dn {α : Type} [Inhabited α] (i m : Nat) (d d' : Array α) : Prop := d'.size = d.size ∧ ∀ t, d'[t]! = if i < t ∧ t ≤ m then d[t - 1]! else if t = i then d[m]! else d[t]!
theorem Dn.zero {α : Type} [Inhabited α] (m : Nat) (d : Array α) : Dn m m d d := ⟨rfl, fun t => by rw [if_neg (by omega)]; split <;> simp_all⟩
theorem Dn.step {α : Type} [Inhabited α] {m k : Nat} {d d' : Array α} (h : Dn (k + 1) m d d') (hk : k + 1 ≤ m) (hm : m < d.size) : Dn k m d (swp d' (k + 1) k) := by
  refine ⟨by rw [swp_size, h.1], fun t => ?_⟩
  rw [swp_get d' (by rw [h.1]; omega) (by rw [h.1]; omega), h.2, h.2, h.2]
  by_cases h1 : t = k
  · subst h1
    rw [if_pos rfl, if_neg (by omega), if_pos rfl, if_neg (by omega), if_pos rfl]
  · rw [if_neg h1]
    by_cases h2 : t = k + 1
    · subst h2
      rw [if_pos rfl, if_neg (by omega), if_neg (by omega), if_pos (by omega)]; congr 1
    · rw [if_neg h2]
      by_cases h3 : k + 1 < t ∧ t ≤ m
      · rw [if_pos h3, if_pos (by omega)]
      · rw [if_neg h3, if_neg h2, if_neg (by omega), if_neg (by omega)]
/-- symMerge, its first arm: one element on the left -/
theorem up_sorted {α : Type} [Inhabited α] {lt : α → α → Bool} (hS : SWO lt) {a i b : Nat} {d d' : Array α} (hu : Up a (i - 1) d d') (ha : a + 1 ≤ i) (hib : i ≤ b)
    (h2 : SortedIn lt (a + 1) b d) (hlo : ∀ t, a + 1 ≤ t → t < i → lt d[t]! d[a]! = true) (hhi : ∀ t, i ≤ t → t < b → lt d[t]! d[a]! = false) : SortedIn lt a b d' := by
  intro p q hp hpq hq
  rw [hu.2, hu.2]
  repeat' split
  all_goals first
    | omega
    | exact h2 _ _ (by omega) (by omega) (by omega)
    | exact hS.asymmA (hlo _ (by omega) (by omega))
    | exact hhi _ (by omega) (by omega)
/-- its second arm: one element on the right -/
theorem dn_sorted {α : Type} [Inhabited α] {lt : α → α → Bool} (hS : SWO lt) {a i m : Nat} {d d' : Array α} (hu : Dn i m d d') (ha : a ≤ i) (him : i ≤ m)
    (h1 : SortedIn lt a m d) (hlo : ∀ t, a ≤ t → t < i → lt d[m]! d[t]! = false) (hhi : ∀ t, i ≤ t → t < m → lt d[m]! d[t]! = true) : SortedIn lt a (m + 1) d' := by
  intro p q hp hpq hq
  rw [hu.2, hu.2]
  repeat' split
  all_goals first
    | omega
    | exact h1 _ _ (by omega) (by omega) (by omega)
    | exact hS.asymmA (hhi _ (by omega) (by omega))
    | exact hlo _ (by omega) (by omega)
/-- the search of the first arm goes on -/
theorem up_more {α : Type} [Inhabited α] {lt : α → α → Bool} (hS : SWO lt) {a b h : Nat} {d : Array α} (hs : SortedIn lt (a + 1) b d) (hb : h < b) (hl : lt d[h]! d[a]! = true) (t : Nat) (h1 : a + 1 ≤ t) (h2 : t < h + 1) : lt d[t]! d[a]! = true :=
  lt_tr' hS hl (le_of hS hs h1 (by omega) hb)
theorem up_less {α : Type} [Inhabited α] {lt : α → α → Bool} (hS : SWO lt) {a b h : Nat} {d : Array α} (hs : SortedIn lt (a + 1) b d) (ha : a + 1 ≤ h) (hl : lt d[h]! d[a]! = false) (t : Nat) (h1 : h ≤ t) (h2 : t < b) : lt d[t]! d[a]! = false :=
  hS.ntrans _ _ _ (le_of hS hs ha h1 h2) hl
theorem dn_more {α : Type} [Inhabited α] {lt : α → α → Bool} (hS : SWO lt) {a m h : Nat} {d : Array α} (hs : SortedIn lt a m d) (hb : h < m) (hl : lt d[m]! d[h]! = false) (t : Nat) (h1 : a ≤ t) (h2 : t < h + 1) : lt d[m]! d[t]! = false :=
  hS.ntrans _ _ _ hl (le_of hS hs h1 (by omega) hb)
theorem dn_less {α : Type} [Inhabited α] {lt : α → α → Bool} (hS : SWO lt) {a m h : Nat} {d : Array α} (hs : SortedIn lt a m d) (ha : a ≤ h) (hl : lt d[m]! d[h]! = true) (t : Nat) (h1 : h ≤ t) (h2 : t < m) : lt d[m]! d[t]! = true :=
  lt_tr hS hl (le_of hS hs ha h1 h2)

/-! ### the middle of symMerge -/
/-- what the search of the middle knows: p = n - 1, n = mid + m -/
theorem mid_more {α : Type} [Inhabited α] {lt : α → α → Bool} (hS : SWO lt) {a m b n c : Nat} {d : Array α} (h1 : SortedIn lt a m d) (h2 : SortedIn lt m b d) (hc : c < m) (hl : lt d[n - 1 - c]! d[c]! = false)
    (t : Nat) (ht : a ≤ t) (htc : t ≤ c) (hp : m ≤ n - 1 - c) (hpb : n - 1 - t < b) : lt d[n - 1 - t]! d[t]! = false :=
  hS.ntrans _ _ _ (le_of hS h2 hp (by omega) hpb) (hS.ntrans _ _ _ hl (le_of hS h1 ht htc hc))
theorem mid_less {α : Type} [Inhabited α] {lt : α → α → Bool} (hS : SWO lt) {a m b n c : Nat} {d : Array α} (h1 : SortedIn lt a m d) (h2 : SortedIn lt m b d) (ha : a ≤ c) (hl : lt d[n - 1 - c]! d[c]! = true)
    (t : Nat) (ht : c ≤ t) (htm : t < m) (hp : m ≤ n - 1 - t) (hpb : n - 1 - c < b) : lt d[n - 1 - t]! d[t]! = true :=
  lt_tr hS (lt_tr' hS hl (le_of hS h2 hp (by omega) hpb)) (le_of hS h1 ha ht htm)

/-- behind the rotation: four sorted parts, nothing on the right of mid below anything on the left -/
theorem four {α : Type} [Inhabited α] {lt : α → α → Bool} (hS : SWO lt) {a m b s r0 s0 mid : Nat} {d d' : Array α} (ham : a < m) (hmb : m < b) (hmid : mid = (a + b) / 2)
    (hs0 : s0 = if m > mid then mid + m - b else a) (hr0 : r0 = if m > mid then mid else m) (h1 : SortedIn lt a m d) (h2 : SortedIn lt m b d)
    (hss : s0 ≤ s) (hsr : s ≤ r0) (hlo : ∀ t, s0 ≤ t → t < s → lt d[mid + m - 1 - t]! d[t]! = false) (hhi : ∀ t, s ≤ t → t < r0 → lt d[mid + m - 1 - t]! d[t]! = true)
    (hr : Rot s m (mid + m - s) d d') :
    a ≤ s ∧ s ≤ mid ∧ s ≤ m ∧ mid ≤ mid + m - s ∧ m ≤ mid + m - s ∧ mid + m - s ≤ b ∧ a < mid ∧ mid < b ∧ SortedIn lt a s d' ∧ SortedIn lt s mid d' ∧ SortedIn lt mid (mid + m - s) d' ∧ SortedIn lt (mid + m - s) b d' ∧
      ∀ i j, a ≤ i → i < mid → mid ≤ j → j < b → lt d'[j]! d'[i]! = false := by
  have ha : a ≤ s := by split at hs0 <;> omega
  have hm : s ≤ mid := by split at hr0 <;> omega
  have hsm : s ≤ m := by split at hr0 <;> omega
  have he : mid + m - s ≤ b := by split at hs0 <;> omega
  refine ⟨ha, hm, hsm, by omega, by omega, he, by omega, by omega, ?_, ?_, ?_, ?_, ?_⟩
  · intro p q hp hpq hq
    rw [hr.2, hr.2]; unfold rot
    rw [if_neg (by omega), if_neg (by omega)]; exact h1 _ _ hp hpq (by omega)
  · intro p q hp hpq hq
    rw [hr.2, hr.2]; unfold rot
    rw [if_pos (by omega), if_pos (by omega), if_pos (by omega), if_pos (by omega)]; exact h2 _ _ (by omega) (by omega) (by omega)
  · intro p q hp hpq hq
    rw [hr.2, hr.2]; unfold rot
    rw [if_pos (by omega), if_neg (by omega), if_pos (by omega), if_neg (by omega)]; exact h1 _ _ (by omega) (by omega) (by omega)
  · intro p q hp hpq hq
    rw [hr.2, hr.2]; unfold rot
    rw [if_neg (by omega), if_neg (by omega)]; exact h2 _ _ (by omega) (by omega) (by omega)
  · intro i j hi him hj hjb
    have A : ∀ t u, a ≤ t → t < s → mid + m - s ≤ u → u < b → lt d[u]! d[t]! = false := by
      intro t u ht hts hu hub
      have hs' : s0 < s := by
        by_cases h : s0 < s
        · exact h
        · split at hs0 <;> omega
      have := hlo (s - 1) (by omega) (by omega)
      rw [show mid + m - 1 - (s - 1) = mid + m - s by omega] at this
      exact hS.ntrans _ _ _ (le_of hS h2 (by omega) hu hub) (hS.ntrans _ _ _ this (le_of hS h1 ht (by omega) (by omega)))
    have B : ∀ t u, m ≤ t → t < mid + m - s → s ≤ u → u < m → lt d[u]! d[t]! = false := by
      intro t u ht hts hu hum
      have hs' : s < r0 := by
        by_cases h : s < r0
        · exact h
        · split at hr0 <;> omega
      have := hhi s (by omega) hs'
      rw [show mid + m - 1 - s = mid + m - s - 1 by omega] at this
      exact hS.ntrans _ _ _ (le_of hS h1 ha hu hum) (hS.ntrans _ _ _ (hS.asymmA this) (le_of hS h2 ht (by omega) (by omega)))
    rw [hr.2, hr.2]; unfold rot
    simp only []
    by_cases c1 : i < s
    · rw [if_neg (by omega : ¬ (s ≤ i ∧ i < mid + m - s))]
      by_cases c2 : j < mid + m - s
      · rw [if_pos (by omega), if_neg (by omega)]
        exact h1 _ _ hi (by omega) (by omega)
      · rw [if_neg (by omega)]; exact A _ _ hi c1 (by omega) hjb
    · rw [if_pos (by omega : s ≤ i ∧ i < mid + m - s), if_pos (by omega : i < s + (mid + m - s - m))]
      by_cases c2 : j < mid + m - s
      · rw [if_pos (by omega), if_neg (by omega)]
        exact B _ _ (by omega) (by omega) (by omega) (by omega)
      · rw [if_neg (by omega)]; exact h2 _ _ (by omega) (by omega) hjb
/-- both halves merged -/
theorem merged {α : Type} [Inhabited α] {lt : α → α → Bool} {a mid b : Nat} {d d1 d2 : Array α} (hx : ∀ i j, a ≤ i → i < mid → mid ≤ j → j < b → lt d[j]! d[i]! = false) (hb : b ≤ d.size) 
    (p1 : PermIn a mid d d1) (s1 : SortedIn lt a mid d1) (p2 : PermIn mid b d1 d2) (s2 : SortedIn lt mid b d2) : SortedIn lt a b d2 := by
  have e2 : ∀ t, t < mid → d2[t]! = d1[t]! := fun t ht => p2.2.1 t (Or.inl ht)
  refine sorted_join (sorted_congr s1 fun t _ ht => e2 t ht) s2 fun i j hi him hj hjb => ?_
  rw [e2 i him]
  have k1 : ∀ j, mid ≤ j → j < b → lt d1[j]! d1[i]! = false := fun j hj hjb => by
    rw [p1.2.1 j (Or.inr hj)]
    exact permIn_all d d1 a mid (fun x => lt d[j]! x = false) (by omega) p1 (fun t h1 h2 => hx t j h1 h2 hj hjb) i hi him
  exact permIn_all d1 d2 mid b (fun x => lt x d1[i]! = false) (by rw [p1.1]; exact hb) p2 (fun t h1 h2 => k1 t h1 h2) j hj hjb
end Pg
end Go.Proofs.Ytahnkkifegdjeaa
