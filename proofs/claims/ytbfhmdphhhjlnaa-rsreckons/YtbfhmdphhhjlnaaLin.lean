/-
  Plain mathematics over the field of 256: sums, products of matrices, what a row-by-row elimination keeps, Vandermonde's rows; nothing of any program is imported here.
-/
import Derived.Test.YtbfhmdphhhjlnaaMath
namespace Go.Proofs.Ytbfhmdphhhjlnaa.Gf

/-- The sum of f 0 .. f (k - 1). -/
def xs : Nat → (Nat → Nat) → Nat
  | 0, _ => 0
  | k + 1, f => xs k f ^^^ f k

theorem xor_zero_eq {a b : Nat} (h : a ^^^ b = 0) : a = b := by
  have e : (a ^^^ b) ^^^ b = a := by rw [Nat.xor_assoc, Nat.xor_self, Nat.xor_zero]
  rw [← e, h, Nat.zero_xor]
theorem xor4 (a b c d : Nat) : (a ^^^ b) ^^^ (c ^^^ d) = (a ^^^ c) ^^^ (b ^^^ d) := by
  rw [Nat.xor_assoc, Nat.xor_assoc]; congr 1
  rw [← Nat.xor_assoc, ← Nat.xor_assoc, Nat.xor_comm b c]

theorem xs_congr {k : Nat} {f g : Nat → Nat} (h : ∀ i, i < k → f i = g i) : xs k f = xs k g := by
  induction k with
  | zero => rfl
  | succ k ih => show xs k f ^^^ f k = xs k g ^^^ g k; rw [ih fun i hi => h i (by omega), h k (by omega)]
theorem xs_lt {k : Nat} {f : Nat → Nat} (h : ∀ i, i < k → f i < 256) : xs k f < 256 := by
  induction k with
  | zero => show 0 < 256; omega
  | succ k ih => exact xor_lt (ih fun i hi => h i (by omega)) (h k (by omega))
theorem xs_zero {k : Nat} {f : Nat → Nat} (h : ∀ i, i < k → f i = 0) : xs k f = 0 := by
  induction k with
  | zero => rfl
  | succ k ih => show xs k f ^^^ f k = 0; rw [ih fun i hi => h i (by omega), h k (by omega)]; rfl
theorem xs_xor (k : Nat) (f g : Nat → Nat) : xs k (fun i => f i ^^^ g i) = xs k f ^^^ xs k g := by
  induction k with
  | zero => show 0 = 0 ^^^ 0; simp
  | succ k ih => show xs k _ ^^^ _ = (xs k f ^^^ f k) ^^^ (xs k g ^^^ g k); rw [ih, xor4]
theorem xs_mul_left (c k : Nat) (f : Nat → Nat) : M c (xs k f) = xs k (fun i => M c (f i)) := by
  induction k with
  | zero => exact M_zero_right c
  | succ k ih => show M c (xs k f ^^^ f k) = _; rw [M_xor, ih]; rfl
theorem xs_mul_right {c k : Nat} {f : Nat → Nat} (hc : c < 256) (h : ∀ i, i < k → f i < 256) : M (xs k f) c = xs k (fun i => M (f i) c) := by
  rw [M_comm (xs_lt h) hc, xs_mul_left]
  exact xs_congr fun i hi => M_comm hc (h i hi)
theorem xs_swap (k l : Nat) (f : Nat → Nat → Nat) : xs k (fun i => xs l (fun j => f i j)) = xs l (fun j => xs k (fun i => f i j)) := by
  induction k with
  | zero => exact (xs_zero fun _ _ => rfl).symm
  | succ k ih => show xs k _ ^^^ xs l _ = _; rw [ih, ← xs_xor]; rfl
theorem xs_single {k t : Nat} {f : Nat → Nat} (ht : t < k) (h : ∀ i, i < k → i ≠ t → f i = 0) : xs k f = f t := by
  induction k with
  | zero => omega
  | succ k ih =>
    show xs k f ^^^ f k = f t
    by_cases e : t = k
    · subst e; rw [xs_zero fun i hi => h i (by omega) (by omega), Nat.zero_xor]
    · rw [h k (by omega) (by omega), Nat.xor_zero]
      exact ih (by omega) fun i hi hne => h i (by omega) hne

/-- Entries of the field. -/
def B (a : Nat → Nat → Nat) : Prop := ∀ i j, a i j < 256
/-- The product; k: a's columns, b's rows. -/
def mm (k : Nat) (a b : Nat → Nat → Nat) : Nat → Nat → Nat := fun i j => xs k (fun t => M (a i t) (b t j))
/-- The unit. -/
def one : Nat → Nat → Nat := fun i j => if i = j then 1 else 0
/-- A matrix times a column. -/
def mv (k : Nat) (a : Nat → Nat → Nat) (v : Nat → Nat) : Nat → Nat := fun i => xs k (fun t => M (a i t) (v t))

theorem one_B : B one := fun i j => by unfold one; split <;> omega
theorem mm_B {k : Nat} {a b : Nat → Nat → Nat} (ha : B a) : B (mm k a b) := fun i _ => xs_lt fun t _ => M_lt _ (ha i t)
theorem mv_lt {k : Nat} {a : Nat → Nat → Nat} {v : Nat → Nat} (ha : B a) (i : Nat) : mv k a v i < 256 := xs_lt fun t _ => M_lt _ (ha i t)
theorem mm_assoc {k l : Nat} {a b c : Nat → Nat → Nat} (ha : B a) (hb : B b) (hc : B c) (i j : Nat) : mm l (mm k a b) c i j = mm k a (mm l b c) i j := by
  unfold mm
  rw [xs_congr (g := fun t => xs k (fun s => M (a i s) (M (b s t) (c t j)))), xs_swap]
  · exact xs_congr fun s _ => (xs_mul_left _ _ _).symm
  · intro t _
    rw [xs_mul_right (hc t j) fun s _ => M_lt _ (ha i s)]
    exact xs_congr fun s _ => M_assoc (ha i s) (hb s t) (hc t j)
theorem mv_mm {k l : Nat} {a b : Nat → Nat → Nat} {v : Nat → Nat} (ha : B a) (hb : B b) (hv : ∀ i, v i < 256) (i : Nat) : mv l (mm k a b) v i = mv k a (mv l b v) i :=
  mm_assoc (c := fun i _ => v i) ha hb (fun i _ => hv i) i 0
theorem mm_congr {k : Nat} {a a' b b' : Nat → Nat → Nat} {i j : Nat} (h : ∀ t, t < k → a i t = a' i t) (g : ∀ t, t < k → b t j = b' t j) : mm k a b i j = mm k a' b' i j :=
  xs_congr fun t ht => by rw [h t ht, g t ht]
theorem mv_congr {k : Nat} {a a' : Nat → Nat → Nat} {v v' : Nat → Nat} {i : Nat} (h : ∀ t, t < k → a i t = a' i t) (g : ∀ t, t < k → v t = v' t) : mv k a v i = mv k a' v' i :=
  xs_congr fun t ht => by rw [h t ht, g t ht]
theorem mm_one_left {n i j : Nat} {a : Nat → Nat → Nat} (ha : B a) (hi : i < n) : mm n one a i j = a i j := by
  unfold mm
  rw [xs_single hi fun t _ hne => by unfold one; rw [if_neg (by omega), M_zero_left]]
  unfold one; rw [if_pos rfl, M_one_left (ha i j)]
theorem mm_one_right {n i j : Nat} {a : Nat → Nat → Nat} (ha : B a) (hj : j < n) : mm n a one i j = a i j := by
  unfold mm
  rw [xs_single hj fun t _ hne => by unfold one; rw [if_neg (by omega), M_zero_right]]
  unfold one; rw [if_pos rfl, M_one_right (ha i j)]
theorem mv_one {n i : Nat} {v : Nat → Nat} (hv : ∀ i, v i < 256) (hi : i < n) : mv n one v i = v i :=
  mm_one_left (a := fun i _ => v i) (j := 0) (fun i _ => hv i) hi
theorem mv_zero {n i : Nat} {a : Nat → Nat → Nat} {v : Nat → Nat} (h : ∀ t, t < n → v t = 0) : mv n a v i = 0 := xs_zero fun t ht => by rw [h t ht, M_zero_right]

/-- No column but nought is made nought by it. -/
def Inj (n : Nat) (a : Nat → Nat → Nat) : Prop := ∀ v, (∀ i, v i < 256) → (∀ i, i < n → mv n a v i = 0) → ∀ i, i < n → v i = 0
/-- x is a's inverse, either way round. -/
structure IsInv (n : Nat) (a x : Nat → Nat → Nat) : Prop where
  left : ∀ i, i < n → ∀ j, j < n → mm n x a i j = one i j
  right : ∀ i, i < n → ∀ j, j < n → mm n a x i j = one i j

theorem IsInv.symm {n : Nat} {a x : Nat → Nat → Nat} (h : IsInv n a x) : IsInv n x a := ⟨h.right, h.left⟩
theorem IsInv.inj {n : Nat} {a x : Nat → Nat → Nat} (h : IsInv n a x) (ha : B a) (hx : B x) : Inj n a := by
  intro v hv hz i hi
  have e : mv n (mm n x a) v i = v i := by
    rw [← mv_one hv hi]; exact mv_congr (fun t ht => h.left i hi t ht) fun _ _ => rfl
  rw [← e, mv_mm hx ha hv]; exact mv_zero hz
theorem IsInv.unique {n : Nat} {a x y : Nat → Nat → Nat} (h : IsInv n a x) (k : IsInv n a y) (ha : B a) (hx : B x) (hy : B y) : ∀ i, i < n → ∀ j, j < n → x i j = y i j := by
  intro i hi j hj
  rw [← mm_one_right hx hj, mm_congr (b' := mm n a y) (fun _ _ => rfl) fun t ht => (k.right t ht j hj).symm, ← mm_assoc hx ha hy, mm_congr (a' := one) (b' := y) (fun t ht => h.left i hi t ht) fun _ _ => rfl, mm_one_left hy hi]

/-- What the elimination keeps: y times a is x, and y makes no column but nought nought. -/
structure Elim (n : Nat) (a x y : Nat → Nat → Nat) : Prop where
  bx : B x
  bys : B y
  rel : ∀ i, i < n → ∀ j, j < n → mm n y a i j = x i j
  inj : Inj n y
theorem Elim.start {n : Nat} {a : Nat → Nat → Nat} (ha : B a) : Elim n a a one :=
  ⟨ha, one_B, fun _ hi _ _ => mm_one_left ha hi, fun v hv hz i hi => by rw [← mv_one hv hi]; exact hz i hi⟩
/-- Two rows exchanged. -/
def swp (c p : Nat) (x : Nat → Nat → Nat) : Nat → Nat → Nat := fun i => if i = c then x p else if i = p then x c else x i
/-- Row c times f. -/
def scl (c f : Nat) (x : Nat → Nat → Nat) : Nat → Nat → Nat := fun i j => if i = c then M (x c j) f else x i j
/-- g times row c added to row r. -/
def addr (r c g : Nat) (x : Nat → Nat → Nat) : Nat → Nat → Nat := fun i j => if i = r then x r j ^^^ M g (x c j) else x i j
theorem Elim.swap {n c p : Nat} {a x y : Nat → Nat → Nat} (h : Elim n a x y) (hc : c < n) (hp : p < n) : Elim n a (swp c p x) (swp c p y) := by
  refine ⟨fun i j => ?_, fun i j => ?_, fun i hi j hj => ?_, fun v hv hz i hi => ?_⟩
  · unfold swp; split; exact h.bx _ _; split <;> exact h.bx _ _
  · unfold swp; split; exact h.bys _ _; split <;> exact h.bys _ _
  · show xs n (fun t => M (swp c p y i t) (a t j)) = swp c p x i j
    by_cases e : i = c
    · rw [show swp c p y i = y p by unfold swp; rw [if_pos e], show swp c p x i = x p by unfold swp; rw [if_pos e]]
      exact h.rel p hp j hj
    · by_cases q : i = p
      · rw [show swp c p y i = y c by unfold swp; rw [if_neg e, if_pos q], show swp c p x i = x c by unfold swp; rw [if_neg e, if_pos q]]
        exact h.rel c hc j hj
      · rw [show swp c p y i = y i by unfold swp; rw [if_neg e, if_neg q], show swp c p x i = x i by unfold swp; rw [if_neg e, if_neg q]]
        exact h.rel i hi j hj
  · refine h.inj v hv (fun t ht => ?_) i hi
    by_cases e : t = c
    · subst e
      have := hz p hp
      unfold mv swp at this
      by_cases q : p = t
      · subst q; simpa [mv] using this
      · simpa [q, mv] using this
    · by_cases q : t = p
      · subst q
        have := hz c hc
        unfold mv swp at this
        simpa [mv] using this
      · have := hz t ht
        unfold mv swp at this
        simpa [e, q, mv] using this
theorem M_ne_zero {a f : Nat} (ha : a < 256) (hf : f < 256) (f0 : 0 < f) (h : M a f = 0) : a = 0 := by
  rcases Nat.eq_zero_or_pos a with z | z
  · exact z
  · have := M_pos ha hf z f0; omega
theorem Elim.scale {n c f : Nat} {a x y : Nat → Nat → Nat} (h : Elim n a x y) (ha : B a) (hf : f < 256) (f0 : 0 < f) : Elim n a (scl c f x) (scl c f y) := by
  refine ⟨fun i j => ?_, fun i j => ?_, fun i hi j hj => ?_, fun v hv hz i hi => ?_⟩
  · unfold scl; split; exact M_lt _ (h.bx _ _); exact h.bx _ _
  · unfold scl; split; exact M_lt _ (h.bys _ _); exact h.bys _ _
  · unfold scl mm
    by_cases e : i = c
    · subst e
      simp only [if_true]
      rw [← h.rel i hi j hj]
      unfold mm
      rw [xs_mul_right hf fun t _ => M_lt _ (h.bys i t)]
      refine xs_congr fun t _ => ?_
      rw [M_assoc (h.bys i t) hf (ha t j), M_comm hf (ha t j), ← M_assoc (h.bys i t) (ha t j) hf]
    · simp only [if_neg e]; exact h.rel i hi j hj
  · refine h.inj v hv (fun t ht => ?_) i hi
    have := hz t ht
    unfold mv scl at this
    by_cases e : t = c
    · subst e
      simp only [if_true] at this
      refine M_ne_zero (mv_lt h.bys t) hf f0 ?_
      unfold mv
      rw [xs_mul_right hf fun s _ => M_lt _ (h.bys t s), ← this]
      refine xs_congr fun s _ => ?_
      rw [M_assoc (h.bys t s) (hv s) hf, M_comm (hv s) hf, ← M_assoc (h.bys t s) hf (hv s)]
    · simp only [if_neg e] at this; exact this
theorem Elim.add {n r c g : Nat} {a x y : Nat → Nat → Nat} (h : Elim n a x y) (ha : B a) (hr : r < n) (hc : c < n) (hne : r ≠ c) (hg : g < 256) : Elim n a (addr r c g x) (addr r c g y) := by
  refine ⟨fun i j => ?_, fun i j => ?_, fun i hi j hj => ?_, fun v hv hz i hi => ?_⟩
  · unfold addr; split; exact xor_lt (h.bx _ _) (M_lt _ hg); exact h.bx _ _
  · unfold addr; split; exact xor_lt (h.bys _ _) (M_lt _ hg); exact h.bys _ _
  · unfold addr mm
    by_cases e : i = r
    · subst e
      simp only [if_true]
      rw [← h.rel i hi j hj, ← h.rel c hc j hj]
      unfold mm
      rw [xs_mul_left, ← xs_xor]
      refine xs_congr fun t _ => ?_
      rw [M_xor_left (h.bys i t) (M_lt _ hg) (ha t j), M_assoc hg (h.bys c t) (ha t j)]
    · simp only [if_neg e]; exact h.rel i hi j hj
  · have key : ∀ t, t < n → mv n y v t = 0 := by
      have zc : mv n y v c = 0 := by
        have := hz c hc
        unfold mv addr at this
        simp only [if_neg (Ne.symm hne)] at this
        exact this
      intro t ht
      have := hz t ht
      unfold mv addr at this
      by_cases e : t = r
      · subst e
        simp only [if_true] at this
        rw [xs_congr (g := fun s => M (y t s) (v s) ^^^ M g (M (y c s) (v s))) (fun s _ => by rw [M_xor_left (h.bys t s) (M_lt _ hg) (hv s), M_assoc hg (h.bys c s) (hv s)]), xs_xor, ← xs_mul_left] at this
        have zc' : xs n (fun s => M (y c s) (v s)) = 0 := zc
        rw [zc', M_zero_right, Nat.xor_zero] at this
        exact this
      · simp only [if_neg e] at this; exact this
    exact h.inj v hv key i hi
/-- At the end, x the unit: y is the inverse. -/
theorem Elim.done {n : Nat} {a x y : Nat → Nat → Nat} (h : Elim n a x y) (ha : B a) (hx : ∀ i, i < n → ∀ j, j < n → x i j = one i j) : IsInv n a y := by
  have left : ∀ i, i < n → ∀ j, j < n → mm n y a i j = one i j := fun i hi j hj => (h.rel i hi j hj).trans (hx i hi j hj)
  refine ⟨left, fun i hi j hj => ?_⟩
  -- y (a y) = y, and y makes no column but nought nought: so a y is the unit
  have hv : ∀ t, (mm n a y t j ^^^ one t j) < 256 := fun t => xor_lt (mm_B ha t j) (one_B t j)
  have z : ∀ s, s < n → mv n y (fun t => mm n a y t j ^^^ one t j) s = 0 := by
    intro s hs
    unfold mv
    rw [xs_congr (g := fun t => M (y s t) (mm n a y t j) ^^^ M (y s t) (one t j)) (fun t _ => M_xor _ _ _), xs_xor]
    have e1 : xs n (fun t => M (y s t) (mm n a y t j)) = y s j := by
      show mm n y (mm n a y) s j = _
      rw [← mm_assoc h.bys ha h.bys, mm_congr (a' := one) (b' := y) (fun t ht => left s hs t ht) fun _ _ => rfl, mm_one_left h.bys hs]
    have e2 : xs n (fun t => M (y s t) (one t j)) = y s j := mm_one_right h.bys hj
    rw [e1, e2, Nat.xor_self]
  exact xor_zero_eq (h.inj _ hv z i hi)
/-- If x makes a column that is not nought nought, so does a. -/
theorem Elim.sing {n : Nat} {a x y : Nat → Nat → Nat} (h : Elim n a x y) (ha : B a) {v : Nat → Nat} (hv : ∀ i, v i < 256) (hz : ∀ i, i < n → mv n x v i = 0) : ∀ i, i < n → mv n a v i = 0 := by
  refine h.inj _ (fun i => mv_lt ha i) fun i hi => ?_
  rw [← mv_mm h.bys ha hv, ← hz i hi]
  exact mv_congr (fun t ht => h.rel i hi t ht) fun _ _ => rfl
/-- No pivot in column c: a makes a column that is not nought nought. -/
theorem Elim.stuck {n c : Nat} {a x y : Nat → Nat → Nat} (h : Elim n a x y) (ha : B a) (hc : c < n) (hred : ∀ i, i < n → ∀ j, j < c → x i j = one i j) (hz : ∀ i, i < n → c ≤ i → x i c = 0) : ¬ Inj n a := by
  intro hinj
  have hv : ∀ i, (if i < c then x i c else if i = c then 1 else 0) < 256 := fun i => by
    split; exact h.bx _ _; split <;> omega
  have key : ∀ i, i < n → mv n x (fun i => if i < c then x i c else if i = c then 1 else 0) i = 0 := by
    intro i hi
    -- the sum over the columns below c is x i c, where i is below c, and nought else; column c gives x i c; the others nought
    have split3 : mv n x (fun i => if i < c then x i c else if i = c then 1 else 0) i = xs n (fun t => (if t = i ∧ i < c then x i c else 0) ^^^ (if t = c then x i c else 0)) := by
      refine xs_congr fun t ht => ?_
      dsimp only
      by_cases l : t < c
      · rw [if_pos l, hred i hi t l]
        unfold one
        by_cases e : i = t
        · subst e
          rw [if_pos rfl, M_one_left (h.bx _ _), if_pos ⟨rfl, l⟩, if_neg (by omega), Nat.xor_zero]
        · rw [if_neg e, M_zero_left, if_neg (by omega), if_neg (by omega)]; rfl
      · rw [if_neg l]
        by_cases e : t = c
        · subst e
          rw [if_pos rfl, M_one_right (h.bx _ _), if_neg (by omega), if_pos rfl, Nat.zero_xor]
        · rw [if_neg e, M_zero_right, if_neg (by omega), if_neg e]; rfl
    have e2 : xs n (fun t => if t = c then x i c else 0) = x i c := by rw [xs_single (t := c) hc (fun t _ hne => by rw [if_neg hne]), if_pos rfl]
    rw [split3, xs_xor, e2]
    by_cases l : i < c
    · rw [xs_single (t := i) hi (fun t _ hne => by rw [if_neg (by omega)]), if_pos ⟨rfl, l⟩, Nat.xor_self]
    · rw [xs_zero fun t _ => by rw [if_neg (by omega)], hz i hi (by omega)]; rfl
  have := hinj _ hv (h.sing ha hv key) c hc
  rw [if_neg (by omega), if_pos rfl] at this
  omega

/-- Horner's way: v 0 is the highest. -/
def hn : Nat → (Nat → Nat) → Nat → Nat
  | 0, _, _ => 0
  | k + 1, v, z => M z (hn k v z) ^^^ v k
theorem hn_lt {n : Nat} {v : Nat → Nat} {z : Nat} (hv : ∀ i, v i < 256) (hz : z < 256) : hn n v z < 256 := by
  cases n with
  | zero => show 0 < 256; omega
  | succ n => exact xor_lt (M_lt _ hz) (hv n)
theorem hn_div (n : Nat) {v : Nat → Nat} {z r : Nat} (hv : ∀ i, v i < 256) (hz : z < 256) (hr : r < 256) :
    hn (n + 1) v z = M (z ^^^ r) (hn n (fun k => hn (k + 1) v r) z) ^^^ hn (n + 1) v r := by
  induction n with
  | zero =>
    show M z 0 ^^^ v 0 = M (z ^^^ r) 0 ^^^ (M r 0 ^^^ v 0)
    rw [M_zero_right, M_zero_right, M_zero_right, Nat.zero_xor, Nat.zero_xor]
  | succ n ih =>
    have hw := hn_lt (n := n) (v := fun k => hn (k + 1) v r) (z := z) (fun k => hn_lt hv hr) hz
    have hu := hn_lt (n := n + 1) (v := v) (z := r) hv hr
    have hx := xor_lt hz hr
    show M z (hn (n + 1) v z) ^^^ v (n + 1) = M (z ^^^ r) (M z (hn n (fun k => hn (k + 1) v r) z) ^^^ hn (n + 1) v r) ^^^ (M r (hn (n + 1) v r) ^^^ v (n + 1))
    rw [ih]
    generalize hn n (fun k => hn (k + 1) v r) z = w at *
    generalize hn (n + 1) v r = u at *
    rw [M_xor, M_xor, ← M_assoc hz hx hw, ← M_assoc hx hz hw, M_comm hz hx, M_xor_left hz hr hu]
    rw [Nat.xor_assoc, Nat.xor_assoc, Nat.xor_assoc, ← Nat.xor_assoc (M r u), Nat.xor_self, Nat.zero_xor]
/-- As many roots as there are numbers: all are nought. -/
theorem hn_roots (n : Nat) : ∀ (v r : Nat → Nat), (∀ i, v i < 256) → (∀ i, i < n → r i < 256) → (∀ i, i < n → ∀ j, j < n → r i = r j → i = j) → (∀ i, i < n → hn n v (r i) = 0) → ∀ k, k < n → v k = 0 := by
  induction n with
  | zero => intro v r _ _ _ _ k hk; omega
  | succ n ih =>
    intro v r hv hr hd hz
    have hw := ih (fun k => hn (k + 1) v (r n)) r (fun k => hn_lt hv (hr n (by omega))) (fun i hi => hr i (by omega)) (fun i hi j hj => hd i (by omega) j (by omega)) (fun i hi => by
      have e := hn_div n hv (hr i (by omega)) (hr n (by omega))
      rw [hz i (by omega), hz n (by omega), Nat.xor_zero] at e
      have hne : 0 < r i ^^^ r n := by
        rcases Nat.eq_zero_or_pos (r i ^^^ r n) with q | q
        · have := hd i (by omega) n (by omega) (xor_zero_eq q); omega
        · exact q
      have lx := xor_lt (hr i (by omega)) (hr n (by omega))
      have lw := hn_lt (n := n) (v := fun k => hn (k + 1) v (r n)) (z := r i) (fun k => hn_lt hv (hr n (by omega))) (hr i (by omega))
      rw [M_comm lx lw] at e
      exact M_ne_zero lw lx hne e.symm)
    have part : ∀ k, k ≤ n → hn k v (r n) = 0 := fun k hk => by
      cases k with
      | zero => rfl
      | succ k => exact hw k (by omega)
    intro k hk
    by_cases e : k = n
    · subst e
      have := hz k (by omega)
      have q : M (r k) (hn k v (r k)) ^^^ v k = 0 := this
      rw [part k (by omega), M_zero_right, Nat.zero_xor] at q
      exact q
    · have q : M (r n) (hn k v (r n)) ^^^ v k = 0 := part (k + 1) (by omega)
      rw [part k (by omega), M_zero_right, Nat.zero_xor] at q
      exact q
theorem xs_succ_left (n : Nat) (f : Nat → Nat) : xs (n + 1) f = f 0 ^^^ xs n (fun i => f (i + 1)) := by
  induction n with
  | zero => show 0 ^^^ f 0 = f 0 ^^^ 0; rw [Nat.zero_xor, Nat.xor_zero]
  | succ n ih => show xs (n + 1) f ^^^ f (n + 1) = f 0 ^^^ (xs n (fun i => f (i + 1)) ^^^ f (n + 1)); rw [ih, Nat.xor_assoc]
theorem xs_rev (n : Nat) : ∀ (f : Nat → Nat), xs n (fun k => f (n - 1 - k)) = xs n f := by
  induction n with
  | zero => intro f; rfl
  | succ n ih =>
    intro f
    rw [xs_succ_left]
    show f (n + 1 - 1 - 0) ^^^ xs n (fun i => f (n + 1 - 1 - (i + 1))) = xs n f ^^^ f n
    rw [Nat.xor_comm, show n + 1 - 1 - 0 = n by omega]; congr 1
    rw [← ih f]
    exact xs_congr fun i _ => by congr 1; omega
theorem hn_sum {z : Nat} (hz : z < 256) {v : Nat → Nat} (hv : ∀ i, v i < 256) (n : Nat) : hn n v z = xs n (fun k => M (P z (n - 1 - k)) (v k)) := by
  induction n with
  | zero => rfl
  | succ n ih =>
    show M z (hn n v z) ^^^ v n = xs n (fun k => M (P z (n + 1 - 1 - k)) (v k)) ^^^ M (P z (n + 1 - 1 - n)) (v n)
    rw [show n + 1 - 1 - n = 0 by omega, show P z 0 = 1 from rfl, M_one_left (hv n), ih, xs_mul_left]
    congr 1
    refine xs_congr fun k hk => ?_
    rw [show n + 1 - 1 - k = (n - 1 - k) + 1 by omega]
    show M z (M (P z (n - 1 - k)) (v k)) = M (M (P z (n - 1 - k)) z) (v k)
    rw [M_comm (P_lt _) hz, M_assoc hz (P_lt _) (hv k)]
/-- Vandermonde's rows, of numbers that are all unlike, make no column but nought nought. -/
theorem vander_inj {n : Nat} {r : Nat → Nat} (hr : ∀ i, i < n → r i < 256) (hd : ∀ i, i < n → ∀ j, j < n → r i = r j → i = j) : Inj n (fun i j => P (r i) j) := by
  intro v hv hz i hi
  have := hn_roots n (fun k => v (n - 1 - k)) r (fun _ => hv _) hr hd (fun i hi => by
    rw [hn_sum (hr i hi) (fun _ => hv _), ← hz i hi]
    exact xs_rev n (fun t => M (P (r i) t) (v t))) (n - 1 - i) (by omega)
  rwa [show n - 1 - (n - 1 - i) = i by omega] at this
/-- A product of two that make no column but nought nought makes none so. -/
theorem Inj.mul {n : Nat} {a b : Nat → Nat → Nat} (ha : B a) (hb : B b) (h : Inj n a) (k : Inj n b) : Inj n (mm n a b) := by
  intro v hv hz i hi
  refine k v hv (h _ (fun i => mv_lt hb i) fun t ht => ?_) i hi
  rw [← mv_mm ha hb hv]; exact hz t ht
theorem Inj.congr {n : Nat} {a b : Nat → Nat → Nat} (h : Inj n a) (e : ∀ i, i < n → ∀ j, j < n → a i j = b i j) : Inj n b := by
  intro v hv hz i hi
  refine h v hv (fun t ht => ?_) i hi
  rw [← hz t ht]; exact mv_congr (fun s hs => e t ht s hs) fun _ _ => rfl
theorem vander_B (r : Nat → Nat) : B (fun i j => P (r i) j) := fun _ _ => P_lt _
theorem IsInv.congr {n : Nat} {a b x y : Nat → Nat → Nat} (h : IsInv n a x) (e : ∀ i, i < n → ∀ j, j < n → a i j = b i j) (d : ∀ i, i < n → ∀ j, j < n → x i j = y i j) : IsInv n b y :=
  ⟨fun i hi j hj => by rw [← h.left i hi j hj]; exact mm_congr (fun t ht => (d i hi t ht).symm) fun t ht => (e t ht j hj).symm,
   fun i hi j hj => by rw [← h.right i hi j hj]; exact mm_congr (fun t ht => (e i hi t ht).symm) fun t ht => (d t ht j hj).symm⟩
end Go.Proofs.Ytbfhmdphhhjlnaa.Gf
