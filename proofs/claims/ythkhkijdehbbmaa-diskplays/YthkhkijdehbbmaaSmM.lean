/-
  Plain mathematics of a disk that keeps its files in a map: the map as read, in the order of the paths; where a path parts it; what a store, a removal, a look-up make of it.
-/
import Derived.Test.YthkhkijdehbbmaaDkF
import Derived.Test.YthkhkijdehbbmaaDkA
import Derived.Maps.Ext
set_option maxRecDepth 100000
namespace Go.Proofs.Ythkhkijdehbbmaa
open Dk Nm

/-- The rows' files rise. -/
def Rise (V : List Fv) : Prop := V.Pairwise fun x y => ls (tx x.path) (tx y.path) = true
/-- A file as the map's entry. -/
def vl (x : Fv) : Value := .agg #[.slice x.bv.1 x.bv.2.1 x.bv.2.2, .bool x.sure]
def kl (p : ByteArray) : Lit := .string (tx p)
def en (x : Fv) : Lit × DataW Value := (kl x.path, .held (vl x))
def DM (V : List Fv) : DataW Value := .map (V.map en)

theorem before_ls (a : List UInt8) : ∀ b, bytesBefore a b = ls a b := by
  induction a with
  | nil => intro b; cases b <;> rfl
  | cons x a ih =>
    intro b
    cases b with
    | nil => rfl
    | cons y b =>
      rw [ls_cons, ← ih]
      show (decide (x < y) || (x == y && bytesBefore a b)) = _
      by_cases h : x = y
      · subst h
        have : decide (x < x) = false := decide_eq_false (by show ¬ x.toNat < x.toNat; omega)
        rw [this, if_pos rfl]
        simp
      · have h1 : (x == y) = false := by simpa using h
        rw [h1, if_neg h]
        show (decide (x < y) || (false && _)) = _
        rw [Bool.false_and, Bool.or_false]
        rfl
theorem kl_before (a b : ByteArray) : (kl a).before (kl b) = ls (tx a) (tx b) := before_ls _ _
theorem kl_same (a b : ByteArray) : (kl a).sameKey (kl b) = decide (a = b) := by
  show (tx a == tx b) = _
  by_cases h : a = b
  · subst h; simp
  · rw [decide_eq_false h]
    exact beq_eq_false_iff_ne.2 fun e => h (tx_inj e)
theorem kl_key (a : ByteArray) : WideAt.IsKeyLit (kl a) := trivial

/-- Where a path parts the row. -/
structure Part (V : List Fv) (p : ByteArray) (A M B : List Fv) : Prop where
  v : V = A ++ M ++ B
  a : ∀ x ∈ A, ls (tx x.path) (tx p) = true
  b : ∀ x ∈ B, ls (tx p) (tx x.path) = true
  l : A.length = place p (V.map fl)
  m : (there p (V.map fl) = false ∧ M = []) ∨ (there p (V.map fl) = true ∧ ∃ f, M = [f] ∧ f.path = p)
theorem part_at {V : List Fv} (hr : Rise V) (p : ByteArray) : ∃ A M B, Part V p A M B := by
  obtain ⟨k, hk⟩ : ∃ k, place p (V.map fl) = k := ⟨_, rfl⟩
  have hl : k ≤ V.length := by have := place_le p (V.map fl); rw [hk, List.length_map] at this; exact this
  have ha : ∀ x ∈ V.take k, ls (tx x.path) (tx p) = true := by
    intro x hx
    obtain ⟨i, hi, e⟩ := List.getElem_of_mem hx
    rw [List.length_take] at hi
    have h1 := place_before p (V.map fl) i (by rw [hk]; omega)
    rw [List.getElem_map] at h1
    rw [List.getElem_take] at e
    rw [← e]; exact h1
  have hlen : (V.take k).length = k := by rw [List.length_take]; omega
  by_cases h : k < V.length
  · have h2 := place_at p (V.map fl) (by rw [hk, List.length_map]; exact h)
    simp only [hk, List.getElem_map] at h2
    have hd : V.drop k = V[k] :: V.drop (k + 1) := List.drop_eq_getElem_cons h
    have hr2 := hr
    unfold Rise at hr2
    rw [← List.take_append_drop k V, hd] at hr2
    have hb2 := (List.pairwise_cons.1 (List.pairwise_append.1 hr2).2.1).1
    have ht : there p (V.map fl) = decide (V[k].path = p) := by
      unfold there
      rw [hk, List.getElem?_map, List.getElem?_eq_getElem h]
      rfl
    by_cases e : V[k].path = p
    · refine ⟨V.take k, [V[k]], V.drop (k + 1), ?_, ha, ?_, by rw [hlen, hk], .inr ⟨by rw [ht]; exact decide_eq_true e, V[k], rfl, e⟩⟩
      · rw [List.append_assoc, List.singleton_append, ← hd, List.take_append_drop]
      · intro x hx
        have := hb2 x hx
        rw [e] at this; exact this
    · have hpk : ls (tx p) (tx V[k].path) = true := by
        cases q : ls (tx p) (tx V[k].path) with
        | true => rfl
        | false => exact absurd (tx_inj (ls_none _ _ h2 q)) e
      refine ⟨V.take k, [], V.drop k, ?_, ha, ?_, by rw [hlen, hk], .inl ⟨by rw [ht]; exact decide_eq_false e, rfl⟩⟩
      · rw [List.append_nil, List.take_append_drop]
      · intro x hx
        rw [hd] at hx
        rcases List.mem_cons.1 hx with rfl | hx
        · exact hpk
        · exact ls_trans _ _ _ hpk (hb2 x hx)
  · have hk2 : k = V.length := by omega
    refine ⟨V, [], [], by simp, ?_, fun x hx => absurd hx (List.not_mem_nil), by rw [← hk2, hk], .inl ⟨?_, rfl⟩⟩
    · rw [hk2, List.take_length] at ha; exact ha
    · unfold there
      rw [hk, List.getElem?_eq_none (by rw [List.length_map]; omega)]

section
variable {V A M B : List Fv} {p : ByteArray}
theorem Part.na (h : Part V p A M B) : ∀ x ∈ A, x.path ≠ p := fun x hx e => by
  have := h.a x hx
  rw [e, ls_same] at this; cases this
theorem Part.nb (h : Part V p A M B) : ∀ x ∈ B, x.path ≠ p := fun x hx e => by
  have := h.b x hx
  rw [e, ls_same] at this; cases this
theorem Part.mp (h : Part V p A M B) : ∀ x ∈ M, x.path = p := fun x hx => by
  rcases h.m with ⟨_, e⟩ | ⟨_, f, e, hf⟩
  · subst e; cases hx
  · subst e; rw [List.mem_singleton] at hx; subst hx; exact hf
theorem filter_same (A : List Fv) (h : ∀ x ∈ A, x.path ≠ p) : (A.map en).filter (fun e => !e.1.sameKey (kl p)) = A.map en := by
  refine List.filter_eq_self.2 fun e he => ?_
  obtain ⟨x, hx, rfl⟩ := List.mem_map.1 he
  show (!(kl x.path).sameKey (kl p)) = true
  rw [kl_same, decide_eq_false (h x hx)]; rfl
theorem filter_none (M : List Fv) (h : ∀ x ∈ M, x.path = p) : (M.map en).filter (fun e => !e.1.sameKey (kl p)) = [] := by
  refine List.filter_eq_nil_iff.2 fun e he => ?_
  obtain ⟨x, hx, rfl⟩ := List.mem_map.1 he
  show ¬ (!(kl x.path).sameKey (kl p)) = true
  rw [kl_same, decide_eq_true (h x hx)]; decide
theorem Part.strike (h : Part V p A M B) : (V.map en).filter (fun e => !e.1.sameKey (kl p)) = (A ++ B).map en := by
  rw [h.v, List.map_append, List.map_append, List.filter_append, List.filter_append, filter_same A h.na, filter_none M h.mp, filter_same B h.nb, List.append_nil, List.map_append]
theorem insert_parts {f : Fv} (ha : ∀ x ∈ A, ls (tx x.path) (tx f.path) = true) (hb : ∀ x ∈ B, ls (tx f.path) (tx x.path) = true) : DataW.insert (en f) ((A ++ B).map en) = (A ++ f :: B).map en := by
  induction A with
  | nil =>
    cases B with
    | nil => rfl
    | cons y B =>
      show (if (kl f.path).before (kl y.path) then _ else _) = _
      rw [kl_before, hb y (List.mem_cons_self ..)]
      rfl
  | cons x A ih =>
    show (if (kl f.path).before (kl x.path) then _ else _) = _
    rw [kl_before, ls_both _ _ (ha x (List.mem_cons_self ..))]
    show en x :: DataW.insert (en f) ((A ++ B).map en) = _
    rw [ih fun y hy => ha y (List.mem_cons_of_mem _ hy)]
    rfl
/-- A store. -/
theorem Part.put (h : Part V p A M B) {f : Fv} (hf : f.path = p) : (DM V).put (kl p) (.held (vl f)) = DM (A ++ f :: B) := by
  show DataW.map (DataW.insert (kl p, .held (vl f)) ((V.map en).filter fun e => !e.1.sameKey (kl p))) = _
  rw [h.strike]
  have : ((kl p, DataW.held (vl f)) : Lit × DataW Value) = en f := by unfold en; rw [hf]
  rw [this, insert_parts (by rw [hf]; exact h.a) (by rw [hf]; exact h.b)]
  rfl
theorem Part.del (h : Part V p A M B) : (DM V).del (kl p) = DM (A ++ B) := by
  show DataW.map ((V.map en).filter fun e => !e.1.sameKey (kl p)) = _
  rw [h.strike]
  rfl
theorem find_none (A : List Fv) (h : ∀ x ∈ A, x.path ≠ p) : (A.map en).find? (fun e => e.1.sameKey (kl p)) = none := by
  refine List.find?_eq_none.2 fun e he => ?_
  obtain ⟨x, hx, rfl⟩ := List.mem_map.1 he
  show ¬ (kl x.path).sameKey (kl p) = true
  rw [kl_same, decide_eq_false (h x hx)]; decide
theorem Part.atKey (h : Part V p A M B) (z : DataW Value) : (DM V).atKey (kl p) z = (M.head?.map fun f => DataW.held (vl f)).getD z := by
  have hfd : (V.map en).find? (fun e => e.1.sameKey (kl p)) = M.head?.map en := by
    rw [h.v, List.map_append, List.map_append, List.find?_append, List.find?_append, find_none A h.na, find_none B h.nb]
    rcases h.m with ⟨_, e⟩ | ⟨_, f, e, hf⟩
    · subst e; rfl
    · subst e
      have : ([f].map en).find? (fun e => e.1.sameKey (kl p)) = some (en f) := by
        rw [List.map_singleton, List.find?_singleton]
        show (if (kl f.path).sameKey (kl p) = true then _ else _) = _
        rw [kl_same, if_pos (decide_eq_true hf)]
      rw [this]
      rfl
  unfold DM DataW.atKey
  dsimp only
  rw [hfd]
  cases M <;> rfl
theorem Part.has (h : Part V p A M B) : Maps.has (DM V) (kl p) = there p (V.map fl) := by
  show (V.map en).any (fun e => e.1.sameKey (kl p)) = _
  have any_no : ∀ A : List Fv, (∀ x ∈ A, x.path ≠ p) → (A.map en).any (fun e => e.1.sameKey (kl p)) = false := fun A h => by
    rw [List.any_eq_false]
    intro e he
    obtain ⟨x, hx, rfl⟩ := List.mem_map.1 he
    show ¬ (kl x.path).sameKey (kl p) = true
    rw [kl_same, decide_eq_false (h x hx)]; decide
  rw [h.v, List.map_append, List.map_append, List.any_append, List.any_append, any_no A h.na, any_no B h.nb, ← h.v]
  rcases h.m with ⟨t, e⟩ | ⟨t, f, e, hf⟩
  · subst e; rw [t]; rfl
  · subst e; rw [t]
    show (false || (((kl f.path).sameKey (kl p) || false)) || false) = true
    rw [kl_same, decide_eq_true hf]; rfl
theorem dm_size (V : List Fv) : Maps.size (DM V) = V.length := by show (V.map en).length = _; rw [List.length_map]
/-- In the document's words. -/
theorem Part.cut (h : Part V p A M B) (t : there p (V.map fl) = true) : Dk.cut (V.map fl) (place p (V.map fl)) = (A ++ B).map fl := by
  rcases h.m with ⟨t', _⟩ | ⟨_, f, e, hf⟩
  · rw [t] at t'; cases t'
  · subst e
    rw [← h.l, h.v]
    unfold Dk.cut
    rw [← List.map_take, ← List.map_drop, ← List.map_append]
    congr 1
    rw [List.append_assoc, List.take_left, List.singleton_append]
    congr 1
    rw [show A.length + 1 = A.length + 1 from rfl, List.drop_append]
    simp
theorem Part.putD (h : Part V p A M B) {f : Fv} (hf : f.path = p) : Dk.put (V.map fl) (fl f) = (A ++ f :: B).map fl := by
  unfold Dk.put
  have e0 : (fl f).path = p := hf
  rw [e0, ← h.l]
  rcases h.m with ⟨t, e⟩ | ⟨t, g, e, hg⟩
  · subst e
    rw [t, if_neg (by decide), h.v, List.append_nil, ← List.map_take, ← List.map_drop, List.take_left, List.drop_left, List.map_append]
    rfl
  · subst e
    rw [t, if_pos rfl, h.v]
    simp
theorem Part.used (h : Part V p A M B) : used (V.map fl) = used ((A ++ B).map fl) + used (M.map fl) := by
  rw [h.v, used_map, used_map, used_map]
  simp only [List.map_append, List.sum_append]
  omega
theorem used_mid (f : Fv) : used ((A ++ f :: B).map fl) = used ((A ++ B).map fl) + f.b.size := by
  rw [used_map, used_map]
  simp only [List.map_append, List.sum_append, List.map_cons, List.sum_cons]
  omega
theorem Part.riseP (h : Part V p A M B) (hr : Rise V) {f : Fv} (hf : f.path = p) : Rise (A ++ f :: B) := by
  unfold Rise at *
  rw [h.v] at hr
  obtain ⟨h1, h2, h3⟩ := List.pairwise_append.1 hr
  obtain ⟨h4, h5, h6⟩ := List.pairwise_append.1 h1
  refine List.pairwise_append.2 ⟨h4, List.pairwise_cons.2 ⟨fun y hy => by rw [hf]; exact h.b y hy, h2⟩, fun x hx y hy => ?_⟩
  rcases List.mem_cons.1 hy with rfl | hy
  · rw [hf]; exact h.a x hx
  · exact h3 x (List.mem_append_left _ hx) y hy
theorem Part.riseD (h : Part V p A M B) (hr : Rise V) : Rise (A ++ B) := by
  unfold Rise at *
  rw [h.v] at hr
  refine hr.sublist ?_
  rw [List.append_assoc]
  exact List.Sublist.append (List.Sublist.refl _) (List.sublist_append_right _ _)
end
end Go.Proofs.Ythkhkijdehbbmaa
