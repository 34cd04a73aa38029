/-
  Plain mathematics of a map that tells something of each file, by its path.
-/
import Derived.Test.YthkhkijdehbbmaaSmZ
set_option maxRecDepth 100000
namespace Go.Proofs.Ythkhkijdehbbmaa
open Go.RowKit
open _root_.Go.Proofs.Ythkhkijdehbbmaa.Nm _root_.Go.Proofs.Ythkhkijdehbbmaa.Dk
attribute [local go_sem ↓] Go.wp_at_zero Go.wp_at_succ
set_option linter.unusedVariables false

def enG (g : Fv → DataW Value) (x : Fv) : Lit × DataW Value := (kl x.path, g x)
def DG (g : Fv → DataW Value) (V : List Fv) : DataW Value := .map (V.map (enG g))
section
variable {V A M B : List Fv} {p : ByteArray}
theorem filter_sameG (g : Fv → DataW Value) (A : List Fv) (h : ∀ x ∈ A, x.path ≠ p) : (A.map (enG g)).filter (fun e => !e.1.sameKey (kl p)) = A.map (enG g) := by
  refine List.filter_eq_self.2 fun e he => ?_
  obtain ⟨x, hx, rfl⟩ := List.mem_map.1 he
  show (!(kl x.path).sameKey (kl p)) = true
  rw [kl_same, decide_eq_false (h x hx)]; rfl
theorem filter_noneG (g : Fv → DataW Value) (M : List Fv) (h : ∀ x ∈ M, x.path = p) : (M.map (enG g)).filter (fun e => !e.1.sameKey (kl p)) = [] := by
  refine List.filter_eq_nil_iff.2 fun e he => ?_
  obtain ⟨x, hx, rfl⟩ := List.mem_map.1 he
  show ¬ (!(kl x.path).sameKey (kl p)) = true
  rw [kl_same, decide_eq_true (h x hx)]; decide
theorem Part.strikeG (g : Fv → DataW Value) (h : Part V p A M B) : (V.map (enG g)).filter (fun e => !e.1.sameKey (kl p)) = (A ++ B).map (enG g) := by
  rw [h.v, List.map_append, List.map_append, List.filter_append, List.filter_append, filter_sameG g A h.na, filter_noneG g M h.mp, filter_sameG g B h.nb, List.append_nil, List.map_append]
theorem insert_partsG (g : Fv → DataW Value) {f : Fv} (ha : ∀ x ∈ A, ls (tx x.path) (tx f.path) = true) (hb : ∀ x ∈ B, ls (tx f.path) (tx x.path) = true) : DataW.insert (enG g f) ((A ++ B).map (enG g)) = (A ++ f :: B).map (enG g) := by
  induction A with
  | nil =>
    cases B with
    | nil => rfl
    | cons y B =>
      show (if (kl f.path).before (kl y.path) then _ else _) = _
      rw [kl_before, hb y (List.mem_cons_self ..)]
      rfl
  | cons x A ih =>
    show (if (kl f.path).before (kl x.path) then _ else _) = _
    rw [kl_before, ls_both _ _ (ha x (List.mem_cons_self ..))]
    show enG g x :: DataW.insert (enG g f) ((A ++ B).map (enG g)) = _
    rw [ih fun y hy => ha y (List.mem_cons_of_mem _ hy)]
    rfl
/-- A store. -/
theorem Part.putG (g : Fv → DataW Value) (h : Part V p A M B) {f : Fv} (hf : f.path = p) : (DG g V).put (kl p) (g f) = DG g (A ++ f :: B) := by
  show DataW.map (DataW.insert (kl p, g f) ((V.map (enG g)).filter fun e => !e.1.sameKey (kl p))) = _
  rw [h.strikeG g]
  have : ((kl p, g f) : Lit × DataW Value) = enG g f := by unfold enG; rw [hf]
  rw [this, insert_partsG g (by rw [hf]; exact h.a) (by rw [hf]; exact h.b)]
  rfl
theorem Part.delG (g : Fv → DataW Value) (h : Part V p A M B) : (DG g V).del (kl p) = DG g (A ++ B) := by
  show DataW.map ((V.map (enG g)).filter fun e => !e.1.sameKey (kl p)) = _
  rw [h.strikeG g]
  rfl
theorem find_noneG (g : Fv → DataW Value) (A : List Fv) (h : ∀ x ∈ A, x.path ≠ p) : (A.map (enG g)).find? (fun e => e.1.sameKey (kl p)) = none := by
  refine List.find?_eq_none.2 fun e he => ?_
  obtain ⟨x, hx, rfl⟩ := List.mem_map.1 he
  show ¬ (kl x.path).sameKey (kl p) = true
  rw [kl_same, decide_eq_false (h x hx)]; decide
theorem Part.atKeyG (g : Fv → DataW Value) (h : Part V p A M B) (z : DataW Value) : (DG g V).atKey (kl p) z = (M.head?.map fun f => g f).getD z := by
  have hfd : (V.map (enG g)).find? (fun e => e.1.sameKey (kl p)) = M.head?.map (enG g) := by
    rw [h.v, List.map_append, List.map_append, List.find?_append, List.find?_append, find_noneG g A h.na, find_noneG g B h.nb]
    rcases h.m with ⟨_, e⟩ | ⟨_, f, e, hf⟩
    · subst e; rfl
    · subst e
      have : ([f].map (enG g)).find? (fun e => e.1.sameKey (kl p)) = some (enG g f) := by
        rw [List.map_singleton, List.find?_singleton]
        show (if (kl f.path).sameKey (kl p) = true then _ else _) = _
        rw [kl_same, if_pos (decide_eq_true hf)]
      rw [this]
      rfl
  unfold DG DataW.atKey
  dsimp only
  rw [hfd]
  cases M <;> rfl
theorem Part.hasG (g : Fv → DataW Value) (h : Part V p A M B) : Maps.has (DG g V) (kl p) = there p (V.map fl) := by
  show (V.map (enG g)).any (fun e => e.1.sameKey (kl p)) = _
  have any_no : ∀ A : List Fv, (∀ x ∈ A, x.path ≠ p) → (A.map (enG g)).any (fun e => e.1.sameKey (kl p)) = false := fun A h => by
    rw [List.any_eq_false]
    intro e he
    obtain ⟨x, hx, rfl⟩ := List.mem_map.1 he
    show ¬ (kl x.path).sameKey (kl p) = true
    rw [kl_same, decide_eq_false (h x hx)]; decide
  rw [h.v, List.map_append, List.map_append, List.any_append, List.any_append, any_no A h.na, any_no B h.nb, ← h.v]
  rcases h.m with ⟨t, e⟩ | ⟨t, f, e, hf⟩
  · subst e; rw [t]; rfl
  · subst e; rw [t]
    show (false || (((kl f.path).sameKey (kl p) || false)) || false) = true
    rw [kl_same, decide_eq_true hf]; rfl
theorem dg_size (g : Fv → DataW Value) (V : List Fv) : Maps.size (DG g V) = V.length := by show (V.map (enG g)).length = _; rw [List.length_map]
end
end Go.Proofs.Ythkhkijdehbbmaa
