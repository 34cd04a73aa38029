/-
  Plain mathematics of names: texts as lists of bytes; which is ahead, what begins with what, what comes next; paths; buckets' names.
-/
import Derived.KernelRfl
namespace Go.Proofs.Ythkhkijdehbbmaa
namespace Nm

/-- Byte by byte: a is ahead of b. -/
def ls : List UInt8 → List UInt8 → Bool
  | _, [] => false
  | [], _ :: _ => true
  | x :: a, y :: b => if x = y then ls a b else decide (x.toNat < y.toNat)
theorem ls_nil (a : List UInt8) : ls a [] = false := by cases a <;> rfl
theorem ls_cons (x y : UInt8) (a b : List UInt8) : ls (x :: a) (y :: b) = if x = y then ls a b else decide (x.toNat < y.toNat) := rfl
theorem ls_same (a : List UInt8) : ls a a = false := by
  induction a with
  | nil => rfl
  | cons x a ih => rw [ls_cons, if_pos rfl, ih]
theorem u8_ne {x y : UInt8} (h : x ≠ y) : x.toNat ≠ y.toNat := fun e => h (UInt8.toNat_inj.1 e)
theorem ls_both (a : List UInt8) : ∀ b, ls a b = true → ls b a = false := by
  induction a with
  | nil => intro b _; exact ls_nil b
  | cons x a ih =>
    intro b h
    cases b with
    | nil => rw [ls_nil] at h; cases h
    | cons y b =>
      rw [ls_cons] at h ⊢
      by_cases e : x = y
      · rw [if_pos e] at h; rw [if_pos e.symm]; exact ih b h
      · rw [if_neg e] at h; rw [if_neg (fun q => e q.symm)]
        have := of_decide_eq_true h
        exact decide_eq_false (by omega)
theorem ls_none (a : List UInt8) : ∀ b, ls a b = false → ls b a = false → a = b := by
  induction a with
  | nil => intro b h _; cases b with | nil => rfl | cons y b => cases h
  | cons x a ih =>
    intro b h k
    cases b with
    | nil => cases k
    | cons y b =>
      rw [ls_cons] at h k
      by_cases e : x = y
      · rw [if_pos e] at h; rw [if_pos e.symm] at k; rw [e, ih b h k]
      · rw [if_neg e] at h; rw [if_neg (fun q => e q.symm)] at k
        have h1 := of_decide_eq_false h
        have h2 := of_decide_eq_false k
        exact absurd (UInt8.toNat_inj.1 (by omega)) e
theorem ls_trans (a : List UInt8) : ∀ b c, ls a b = true → ls b c = true → ls a c = true := by
  induction a with
  | nil =>
    intro b c h k
    cases c with
    | nil => rw [ls_nil] at k; cases k
    | cons z c => rfl
  | cons x a ih =>
    intro b c h k
    cases b with
    | nil => cases h
    | cons y b =>
      cases c with
      | nil => cases k
      | cons z c =>
        rw [ls_cons] at h k ⊢
        by_cases e : x = y
        · rw [if_pos e] at h
          by_cases e2 : y = z
          · rw [if_pos e2] at k; rw [if_pos (e.trans e2)]; exact ih b c h k
          · rw [if_neg e2] at k; rw [e, if_neg e2]; exact k
        · rw [if_neg e] at h
          have h1 := of_decide_eq_true h
          by_cases e2 : y = z
          · rw [← e2, if_neg e]; exact h
          · rw [if_neg e2] at k
            have h2 := of_decide_eq_true k
            rw [if_neg (fun q => by rw [q] at h1; omega)]
            exact decide_eq_true (by omega)

/-- a begins with p. -/
def pre : List UInt8 → List UInt8 → Bool
  | _, [] => true
  | [], _ :: _ => false
  | x :: a, y :: p => decide (x = y) && pre a p
theorem pre_nil (a : List UInt8) : pre a [] = true := by cases a <;> rfl
theorem pre_cons (x y : UInt8) (a p : List UInt8) : pre (x :: a) (y :: p) = (decide (x = y) && pre a p) := rfl
theorem pre_take (p : List UInt8) : ∀ a, pre a p = decide (p.length ≤ a.length ∧ a.take p.length = p) := by
  induction p with
  | nil => intro a; rw [pre_nil]; simp
  | cons y p ih =>
    intro a
    cases a with
    | nil => simp [pre]
    | cons x a => rw [pre_cons, ih]; simp; by_cases e : x = y <;> simp [e]
/-- Nothing but bytes 255. -/
def ff : List UInt8 → Bool
  | [] => true
  | x :: t => decide (x = 255) && ff t
/-- The least text above all that begin with p; empty: there is none. -/
def nx : List UInt8 → List UInt8
  | [] => []
  | x :: t => if ff t = true then (if x = 255 then [] else [x + 1]) else x :: nx t
theorem nx_cons (x : UInt8) (t : List UInt8) : nx (x :: t) = if ff t = true then (if x = 255 then [] else [x + 1]) else x :: nx t := rfl
theorem ff_cons (x : UInt8) (t : List UInt8) : ff (x :: t) = (decide (x = 255) && ff t) := rfl
theorem nx_nil (p : List UInt8) : nx p = [] ↔ ff p = true := by
  induction p with
  | nil => exact ⟨fun _ => rfl, fun _ => rfl⟩
  | cons x t ih =>
    rw [nx_cons, ff_cons]
    by_cases h : ff t = true
    · rw [if_pos h, h]
      by_cases e : x = 255
      · rw [if_pos e]; simp [e]
      · rw [if_neg e]; simp [e]
    · rw [if_neg h]
      have : ff t = false := by simpa using h
      rw [this]; simp
theorem inc_toNat {x : UInt8} (h : x ≠ 255) : (x + 1).toNat = x.toNat + 1 := by
  have := u8_ne h
  have hl := x.toNat_lt
  rw [UInt8.toNat_add]
  have h255 : (255 : UInt8).toNat = 255 := rfl
  have h1 : (1 : UInt8).toNat = 1 := rfl
  rw [h255] at this
  rw [h1]
  omega
/-- What begins with p is between p and the next one. -/
theorem nx_pre (p : List UInt8) : ∀ a, (!ls a p && (decide (nx p = []) || ls a (nx p))) = pre a p := by
  induction p with
  | nil => intro a; rw [ls_nil, pre_nil]; simp [nx]
  | cons x t ih =>
    intro a
    cases a with
    | nil => simp [ls, pre]
    | cons y b =>
      rw [pre_cons, ls_cons]
      have ihb := ih b
      by_cases e : y = x
      · subst e
        rw [if_pos rfl, decide_eq_true rfl, Bool.true_and, ← ihb]
        by_cases h : ff t = true
        · have hn : nx t = [] := (nx_nil t).2 h
          rw [hn]
          rw [nx_cons, if_pos h]
          by_cases e : y = 255
          · rw [if_pos e]; simp
          · rw [if_neg e, ls_cons, if_neg (fun q => by have := congrArg UInt8.toNat q; rw [inc_toNat e] at this; omega), decide_eq_true (show y.toNat < (y + 1).toNat by rw [inc_toNat e]; omega)]
            simp
        · have hn : nx t ≠ [] := fun q => h ((nx_nil t).1 q)
          have hx : nx (y :: t) = y :: nx t := by rw [nx_cons, if_neg h]
          rw [hx, ls_cons, if_pos rfl]
          simp [hn]
      · rw [if_neg e, decide_eq_false e, Bool.false_and]
        by_cases hl : y.toNat < x.toNat
        · rw [decide_eq_true hl]; rfl
        · rw [decide_eq_false hl]
          have hne := u8_ne e
          by_cases h : ff t = true
          · have hx : nx (x :: t) = if x = 255 then [] else [x + 1] := by rw [nx_cons, if_pos h]
            have hx5 : x ≠ 255 := fun q => by
              have hy := y.toNat_lt
              rw [q] at hl hne
              have h255 : (255 : UInt8).toNat = 255 := rfl
              omega
            rw [hx, if_neg hx5, ls_cons]
            have hi := inc_toNat hx5
            by_cases e2 : y = x + 1
            · rw [if_pos e2, ls_nil]; simp
            · rw [if_neg e2, decide_eq_false (show ¬ y.toNat < (x + 1).toNat by omega)]; simp
          · have hx : nx (x :: t) = x :: nx t := by rw [nx_cons, if_neg h]
            rw [hx, ls_cons, if_neg e, decide_eq_false hl]; simp
end Nm
end Go.Proofs.Ythkhkijdehbbmaa
