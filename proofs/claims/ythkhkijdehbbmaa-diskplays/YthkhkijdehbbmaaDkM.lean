/-
  Plain mathematics of a disk: files in the order of their paths, a fuse, what each operation answers and leaves.
-/
import Derived.Test.YthkhkijdehbbmaaNmR
set_option maxRecDepth 100000
namespace Go.Proofs.Ythkhkijdehbbmaa
namespace Dk
open Nm

/-- A file. -/
structure Fl where
  path : ByteArray
  b : ByteArray
  sure : Bool
/-- A fuse. -/
structure Fz where
  n : Int
  done : Int
  blown : Bool
/-- A disk. -/
structure St where
  fs : List Fl
  most : Int
  off : Bool
  bad : Int

/-- Where a path is, or would be. -/
def place (p : ByteArray) : List Fl → Nat
  | [] => 0
  | f :: r => if ls (tx f.path) (tx p) = true then place p r + 1 else 0
theorem place_le (p : ByteArray) (l : List Fl) : place p l ≤ l.length := by
  induction l with
  | nil => exact Nat.le_refl _
  | cons f r ih => unfold place; split <;> simp <;> omega
theorem place_before (p : ByteArray) (l : List Fl) : ∀ i, (h : i < place p l) → ls (tx (l[i]'(Nat.lt_of_lt_of_le h (place_le p l))).path) (tx p) = true := by
  induction l with
  | nil => intro i h; exact absurd h (Nat.not_lt_zero _)
  | cons f r ih =>
    intro i h
    unfold place at h
    split at h
    · next hf =>
      cases i with
      | zero => exact hf
      | succ i => exact ih i (by omega)
    · omega
theorem place_at (p : ByteArray) (l : List Fl) (h : place p l < l.length) : ls (tx (l[place p l]'h).path) (tx p) = false := by
  induction l with
  | nil => exact absurd h (Nat.not_lt_zero _)
  | cons f r ih =>
    by_cases hf : ls (tx f.path) (tx p) = true
    · have e : place p (f :: r) = place p r + 1 := by show (if _ then _ else _) = _; rw [if_pos hf]
      have h' : place p r < r.length := by rw [e] at h; simpa using h
      have := ih h'
      simp only [e, List.getElem_cons_succ]
      exact this
    · have e : place p (f :: r) = 0 := by show (if _ then _ else _) = _; rw [if_neg hf]
      simp only [e, List.getElem_cons_zero]
      simpa using hf
/-- The first that is not ahead is where it would be. -/
theorem place_first (p : ByteArray) (l : List Fl) (i : Nat) (h : i < l.length) (hb : ∀ j, (hj : j < i) → ls (tx (l[j]'(by omega)).path) (tx p) = true) (hi : ls (tx (l[i]'h).path) (tx p) = false) : place p l = i := by
  have h1 : ¬ place p l < i := fun q => by
    have := place_at p l (by omega)
    rw [hb _ q] at this; cases this
  have h2 : ¬ i < place p l := fun q => by
    have := place_before p l i q
    rw [hi] at this; cases this
  omega
theorem place_end (p : ByteArray) (l : List Fl) (hb : ∀ j, (hj : j < l.length) → ls (tx (l[j]'hj).path) (tx p) = true) : place p l = l.length := by
  have h1 : ¬ place p l < l.length := fun q => by
    have := place_at p l q
    rw [hb _ q] at this; cases this
  have := place_le p l
  omega
/-- Is it there? -/
def there (p : ByteArray) (l : List Fl) : Bool := match l[place p l]? with
  | some f => decide (f.path = p)
  | none => false
theorem there_lt {p : ByteArray} {l : List Fl} (h : there p l = true) : place p l < l.length := by
  unfold there at h
  by_cases q : place p l < l.length
  · exact q
  · rw [List.getElem?_eq_none (by omega)] at h; cases h
/-- The bytes of all files. -/
def used (l : List Fl) : Nat := (l.map fun f => f.b.size).sum

/-- What is asked ahead of an operation: the error, the fuse and the disk behind it. -/
def okPath (p : ByteArray) : Bool := decide (1 ≤ p.size ∧ p.size ≤ 600)
def askD (s : St) (ps : List ByteArray) : Int × St :=
  if s.off = true then (10, s) else if 0 < s.bad then (9, { s with bad := s.bad - 1 }) else if ps.all okPath = true then (0, s) else (1, s)
def tick (z : Fz) : Fz := { z with done := z.done + 1, blown := decide (0 < z.n ∧ z.n ≤ z.done + 1) }
def askZ (z : Option Fz) (s : St) (ps : List ByteArray) : Int × Option Fz × St := match z with
  | none => ((askD s ps).1, none, (askD s ps).2)
  | some z => if z.blown = true then (20, some z, s) else ((askD s ps).1, some (tick z), (askD s ps).2)

/-- A file is taken away, put. -/
def cut (l : List Fl) (i : Nat) : List Fl := l.take i ++ l.drop (i + 1)
def put (l : List Fl) (f : Fl) : List Fl := if there f.path l = true then l.set (place f.path l) f else l.take (place f.path l) ++ f :: l.drop (place f.path l)
/-- What a disk keeps of itself. -/
structure Wf (s : St) : Prop where
  n : s.fs.length ≤ 4096
  b : ∀ f ∈ s.fs, f.b.size ≤ 262144
  p : ∀ f ∈ s.fs, f.path.size ≤ 600
  m0 : 0 ≤ s.most
  m1 : s.most ≤ 4194304
  b0 : 0 ≤ s.bad
  b1 : s.bad ≤ 9223372036854775807
theorem used_le {l : List Fl} (h : ∀ f ∈ l, f.b.size ≤ 262144) : used l ≤ 262144 * l.length := by
  unfold used
  induction l with
  | nil => simp
  | cons f r ih =>
    have h1 := h f (List.mem_cons_self ..)
    have h2 := ih fun g hg => h g (List.mem_cons_of_mem _ hg)
    simp only [List.map_cons, List.sum_cons, List.length_cons]
    omega
end Dk
end Go.Proofs.Ythkhkijdehbbmaa
