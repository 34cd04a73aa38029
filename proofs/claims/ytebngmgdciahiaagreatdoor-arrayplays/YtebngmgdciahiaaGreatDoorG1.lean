/-
  Texts of earlier stages, one behind the other: DkM, DkF, DkU, DkA, DkB, DkC, DkD, DkE.
-/
import Derived.Test.YtebngmgdciahiaaGreatDoorG1a
import Derived.Test.YtebngmgdciahiaaGreatDoorByt
import Derived.Deep.RegionLaw
import Derived.Deep.RegionHeld3
import Derived.BigGuardPart
import Derived.BigQuiet
import Derived.Deep.DeepCutAuto
import Derived.Deep.Cut
import Derived.StillTailTactics
import Derived.BigRegion
set_option maxRecDepth 100000
namespace Go.Proofs.YtebngmgdciahiaaGreatDoor
namespace Dk
open Nm

/-- A file. -/
structure Fl where
  path : ByteArray
  b : ByteArray
  sure : Bool
/-- A fuse. -/
structure Fz where
  n : Int
  done : Int
  blown : Bool
/-- A disk. -/
structure St where
  fs : List Fl
  most : Int
  off : Bool
  bad : Int

/-- Where a path is, or would be. -/
def place (p : ByteArray) : List Fl → Nat
  | [] => 0
  | f :: r => if ls (tx f.path) (tx p) = true then place p r + 1 else 0
theorem place_le (p : ByteArray) (l : List Fl) : place p l ≤ l.length := by
  induction l with
  | nil => exact Nat.le_refl _
  | cons f r ih => unfold place; split <;> simp <;> omega
theorem place_before (p : ByteArray) (l : List Fl) : ∀ i, (h : i < place p l) → ls (tx (l[i]'(Nat.lt_of_lt_of_le h (place_le p l))).path) (tx p) = true := by
  induction l with
  | nil => intro i h; exact absurd h (Nat.not_lt_zero _)
  | cons f r ih =>
    intro i h
    unfold place at h
    split at h
    · next hf =>
      cases i with
      | zero => exact hf
      | succ i => exact ih i (by omega)
    · omega
theorem place_at (p : ByteArray) (l : List Fl) (h : place p l < l.length) : ls (tx (l[place p l]'h).path) (tx p) = false := by
  induction l with
  | nil => exact absurd h (Nat.not_lt_zero _)
  | cons f r ih =>
    by_cases hf : ls (tx f.path) (tx p) = true
    · have e : place p (f :: r) = place p r + 1 := by show (if _ then _ else _) = _; rw [if_pos hf]
      have h' : place p r < r.length := by rw [e] at h; simpa using h
      have := ih h'
      simp only [e, List.getElem_cons_succ]
      exact this
    · have e : place p (f :: r) = 0 := by show (if _ then _ else _) = _; rw [if_neg hf]
      simp only [e, List.getElem_cons_zero]
      simpa using hf
/-- The first that is not ahead is where it would be. -/
theorem place_first (p : ByteArray) (l : List Fl) (i : Nat) (h : i < l.length) (hb : ∀ j, (hj : j < i) → ls (tx (l[j]'(by omega)).path) (tx p) = true) (hi : ls (tx (l[i]'h).path) (tx p) = false) : place p l = i := by
  have h1 : ¬ place p l < i := fun q => by
    have := place_at p l (by omega)
    rw [hb _ q] at this; cases this
  have h2 : ¬ i < place p l := fun q => by
    have := place_before p l i q
    rw [hi] at this; cases this
  omega
theorem place_end (p : ByteArray) (l : List Fl) (hb : ∀ j, (hj : j < l.length) → ls (tx (l[j]'hj).path) (tx p) = true) : place p l = l.length := by
  have h1 : ¬ place p l < l.length := fun q => by
    have := place_at p l q
    rw [hb _ q] at this; cases this
  have := place_le p l
  omega
/-- Is it there? -/
def there (p : ByteArray) (l : List Fl) : Bool := match l[place p l]? with
  | some f => decide (f.path = p)
  | none => false
theorem there_lt {p : ByteArray} {l : List Fl} (h : there p l = true) : place p l < l.length := by
  unfold there at h
  by_cases q : place p l < l.length
  · exact q
  · rw [List.getElem?_eq_none (by omega)] at h; cases h
/-- The bytes of all files. -/
def used (l : List Fl) : Nat := (l.map fun f => f.b.size).sum

/-- What is asked ahead of an operation: the error, the fuse and the disk behind it. -/
def okPath (p : ByteArray) : Bool := decide (1 ≤ p.size ∧ p.size ≤ 600)
def askD (s : St) (ps : List ByteArray) : Int × St :=
  if s.off = true then (10, s) else if 0 < s.bad then (9, { s with bad := s.bad - 1 }) else if ps.all okPath = true then (0, s) else (1, s)
def tick (z : Fz) : Fz := { z with done := z.done + 1, blown := decide (0 < z.n ∧ z.n ≤ z.done + 1) }
def askZ (z : Option Fz) (s : St) (ps : List ByteArray) : Int × Option Fz × St := match z with
  | none => ((askD s ps).1, none, (askD s ps).2)
  | some z => if z.blown = true then (20, some z, s) else ((askD s ps).1, some (tick z), (askD s ps).2)

/-- A file is taken away, put. -/
def cut (l : List Fl) (i : Nat) : List Fl := l.take i ++ l.drop (i + 1)
def put (l : List Fl) (f : Fl) : List Fl := if there f.path l = true then l.set (place f.path l) f else l.take (place f.path l) ++ f :: l.drop (place f.path l)
/-- What a disk keeps of itself. -/
structure Wf (s : St) : Prop where
  n : s.fs.length ≤ 4096
  b : ∀ f ∈ s.fs, f.b.size ≤ 262144
  p : ∀ f ∈ s.fs, f.path.size ≤ 600
  m0 : 0 ≤ s.most
  m1 : s.most ≤ 4194304
  b0 : 0 ≤ s.bad
  b1 : s.bad ≤ 9223372036854775807
theorem used_le {l : List Fl} (h : ∀ f ∈ l, f.b.size ≤ 262144) : used l ≤ 262144 * l.length := by
  unfold used
  induction l with
  | nil => simp
  | cons f r ih =>
    have h1 := h f (List.mem_cons_self ..)
    have h2 := ih fun g hg => h g (List.mem_cons_of_mem _ hg)
    simp only [List.map_cons, List.sum_cons, List.length_cons]
    omega
end Dk
end Go.Proofs.YtebngmgdciahiaaGreatDoor

namespace Go.Proofs.YtebngmgdciahiaaGreatDoor
open Go.RowKit
attribute [local go_sem ↓] Go.wp_at_zero Go.wp_at_succ
set_option linter.unusedVariables false

/-- A file in memory; b: what its row of bytes holds. -/
structure Fv where
  path : ByteArray
  bv : Option Addr × Nat × Nat
  sure : Bool
  b : ByteArray
  deriving Inhabited
def cellsF (e : Fv) : List Value := [.string e.path, .slice e.bv.1 e.bv.2.1 e.bv.2.2, .bool e.sure]
/-- It as a value. -/
def fv (e : Fv) : Value := .agg #[.string e.path, .slice e.bv.1 e.bv.2.1 e.bv.2.2, .bool e.sure]
theorem cellsF_length (e : Fv) : (cellsF e).length = 3 := rfl
theorem cellsF_one (e : Fv) : ∀ u ∈ cellsF e, u.oneCell' = true := by
  intro u h
  unfold cellsF at h
  simp at h
  rcases h with rfl | rfl | rfl <;> rfl
/-- Its cells. -/
structure FAt (w : World) (b o : Nat) (e : Fv) : Prop where
  c0 : w.cell? ⟨b, o, none⟩ = some (.string e.path)
  c1 : w.cell? ⟨b, o + 1, none⟩ = some (.slice e.bv.1 e.bv.2.1 e.bv.2.2)
  c2 : w.cell? ⟨b, o + 2, none⟩ = some (.bool e.sure)
theorem FAt.keep {w w' : World} {b o : Nat} {e : Fv} (h : FAt w b o e) (hb : Below w.heap.size w w') : FAt w' b o e :=
  ⟨(hb.cell (p := ⟨b, o, none⟩) (block_lt_of_cell h.c0)).trans h.c0, (hb.cell (p := ⟨b, o + 1, none⟩) (block_lt_of_cell h.c1)).trans h.c1, (hb.cell (p := ⟨b, o + 2, none⟩) (block_lt_of_cell h.c2)).trans h.c2⟩
/-- A slice that begins at a holds in w the row L. -/
def Fs (w : World) (a : Option Addr) (L : List Fv) : Prop := 0 < L.length → ∃ b o, a = some ⟨b, o, none⟩ ∧ ∀ i, i < L.length → FAt w b (o + i * 3) L[i]!
theorem Fs.keep {w w' : World} {a : Option Addr} {L : List Fv} (h : Fs w a L) (hb : Below w.heap.size w w') : Fs w' a L := fun hn => by
  obtain ⟨b, o, e, hc⟩ := h hn
  exact ⟨b, o, e, fun i hi => (hc i hi).keep hb⟩
theorem Fs.nil (w : World) (a : Option Addr) : Fs w a [] := fun h => absurd h (Nat.lt_irrefl _)
/-- The cells of the row. -/
def fcs (L : List Fv) : List Value := L.flatMap cellsF
theorem fcs_length (L : List Fv) : (fcs L).length = L.length * 3 := by
  induction L with
  | nil => rfl
  | cons e L ih => unfold fcs at *; rw [List.flatMap_cons, List.length_append, ih, cellsF_length, List.length_cons]; omega
theorem fcs_append (L M : List Fv) : fcs (L ++ M) = fcs L ++ fcs M := List.flatMap_append
theorem fcs_at (L : List Fv) (i : Nat) (hi : i < L.length) (r : Nat) (hr : r < 3) : (fcs L)[i * 3 + r]? = (cellsF L[i]!)[r]? := by
  induction L generalizing i with
  | nil => simp at hi
  | cons e L ih =>
    show (cellsF e ++ fcs L)[i * 3 + r]? = _
    cases i with
    | zero => rw [List.getElem?_append_left (by rw [cellsF_length]; omega)]; simp
    | succ i =>
      rw [List.getElem?_append_right (by rw [cellsF_length]; omega), cellsF_length, show (i + 1) * 3 + r - 3 = i * 3 + r by omega, ih i (by simpa using hi)]
      simp
theorem fcs_one {L : List Fv} : ∀ u ∈ fcs L, u.oneCell' = true := by
  intro u hu
  obtain ⟨e, _, h⟩ := List.mem_flatMap.1 hu
  exact cellsF_one e u h
theorem fcs_ext {X : List Value} {L : List Fv} (hl : X.length = L.length * 3) (h : ∀ i, i < L.length → ∀ r, r < 3 → X[i * 3 + r]? = (cellsF L[i]!)[r]?) : X = fcs L := by
  apply List.ext_getElem?
  intro j
  by_cases hj : j < L.length * 3
  · have e : j = j / 3 * 3 + j % 3 := by omega
    rw [e, h (j / 3) (by omega) (j % 3) (by omega), fcs_at L (j / 3) (by omega) (j % 3) (by omega)]
  · rw [List.getElem?_eq_none (by omega), List.getElem?_eq_none (by rw [fcs_length]; omega)]
theorem FAt.cells {w : World} {b o : Nat} {L : List Fv} (h : ∀ i, i < L.length → FAt w b (o + i * 3) L[i]!) (j : Nat) (u : Value) (hu : (fcs L)[j]? = some u) : w.cell? ⟨b, o + j, none⟩ = some u := by
  have hj : j < L.length * 3 := by rw [← fcs_length L]; exact (List.getElem?_eq_some_iff.1 hu).1
  obtain ⟨i, r, e, hi, hr⟩ : ∃ i r, j = i * 3 + r ∧ i < L.length ∧ r < 3 := ⟨j / 3, j % 3, by omega, by omega, by omega⟩
  subst e
  rw [fcs_at L i hi r hr] at hu
  obtain ⟨c0, c1, c2⟩ := h i hi
  rw [show o + (i * 3 + r) = o + i * 3 + r by omega, ← hu]
  match r, hr with
  | 0, _ => exact c0
  | 1, _ => exact c1
  | 2, _ => exact c2
theorem infoF : (Tryz.prog.info? 130).map (fun i => (i.zero, i.size, i.bytes)) = some (some (.agg #[.string ⟨#[]⟩, .slice none 0 0, .bool false]), 3, 48) := by kernel_rfl
/-- A row of one's own. -/
def FOwn (w : World) (base : Nat) (v : Value) (L : List Fv) : Prop := w.ownsRow base 130 3 v L.length (fcs L)
theorem FOwn.start (w : World) (base : Nat) : FOwn w base (.slice none 0 0) [] := ⟨rfl, .inl ⟨rfl, rfl⟩⟩
theorem FOwn.keep {w w' : World} {base : Nat} {v : Value} {L : List Fv} (h : FOwn w base v L) (hb : Below w.heap.size w w') : FOwn w' base v L := by
  rcases h with ⟨hl, e | ⟨g, cap, cur, e, hg, hh, hr⟩⟩
  · exact ⟨hl, .inl e⟩
  · refine ⟨hl, .inr ⟨g, cap, cur, e, hg, ?_, hr⟩⟩
    have hlt : g < w.heap.size := (Array.getElem?_eq_some_iff.1 hh).1
    rw [hb.block g hlt]; exact hh
theorem FOwn.mono {w : World} {b b' : Nat} {v : Value} {L : List Fv} (h : FOwn w b v L) (hb : b' ≤ b) : FOwn w b' v L := by
  rcases h with ⟨hl, e | ⟨g, cap, cur, e, hg, hh, hr⟩⟩
  · exact ⟨hl, .inl e⟩
  · exact ⟨hl, .inr ⟨g, cap, cur, e, by omega, hh, hr⟩⟩
theorem fat_of_row {w : World} {g n : Nat} {cur : Array Value} {L : List Fv} (hh : w.heap[g]? = some (.cells cur 130 (0, 0))) (e : cur.toList.take (n * 3) = fcs L) (hn : L.length ≤ n) {i : Nat} (hi : i < L.length) : FAt w g (i * 3) L[i]! := by
  have hc : ∀ r, r < 3 → w.cell? ⟨g, i * 3 + r, none⟩ = (cellsF L[i]!)[r]? := fun r hr => by
    rw [cell_of_row w g _ cur _ _ hh, ← fcs_at L i hi r hr, ← e, List.getElem?_take, if_pos (by omega), Array.getElem?_toList]
  exact ⟨hc 0 (by omega), hc 1 (by omega), hc 2 (by omega)⟩
/-- What a row of one's own is as a slice. -/
theorem FOwn.row {w : World} {base : Nat} {v : Value} {L : List Fv} (h : FOwn w base v L) :
    ∃ a c, v = .slice a L.length c ∧ Fs w a L ∧ (a = none → L.length = 0 ∧ c = 0) ∧ L.length ≤ c ∧ c ≤ maxLen := by
  rcases h.2 with ⟨rfl, e0⟩ | ⟨g, cap, cur, rfl, hg, hh, hnc, hm, hsz, ht⟩
  · have : L = [] := List.length_eq_zero_iff.1 e0
    subst this
    exact ⟨none, 0, rfl, Fs.nil _ _, fun _ => ⟨rfl, rfl⟩, Nat.le_refl _, by unfold maxLen; omega⟩
  · exact ⟨some ⟨g, 0, none⟩, cap, rfl, fun _ => ⟨g, 0, rfl, fun i hi => by rw [Nat.zero_add]; exact fat_of_row hh ht (Nat.le_refl _) hi⟩, (fun e => by cases e), hnc, hm⟩
/-- Any row behind one's own. -/
theorem appendF {w : World} {base c : Nat} {v : Value} {L M : List Fv} {a : Option Addr} (h : FOwn w base v L) (r : Fs w a M) (z : a = none → M.length = 0 ∧ c = 0) (hl : L.length + M.length ≤ 1000000) (hb : base ≤ w.heap.size) :
    ∃ v' W, Sem.run Tryz.prog (Builtin.append_ #[113, 113] 113 #[v, .slice a M.length c]) w = .ok v' W ∧ FOwn W base v' (L ++ M) ∧ w.grownBy W v.ownBlock ∧ Below base w W := by
  obtain ⟨i, hi, hzz⟩ := Option.map_eq_some_iff.1 infoF
  simp only [Prod.mk.injEq] at hzz
  obtain ⟨hz, hs, hby⟩ := hzz
  cases a with
  | none =>
    obtain ⟨e0, rfl⟩ := z rfl
    have : M = [] := List.length_eq_zero_iff.1 e0
    subst this
    have hr := run_append_owned_none (P := Tryz.prog) w base 113 113 130 i 3 Tryz.underlying113 hi v L.length (fcs L) h
    refine ⟨v, w, hr, by rw [List.append_nil]; exact h, ?_, Below.refl _ _⟩
    exact ⟨rfl, rfl, rfl, Nat.le_refl _, fun _ _ _ => rfl⟩
  | some x =>
    have hc : ∀ j u, (fcs M)[j]? = some u → w.cell? (x.add j) = some u := fun j u hu => by
      have hj : j < M.length * 3 := by rw [← fcs_length M]; exact (List.getElem?_eq_some_iff.1 hu).1
      obtain ⟨b, o, e, hv⟩ := r (by omega)
      injection e with e
      subst e
      rw [add_plain]; exact FAt.cells hv j u hu
    obtain ⟨v', W, hr, hown, hg, _⟩ := run_append_own (P := Tryz.prog) w base 113 113 130 i (.agg #[.string ⟨#[]⟩, .slice none 0 0, .bool false]) 3 48 Tryz.underlying113 hi hz hs hby rfl (by omega) v L.length (fcs L) h x M.length c (fcs M) (by rw [fcs_length]) hc fcs_one (by unfold maxLen; omega) (by omega) hb
    rw [← fcs_append, ← List.length_append] at hown
    exact ⟨v', W, hr, hown, hg, (Below.refl base w).grown hg hb fun k hk => (h.lt k hk).1⟩
/-- A slice of it. -/
theorem sliceF_l (a : Option Addr) (n c t : Nat) (ht : t ≤ n) (hc : n ≤ c) (w' : World) :
    Sem.run Tryz.prog (Instr.slice 113 (.slice a n c) (some (.int .i64 (t : Int))) none none) w' = .ok (.slice (if c = t then a else a.map (·.add (t * 3))) (n - t) (c - t)) w' := by
  rw [run_slice_l w' 113 a n c Tryz.underlying113 .i64 (t : Int) (by omega) (by omega)]
  have e : (sizeOf (Tryz.prog.elem 113)).run Tryz.prog w' = .ok 3 w' := by kernel_rfl
  rw [e]
  show Result.ok (sliced a _ _ c 3) w' = _
  unfold sliced
  rw [show ((t : Int)).toNat = t by omega]
theorem sliceF_h (a : Option Addr) (n c m : Nat) (hm : m ≤ n) (hc : n ≤ c) (w' : World) :
    Sem.run Tryz.prog (Instr.slice 113 (.slice a n c) none (some (.int .i64 (m : Int))) none) w' = .ok (.slice (if c = 0 then a else a.map (·.add (0 * 3))) m c) w' := by
  rw [run_slice_h w' 113 a n c Tryz.underlying113 .i64 (m : Int) (by omega) (by omega)]
  have e : (sizeOf (Tryz.prog.elem 113)).run Tryz.prog w' = .ok 3 w' := by kernel_rfl
  rw [e]
  show Result.ok (sliced a _ _ c 3) w' = _
  unfold sliced
  rw [show ((m : Int)).toNat = m by omega, Nat.sub_zero, Nat.sub_zero]
/-- The slices of a row, as letters: the first m, those from t on. -/
theorem Fs.first {w : World} {a : Option Addr} {c m : Nat} {L : List Fv} (h : Fs w a L) (z : a = none → L.length = 0 ∧ c = 0) (hm : m ≤ L.length) (hc : L.length ≤ c) :
    ∃ A, (∀ w', Sem.run Tryz.prog (Instr.slice 113 (.slice a L.length c) none (some (.int .i64 (m : Int))) none) w' = .ok (.slice A m c) w') ∧ Fs w A (L.take m) ∧ (A = none → m = 0 ∧ c = 0) := by
  refine ⟨_, fun w' => sliceF_h a L.length c m hm hc w', fun h0 => ?_, fun e => ?_⟩
  · rw [List.length_take, Nat.min_eq_left hm] at h0
    obtain ⟨b, o, rfl, hv⟩ := h (by omega)
    refine ⟨b, o, ?_, fun i hi => ?_⟩
    · rw [if_neg (by omega)]; simp [add_plain]
    · rw [List.length_take, Nat.min_eq_left hm] at hi
      have := hv i (by omega)
      rw [getElem!_pos _ i (by rw [List.length_take]; omega), List.getElem_take, ← getElem!_pos L i (by omega)]
      exact this
  · by_cases q : c = 0
    · rw [if_pos q] at e; have := z e; omega
    · rw [if_neg q] at e
      cases a with
      | none => have := z rfl; omega
      | some x => cases e
theorem Fs.rest {w : World} {a : Option Addr} {c t : Nat} {L : List Fv} (h : Fs w a L) (z : a = none → L.length = 0 ∧ c = 0) (ht : t ≤ L.length) (hc : L.length ≤ c) :
    ∃ A, (∀ w', Sem.run Tryz.prog (Instr.slice 113 (.slice a L.length c) (some (.int .i64 (t : Int))) none none) w' = .ok (.slice A (L.length - t) (c - t)) w') ∧ Fs w A (L.drop t) ∧ (A = none → L.length - t = 0 ∧ c - t = 0) := by
  refine ⟨_, fun w' => sliceF_l a L.length c t ht hc w', fun h0 => ?_, fun e => ?_⟩
  · rw [List.length_drop] at h0
    obtain ⟨b, o, rfl, hv⟩ := h (by omega)
    refine ⟨b, o + t * 3, ?_, fun i hi => ?_⟩
    · rw [if_neg (by omega)]; simp [add_plain]
    · rw [List.length_drop] at hi
      have := hv (t + i) (by omega)
      rw [getElem!_pos _ i (by rw [List.length_drop]; omega), List.getElem_drop, ← getElem!_pos L (t + i) (by omega), show o + t * 3 + i * 3 = o + (t + i) * 3 by rw [Nat.add_mul]; omega]
      exact this
  · by_cases q : c = t
    · omega
    · rw [if_neg q] at e
      cases a with
      | none => have := z rfl; omega
      | some x => cases e
theorem litF (w : World) (e : Fv) : Fs (w.alloc (.cells #[.string e.path, .slice e.bv.1 e.bv.2.1 e.bv.2.2, .bool e.sure] 130)) (some ⟨w.heap.size, 0, none⟩) [e] := fun _ => ⟨_, 0, rfl, fun i hi => by
  have : i = 0 := by simp at hi; omega
  subst this
  exact ⟨by rw [World.cell?_alloc_new]; rfl, by rw [World.cell?_alloc_new]; rfl, by rw [World.cell?_alloc_new]; rfl⟩⟩
end Go.Proofs.YtebngmgdciahiaaGreatDoor

namespace Go.Proofs.YtebngmgdciahiaaGreatDoor
open Go.RowKit
set_option linter.unusedVariables false

/-- Outside M nothing has turned that was there. -/
structure Upd (M : Nat → Prop) (w w' : World) : Prop where
  os : w'.os = w.os
  tape : w'.tape = w.tape
  output : w'.output = w.output
  size : w.heap.size ≤ w'.heap.size
  block : ∀ k, k < w.heap.size → ¬ M k → w'.heap[k]? = w.heap[k]?
theorem Upd.refl (M : Nat → Prop) (w : World) : Upd M w w := ⟨rfl, rfl, rfl, Nat.le_refl _, fun _ _ _ => rfl⟩
theorem Upd.trans {M : Nat → Prop} {a b c : World} (h : Upd M a b) (k : Upd M b c) : Upd M a c :=
  ⟨k.os.trans h.os, k.tape.trans h.tape, k.output.trans h.output, Nat.le_trans h.size k.size, fun i hi hm => (k.block i (Nat.lt_of_lt_of_le hi h.size) hm).trans (h.block i hi hm)⟩
theorem Upd.mono {M N : Nat → Prop} {a b : World} (h : Upd M a b) (hs : ∀ k, k < a.heap.size → M k → N k) : Upd N a b :=
  ⟨h.os, h.tape, h.output, h.size, fun k hk hn => h.block k hk fun hm => hn (hs k hk hm)⟩
/-- What was written besides lay in blocks that were not there. -/
theorem Upd.then {M N : Nat → Prop} {a b c : World} (h : Upd M a b) (k : Upd N b c) (hs : ∀ i, i < a.heap.size → N i → M i) : Upd M a c :=
  ⟨k.os.trans h.os, k.tape.trans h.tape, k.output.trans h.output, Nat.le_trans h.size k.size, fun i hi hm => (k.block i (Nat.lt_of_lt_of_le hi h.size) fun q => hm (hs i hi q)).trans (h.block i hi hm)⟩
theorem Upd.of {M : Nat → Prop} {a b : World} (h : Below a.heap.size a b) : Upd M a b := ⟨h.os, h.tape, h.output, h.size, fun k hk _ => h.block k hk⟩
theorem Upd.after {M : Nat → Prop} {a b c : World} (h : Upd M a b) (k : Below b.heap.size b c) : Upd M a c := h.trans (Upd.of k)
theorem Upd.below {M : Nat → Prop} {B : Nat} {a b c : World} (h : Below B a b) (k : Upd M b c) (hm : ∀ i, M i → B ≤ i) (hB : B ≤ b.heap.size) : Below B a c :=
  h.trans ⟨k.os, k.tape, k.output, k.size, fun i hi => k.block i (by omega) fun q => by have := hm i q; omega⟩
theorem Upd.put {M : Nat → Prop} {a b : World} (h : Upd M a b) {p : Addr} (hp : M p.block ∨ a.heap.size ≤ p.block) (v : Value) : Upd M a (b.setCell p v) :=
  ⟨h.os, h.tape, h.output, by simp [World.setCell]; exact h.size, fun i hi hm => by
    rw [Below.heap_setCell _ _ _ _ (fun e => by subst e; rcases hp with q | q; exact hm q; omega)]
    exact h.block i hi hm⟩
theorem Upd.drewN {M : Nat → Prop} {a b : World} (h : Upd M a b) (n : Nat) : Upd M a (b.drewN n) := ⟨h.os, h.tape, h.output, h.size, h.block⟩
theorem Upd.drew {M : Nat → Prop} {a b : World} (h : Upd M a b) : Upd M a b.drew := ⟨h.os, h.tape, h.output, h.size, h.block⟩
theorem Upd.alloc {M : Nat → Prop} {a b : World} (h : Upd M a b) (o : Obj) : Upd M a (b.alloc o) := h.trans (Upd.of ((Below.refl _ _).alloc (Nat.le_refl _) _))
theorem Upd.cell {M : Nat → Prop} {a b : World} (h : Upd M a b) {p : Addr} (hl : p.block < a.heap.size) (hm : ¬ M p.block) : b.cell? p = a.cell? p := World.cell?_of_block (w := a) (h.block p.block hl hm)
/-- A row of one's own whose block is not among them stays. -/
theorem own_upd {M : Nat → Prop} {a b : World} {base : Nat} {e : TypeId} {sz : Nat} {v : Value} {n : Nat} {xs : List Value} (h : a.ownsRow base e sz v n xs) (k : Upd M a b) (hm : ∀ g cur, a.heap[g]? = some (.cells cur e (0, 0)) → ¬ M g) : b.ownsRow base e sz v n xs := by
  rcases h with ⟨hl, e0 | ⟨g, cap, cur, e0, hg, hh, hr⟩⟩
  · exact ⟨hl, .inl e0⟩
  · exact ⟨hl, .inr ⟨g, cap, cur, e0, hg, (k.block g (Array.getElem?_eq_some_iff.1 hh).1 (hm g cur hh)).trans hh, hr⟩⟩
theorem own_at {a b : World} {base : Nat} {e : TypeId} {sz g n c : Nat} {xs : List Value} (h : a.ownsRow base e sz (.slice (some ⟨g, 0, none⟩) n c) n xs) (k : b.heap[g]? = a.heap[g]?) : b.ownsRow base e sz (.slice (some ⟨g, 0, none⟩) n c) n xs := by
  rcases h with ⟨hl, ⟨e0, _⟩ | ⟨g', cap, cur, e0, hg, hh, hr⟩⟩
  · cases e0
  · injection e0 with e1 e2 e3
    injection e1 with e1
    injection e1 with e1
    subst e1; subst e3
    exact ⟨hl, .inr ⟨g, c, cur, rfl, hg, k.trans hh, hr⟩⟩
end Go.Proofs.YtebngmgdciahiaaGreatDoor

namespace Go.Proofs.YtebngmgdciahiaaGreatDoor
open Go.RowKit Dk Nm
attribute [local go_sem ↓] Go.wp_at_zero Go.wp_at_succ
set_option linter.unusedVariables false

def fl (x : Fv) : Fl := ⟨x.path, x.b, x.sure⟩
/-- A file's row of bytes. -/
def BO (w : World) (x : Fv) : Prop := x.bv.2.1 = x.b.size ∧ ∃ f : Nat → Nat, (∀ i, f i < 256) ∧ Own w 0 (.slice x.bv.1 x.bv.2.1 x.bv.2.2) x.b.size f ∧ str f x.b.size = x.b
/-- The document's disk at p: its files L in the row that begins at a. -/
structure DX (w : World) (p : Nat) (a : Option Addr) (c : Nat) (L : List Fv) (q : Option Nat) (s : St) : Prop where
  o : w.heap[p]? = some (.cells #[.slice a L.length c, .int .i64 s.most, .pointer (q.map fun k => ⟨k, 0, none⟩), .bool s.off, .int .i64 s.bad] 115)
  l : FOwn w 0 (.slice a L.length c) L
  b : ∀ x ∈ L, BO w x
  f : s.fs = L.map fl
  wf : Wf s
theorem DX.n {w : World} {p : Nat} {a : Option Addr} {c : Nat} {L : List Fv} {q : Option Nat} {s : St} (h : DX w p a c L q s) : L.length ≤ 4096 := by
  have := h.wf.n
  rw [h.f, List.length_map] at this
  exact this
theorem DX.c0 {w : World} {p : Nat} {a : Option Addr} {c : Nat} {L : List Fv} {q : Option Nat} {s : St} (h : DX w p a c L q s) : w.cell? ⟨p, 0, none⟩ = some (.slice a L.length c) := cell_of_row w p 0 _ _ _ h.o
theorem DX.c1 {w : World} {p : Nat} {a : Option Addr} {c : Nat} {L : List Fv} {q : Option Nat} {s : St} (h : DX w p a c L q s) : w.cell? ⟨p, 1, none⟩ = some (.int .i64 s.most) := cell_of_row w p 1 _ _ _ h.o
theorem DX.c2 {w : World} {p : Nat} {a : Option Addr} {c : Nat} {L : List Fv} {q : Option Nat} {s : St} (h : DX w p a c L q s) : w.cell? ⟨p, 2, none⟩ = some (.pointer (q.map fun k => ⟨k, 0, none⟩)) := cell_of_row w p 2 _ _ _ h.o
theorem DX.c3 {w : World} {p : Nat} {a : Option Addr} {c : Nat} {L : List Fv} {q : Option Nat} {s : St} (h : DX w p a c L q s) : w.cell? ⟨p, 3, none⟩ = some (.bool s.off) := cell_of_row w p 3 _ _ _ h.o
theorem DX.c4 {w : World} {p : Nat} {a : Option Addr} {c : Nat} {L : List Fv} {q : Option Nat} {s : St} (h : DX w p a c L q s) : w.cell? ⟨p, 4, none⟩ = some (.int .i64 s.bad) := cell_of_row w p 4 _ _ _ h.o
theorem DX.soft {w : World} {p : Nat} {a : Option Addr} {c : Nat} {L : List Fv} {q : Option Nat} {s : St} (h : DX w p a c L q s) (j : Nat) : w.frozen? ⟨p, j, none⟩ = false := frozen_of_row w p j _ _ h.o
theorem DX.lt {w : World} {p : Nat} {a : Option Addr} {c : Nat} {L : List Fv} {q : Option Nat} {s : St} (h : DX w p a c L q s) : p < w.heap.size := (Array.getElem?_eq_some_iff.1 h.o).1
/-- The rows. -/
theorem DX.rows {w : World} {p : Nat} {a : Option Addr} {c : Nat} {L : List Fv} {q : Option Nat} {s : St} (h : DX w p a c L q s) : Fs w a L ∧ (a = none → L.length = 0 ∧ c = 0) ∧ L.length ≤ c ∧ c ≤ maxLen := by
  obtain ⟨a', c', e, r⟩ := h.l.row
  injection e with e1 _ e3
  subst e1; subst e3
  exact r
theorem DX.drewN {w : World} {p : Nat} {a : Option Addr} {c : Nat} {L : List Fv} {q : Option Nat} {s : St} (h : DX w p a c L q s) (n : Nat) : DX (w.drewN n) p a c L q s := ⟨h.o, h.l, h.b, h.f, h.wf⟩
theorem DX.path {w : World} {p : Nat} {a : Option Addr} {c : Nat} {L : List Fv} {q : Option Nat} {s : St} (h : DX w p a c L q s) {i : Nat} (hi : i < L.length) : L[i]!.path.size ≤ 600 := by
  refine h.wf.p (fl L[i]!) ?_
  rw [h.f]
  refine List.mem_map_of_mem ?_
  rw [getElem!_pos L i hi]; exact List.getElem_mem hi
theorem DX.data {w : World} {p : Nat} {a : Option Addr} {c : Nat} {L : List Fv} {q : Option Nat} {s : St} (h : DX w p a c L q s) {i : Nat} (hi : i < L.length) : L[i]!.b.size ≤ 262144 ∧ BO w L[i]! := by
  have hm : L[i]! ∈ L := by rw [getElem!_pos L i hi]; exact List.getElem_mem hi
  exact ⟨h.wf.b (fl L[i]!) (by rw [h.f]; exact List.mem_map_of_mem hm), h.b _ hm⟩
/-- Where a path is, in the rows' own words. -/
theorem place_map {L : List Fv} {p : ByteArray} {i : Nat} (hi : i < L.length) (hb : ∀ j, j < i → ls (tx L[j]!.path) (tx p) = true) (h : ls (tx L[i]!.path) (tx p) = false) : place p (L.map fl) = i := by
  refine place_first p _ i (by rw [List.length_map]; exact hi) (fun j hj => ?_) ?_
  · rw [List.getElem_map]
    have := hb j hj
    rw [getElem!_pos L j (by omega)] at this
    exact this
  · rw [List.getElem_map]
    rw [getElem!_pos L i hi] at h
    exact h
theorem place_map_end {L : List Fv} {p : ByteArray} (hb : ∀ j, j < L.length → ls (tx L[j]!.path) (tx p) = true) : place p (L.map fl) = L.length := by
  have := place_end p (L.map fl) fun j hj => by
    rw [List.length_map] at hj
    rw [List.getElem_map]
    have := hb j hj
    rw [getElem!_pos L j hj] at this
    exact this
  rw [this, List.length_map]
theorem there_map {L : List Fv} {p : ByteArray} {i : Nat} (hi : i < L.length) (h : place p (L.map fl) = i) : there p (L.map fl) = decide (tx L[i]!.path = tx p) := by
  unfold there
  rw [h, List.getElem?_map, List.getElem?_eq_getElem hi]
  show decide (L[i].path = p) = _
  rw [getElem!_pos L i hi]
  exact decide_eq_decide.2 ⟨fun e => by rw [e], fun e => tx_inj e⟩
theorem there_end {L : List Fv} {p : ByteArray} (h : place p (L.map fl) = L.length) : there p (L.map fl) = false := by
  unfold there
  rw [h, List.getElem?_eq_none (by rw [List.length_map]; exact Nat.le_refl _)]

set_option maxRecDepth 100000 in
set_option maxHeartbeats 2000000 in
theorem at_any (p : Nat) (a : Option Addr) (c : Nat) (L : List Fv) (q : Option Nat) (s : St) (x : ByteArray) (w : World) (h : DX w p a c L q s) (hx : x.size ≤ maxLen) :
    Calls Tryz.prog 57 #[.pointer (some ⟨p, 0, none⟩), .string x] w fun e w' => e = .returned (.tuple #[.int .i64 ((place x s.fs : Nat) : Int), .bool (there x s.fs)]) ∧ ∃ n, w' = w.drewN n := by
  have hn := h.n
  obtain ⟨P, hP⟩ : ∃ P, place x s.fs = P := ⟨_, rfl⟩
  obtain ⟨T, hT⟩ : ∃ T, there x s.fs = T := ⟨_, rfl⟩
  rw [hP, hT]
  rw [h.f] at hP hT
  have HP : Hid (place x (L.map fl) = P) := hP
  have HT : Hid (there x (L.map fl) = T) := hT
  have c0 := h.c0
  have HL : Hid (DX w p a c L q s) := h
  clear h hP hT
  go_enter Tryz.func57, Tryz.ntmps57
  go_wp2_with fail
  go_loopw [6] (fun i wr => ∃ (j nd : Nat), j ≤ L.length ∧ i = .int .i64 j ∧ (∀ k, k < j → ls (tx L[k]!.path) (tx x) = true) ∧ wr = w.drewN nd) (fun i _ => L.length - (intOf i).toNat)
  case atStart => exact ⟨0, 0, by omega, rfl, fun k hk => absurd hk (by omega), rfl⟩
  case round =>
    obtain ⟨j, nd, hj, rfl, hb, hwr⟩ := hrel
    have hD : DX wr p a c L q s := by rw [hwr]; exact HL.out.drewN nd
    have HW : Hid (wr = w.drewN nd) := hwr
    clear c0 hwr
    have c0 := hD.c0
    by_cases hlt : j < L.length
    · have ij : (j : Int) < (L.length : Int) := by omega
      obtain ⟨hf, _, hlc, _⟩ := hD.rows
      obtain ⟨b, o, rfl, hA⟩ := hf (by omega)
      have t0 := (hA j hlt).c0
      have hs := hD.path hlt
      have HM : Hid (place x (L.map fl) = j → there x (L.map fl) = decide (tx L[j]!.path = tx x)) := there_map (p := x) hlt
      have HPM : Hid (ls (tx L[j]!.path) (tx x) = false → place x (L.map fl) = j) := fun e => place_map (p := x) hlt hb e
      have HB : Hid (∀ k, k < j → ls (tx L[k]!.path) (tx x) = true) := hb
      obtain ⟨y, hy⟩ : ∃ y, L[j]!.path = y := ⟨_, rfl⟩
      rw [hy] at t0 hs HM HPM
      have cL := fun w => rless_any y x w (by unfold maxLen; omega) hx
      have HY : Hid (L[j]!.path = y) := hy
      clear hA hf hb hy hD
      cases hl : ls (tx y) (tx x) with
      | true =>
        rw [hl] at cL
        have HLT : Hid (ls (tx y) (tx x) = true) := hl
        clear hl
        go_wp2_with fail
        go_at_call 91
        refine (cL _).mono ?_
        rintro e w2 ⟨rfl, n2, rfl⟩
        clear cL
        go_wp2
        go_round
        case rel => exact ⟨j + 1, nd + n2, by omega, by go_num, fun k hk => (by
          by_cases e : k < j
          · exact HB.out k e
          · have : k = j := by omega
            subst this
            rw [HY.out]; exact HLT.out), by rw [HW.out]; simp⟩
        case measure => simp [intOf]; omega
      | false =>
        rw [hl] at cL
        have HLT : Hid (ls (tx y) (tx x) = false) := hl
        obtain ⟨E, hE⟩ : ∃ E, (y.toList == x.toList) = E := ⟨_, rfl⟩
        have HE : Hid (decide (tx y = tx x) = E) := by unfold Hid; rw [← hE, tx_beq]
        clear hl
        go_wp2_with fail
        go_at_call 91
        refine (cL _).mono ?_
        rintro e w2 ⟨rfl, n2, rfl⟩
        clear cL
        go_upto_region 5 with fail
        go_quiet (fail)
        go_wp2
        exact bodyPost_ret (v := .tuple #[.int .i64 ((j : Nat) : Int), .bool E]) (by simp [results, Tryz.results57, go_sem]) rfl ⟨by
          have e1 := HPM.out (by rw [HY.out] at *; exact HLT.out)
          rw [← HP.out, ← HT.out, e1, HM.out e1, HE.out], nd + n2 + nq, by rw [HW.out]; simp [Nat.add_assoc]⟩
    · have hjn : j = L.length := by omega
      subst hjn
      have e1 := place_map_end hb
      have HE1 : Hid (place x (L.map fl) = L.length ∧ there x (L.map fl) = false) := ⟨e1, there_end e1⟩
      clear hb e1 hlt hD
      go_wp2
      exact bodyPost_ret (v := .tuple #[.int .i64 ((L.length : Nat) : Int), .bool false]) (by simp [results, Tryz.results57, go_sem]) rfl ⟨by rw [← HP.out, ← HT.out, HE1.out.1, HE1.out.2], nd, HW.out⟩

theorem used_map (L : List Fv) : used (L.map fl) = (L.map fun x => x.b.size).sum := by unfold used; rw [List.map_map]; rfl
theorem used_take {L : List Fv} {i : Nat} (hi : i < L.length) : used ((L.take (i + 1)).map fl) = used ((L.take i).map fl) + L[i]!.b.size := by
  rw [used_map, used_map, ← List.take_append_getElem hi, List.map_append, List.sum_append, getElem!_pos L i hi]
  simp
set_option maxRecDepth 100000 in
set_option maxHeartbeats 2000000 in
theorem used_any (p : Nat) (a : Option Addr) (c : Nat) (L : List Fv) (q : Option Nat) (s : St) (w : World) (h : DX w p a c L q s) :
    Calls Tryz.prog 58 #[.pointer (some ⟨p, 0, none⟩)] w fun e w' => e = .returned (.int .i64 ((used s.fs : Nat) : Int)) ∧ w' = w := by
  have hn := h.n
  obtain ⟨P, hP⟩ : ∃ P, used s.fs = P := ⟨_, rfl⟩
  rw [hP]
  rw [h.f] at hP
  have HP : Hid (used (L.map fl) = P) := hP
  have c0 := h.c0
  have HL : Hid (DX w p a c L q s) := h
  clear h hP
  go_enter Tryz.func58, Tryz.ntmps58
  go_wp2_with fail
  go_loopw [3, 4] (fun u i wr => ∃ (j m : Nat), j ≤ L.length ∧ i = .int .i64 j ∧ u = .int .i64 m ∧ used ((L.take j).map fl) = m ∧ m ≤ 262144 * j ∧ wr = w) (fun _ i _ => L.length - (intOf i).toNat)
  case atStart => exact ⟨0, 0, by omega, rfl, rfl, rfl, by omega, rfl⟩
  case round =>
    obtain ⟨j, m, hj, rfl, rfl, hu, hm, rfl⟩ := hrel
    by_cases hlt : j < L.length
    · have ij : (j : Int) < (L.length : Int) := by omega
      obtain ⟨hf, _, hlc, _⟩ := HL.out.rows
      obtain ⟨b, o, rfl, hA⟩ := hf (by omega)
      have t1 := (hA j hlt).c1
      obtain ⟨hz, hB⟩ := HL.out.data hlt
      have hl := hB.1
      have HU : Hid (used ((L.take (j + 1)).map fl) = used ((L.take j).map fl) + L[j]!.b.size) := used_take hlt
      have HU0 : Hid (used ((L.take j).map fl) = m) := hu
      obtain ⟨z, hzz⟩ : ∃ z, L[j]!.b.size = z := ⟨_, rfl⟩
      obtain ⟨⟨ba, bn, bc⟩, hbv⟩ : ∃ x : Option Addr × Nat × Nat, L[j]!.bv = x := ⟨_, rfl⟩
      rw [hzz] at hl HU hz
      rw [hbv] at hl t1
      dsimp only at hl t1
      subst hl
      have HZ : Hid (m + bn ≤ 262144 * (j + 1)) := by unfold Hid; omega
      have HNN : Hid (m + bn ≤ 1073741824 + 262144) := by unfold Hid; omega
      obtain ⟨mz, hmz⟩ : ∃ mz, m + bn = mz := ⟨_, rfl⟩
      have wz : IntKind.i64.wrap ((m : Int) + (bn : Int)) = ((mz : Nat) : Int) := by
        rw [show (m : Int) + (bn : Int) = ((mz : Nat) : Int) by omega, IntKind.wrap_i64]; omega
      have HMZ : Hid (m + bn = mz) := hmz
      clear hA hf hB hzz hbv hu hmz
      go_wp2
      go_round
      case rel => exact ⟨j + 1, mz, by omega, by go_num, rfl, by rw [HU.out, HU0.out, HMZ.out], by rw [← HMZ.out]; exact HZ.out, by trivial⟩
      case measure => simp [intOf]; omega
    · have hjn : j = L.length := by omega
      subst hjn
      have ij : decide ((L.length : Int) < (L.length : Int)) = false := by simp
      have HM : Hid (used (L.map fl) = m) := by rw [List.take_length] at hu; exact hu
      clear hu hlt
      go_wp2
      go_ret
      exact ⟨by rw [← HP.out, HM.out]; rfl, by trivial⟩
end Go.Proofs.YtebngmgdciahiaaGreatDoor

namespace Go.Proofs.YtebngmgdciahiaaGreatDoor
open Go.RowKit Dk Nm
attribute [local go_sem ↓] Go.wp_at_zero Go.wp_at_succ
set_option linter.unusedVariables false

/-- The fuse, if there is one. -/
def Zs (w : World) (q : Option Nat) (z : Option Fz) : Prop := match q, z with
  | none, none => True
  | some k, some z => w.heap[k]? = some (.cells #[.int .i64 z.n, .int .i64 z.done, .bool z.blown] 67)
  | _, _ => False
/-- A row of texts. -/
def Strs (w : World) (a : Option Addr) (ps : List ByteArray) : Prop := 0 < ps.length → ∃ b o, a = some ⟨b, o, none⟩ ∧ ∀ i, i < ps.length → w.cell? ⟨b, o + i, none⟩ = some (.string ps[i]!)
/-- The blocks that an operation of the disk at p may write. -/
def Mk (p : Nat) (q : Option Nat) : Nat → Prop := fun k => k = p ∨ q = some k
/-- No such block holds files or bytes. -/
theorem mk_types {w : World} {p : Nat} {a : Option Addr} {c : Nat} {L : List Fv} {q : Option Nat} {s : St} {z : Option Fz} (h : DX w p a c L q s) (hz : Zs w q z) {k : Nat} (hk : Mk p q k) {cur : Array Value} {T : TypeId} (e : w.heap[k]? = some (.cells cur T (0, 0))) : T ≠ 130 ∧ T ≠ 5 := by
  rcases hk with rfl | hk
  · rw [h.o] at e
    injection e with e
    injection e with _ e _
    subst e; decide
  · subst hk
    cases z with
    | none => exact absurd hz (by unfold Zs; exact id)
    | some z =>
      unfold Zs at hz
      rw [hz] at e
      injection e with e
      injection e with _ e _
      subst e; decide
theorem p_types {w : World} {p : Nat} {a : Option Addr} {c : Nat} {L : List Fv} {q : Option Nat} {s : St} (h : DX w p a c L q s) {k : Nat} (hk : Mk p none k) {cur : Array Value} {T : TypeId} (e : w.heap[k]? = some (.cells cur T (0, 0))) : T ≠ 130 ∧ T ≠ 5 := by
  rcases hk with rfl | hk
  · rw [h.o] at e
    injection e with e
    injection e with _ e _
    subst e; decide
  · cases hk
theorem Zs.upd {w w' : World} {p k : Nat} {z : Option Fz} (h : Zs w (some k) z) (u : Upd (Mk p none) w w') (hp : p ≠ k) : Zs w' (some k) z := by
  cases z with
  | none => exact h
  | some z =>
    unfold Zs at *
    dsimp only at *
    rw [u.block k (Array.getElem?_eq_some_iff.1 h).1 (fun e => by rcases e with e | e; exact hp e.symm; cases e)]
    exact h
theorem BO.upd {M : Nat → Prop} {w w' : World} {x : Fv} (h : BO w x) (u : Upd M w w') (hm : ∀ g cur, w.heap[g]? = some (.cells cur 5 (0, 0)) → ¬ M g) : BO w' x := by
  obtain ⟨h1, f, h2, h3, h4⟩ := h
  exact ⟨h1, f, h2, own_upd h3 u hm, h4⟩
/-- Nothing of its files has turned. -/
theorem DX.turn {M : Nat → Prop} {w w' : World} {p : Nat} {a : Option Addr} {c : Nat} {L : List Fv} {q : Option Nat} {s s' : St} (h : DX w p a c L q s) (u : Upd M w w')
    (hm : ∀ k, M k → ∀ cur T, w.heap[k]? = some (.cells cur T (0, 0)) → T ≠ 130 ∧ T ≠ 5)
    (ho : w'.heap[p]? = some (.cells #[.slice a L.length c, .int .i64 s'.most, .pointer (q.map fun k => ⟨k, 0, none⟩), .bool s'.off, .int .i64 s'.bad] 115)) (hf : s'.fs = s.fs) (hw : Wf s') : DX w' p a c L q s' :=
  ⟨ho, own_upd h.l u fun g cur e q => (hm g q cur _ e).1 rfl, fun x hx => (h.b x hx).upd u fun g cur e q => (hm g q cur _ e).2 rfl, by rw [hf]; exact h.f, hw⟩
/-- A row of texts does not lie in a disk's, a fuse's block. -/
theorem strs_no {w : World} {p : Nat} {a : Option Addr} {c : Nat} {L : List Fv} {q : Option Nat} {s : St} (h : DX w p a c L q s) {j : Nat} {x : ByteArray} (e : w.cell? ⟨p, j, none⟩ = some (.string x)) : False := by
  rw [cell_of_row w p j _ _ _ h.o] at e
  match j, e with
  | 0, e => simp at e
  | 1, e => simp at e
  | 2, e => simp at e
  | 3, e => simp at e
  | 4, e => simp at e
  | j + 5, e => simp at e
theorem strs_noz {w : World} {k : Nat} {z : Fz} (h : Zs w (some k) (some z)) {b j : Nat} (eb : some k = some b) {x : ByteArray} (e : w.cell? ⟨b, j, none⟩ = some (.string x)) : False := by
  injection eb with eb
  subst eb
  unfold Zs at h
  rw [cell_of_row w k j _ _ _ h] at e
  match j, e with
  | 0, e => simp at e
  | 1, e => simp at e
  | 2, e => simp at e
  | j + 3, e => simp at e
/-- What asking leaves. -/
def AskEnd (p : Nat) (a : Option Addr) (c : Nat) (L : List Fv) (q : Option Nat) (s : St) (z : Option Fz) (ps : List ByteArray) (w : World) (e : Ending) (w' : World) : Prop :=
  e = .returned (.int .i64 (askZ z s ps).1) ∧ DX w' p a c L q (askZ z s ps).2.2 ∧ Zs w' q (askZ z s ps).2.1 ∧ Upd (Mk p q) w w'
theorem okPath_iff {p : ByteArray} : okPath p = true ↔ 1 ≤ p.size ∧ p.size ≤ 600 := by unfold okPath; simp
theorem askD_off {s : St} {ps : List ByteArray} (h : s.off = true) : askD s ps = (10, s) := by unfold askD; rw [if_pos h]
theorem askD_bad {s : St} {ps : List ByteArray} (h : s.off = false) (b : 0 < s.bad) : askD s ps = (9, { s with bad := s.bad - 1 }) := by unfold askD; rw [if_neg (by rw [h]; decide), if_pos b]
theorem askD_ok {s : St} {ps : List ByteArray} (h : s.off = false) (b : ¬ 0 < s.bad) (k : ps.all okPath = true) : askD s ps = (0, s) := by unfold askD; rw [if_neg (by rw [h]; decide), if_neg b, if_pos k]
theorem askD_no {s : St} {ps : List ByteArray} (h : s.off = false) (b : ¬ 0 < s.bad) (k : ¬ ps.all okPath = true) : askD s ps = (1, s) := by unfold askD; rw [if_neg (by rw [h]; decide), if_neg b, if_neg k]
theorem all_ok {ps : List ByteArray} (h : ∀ i, i < ps.length → okPath ps[i]! = true) : ps.all okPath = true := by
  rw [List.all_eq_true]
  intro x hx
  obtain ⟨i, hi, e⟩ := List.getElem_of_mem hx
  have := h i hi
  rw [getElem!_pos ps i hi, e] at this
  exact this
theorem not_ok {ps : List ByteArray} {i : Nat} (hi : i < ps.length) (h : okPath ps[i]! = false) : ¬ ps.all okPath = true := by
  intro q
  have := List.all_eq_true.1 q ps[i]! (by rw [getElem!_pos ps i hi]; exact List.getElem_mem hi)
  rw [h] at this; cases this

set_option maxRecDepth 100000 in
set_option maxHeartbeats 4000000 in
theorem ask_none (p : Nat) (a : Option Addr) (c : Nat) (L : List Fv) (s : St) (A : Option Addr) (C : Nat) (ps : List ByteArray) (w : World) (h : DX w p a c L none s) (hS : Strs w A ps) (hn : ps.length ≤ 1000) :
    Calls Tryz.prog 56 #[.pointer (some ⟨p, 0, none⟩), .slice A ps.length C] w (AskEnd p a c L none s none ps w) := by
  have d2 := h.c2
  have HD : Hid (DX w p a c L none s) := h
  have HZ : Hid (Zs w none none) := trivial
  obtain ⟨q, hq⟩ : ∃ q : Option Nat, q = none := ⟨_, rfl⟩
  have HT : Hid (∀ e w', e = .returned (.int .i64 (askD s ps).1) → DX w' p a c L none (askD s ps).2 → Upd (Mk p none) w w' → AskEnd p a c L none s none ps w e w') := fun e w' h1 h2 h3 => ⟨h1, h2, trivial, h3⟩
  dsimp only [Option.map] at d2
  generalize hW : AskEnd p a c L none s none ps w = PP at *
  clear h hW
  go_enter Tryz.func56, Tryz.ntmps56
  go_upto_region 6 with fail
  clear d2
  have d3 := HD.out.c3
  have d4 := HD.out.c4
  have hb0 := HD.out.wf.b0
  have hb1 := HD.out.wf.b1
  have f4 : ∀ j, w.frozen? ⟨p, j, none⟩ = false := HD.out.soft
  have HOF : Hid (s.off = s.off) := rfl
  cases ho : s.off with
  | true =>
    rw [ho] at d3
    have HE : Hid (askD s ps = (10, s)) := askD_off ho
    clear ho hb0 hb1 d4 f4 hS
    go_wp2
    exact HT.out _ _ (by rw [HE.out] <;> rfl) (by rw [HE.out]; exact HD.out) (Upd.refl _ _)
  | false =>
    rw [ho] at d3
    by_cases hb : 0 < s.bad
    · have HE : Hid (askD s ps = (9, { s with bad := s.bad - 1 })) := askD_bad ho hb
      obtain ⟨b, hbb⟩ : ∃ b, s.bad = b := ⟨_, rfl⟩
      rw [hbb] at d4 hb hb0 hb1
      have HO : Hid (s.off = false) := ho
      have HX : Hid (DX (w.setCell ⟨p, 4, none⟩ (.int .i64 (b - 1))) p a c L none { s with bad := s.bad - 1 }) := by
        have u : Upd (Mk p none) w (w.setCell ⟨p, 4, none⟩ (.int .i64 (b - 1))) := (Upd.refl _ _).put (.inl (.inl rfl)) _
        refine HD.out.turn u (fun k hk cur T e => p_types HD.out hk e) ?_ rfl ⟨HD.out.wf.n, HD.out.wf.b, HD.out.wf.p, HD.out.wf.m0, HD.out.wf.m1, by show 0 ≤ s.bad - 1; omega, by show s.bad - 1 ≤ _; omega⟩
        have := heap_setCell_same w p 4 _ _ (.int .i64 (b - 1)) HD.out.o
        rw [this]
        show _ = some (Obj.cells #[_, _, _, _, .int .i64 (s.bad - 1)] _)
        rw [hbb]; rfl
      have HU : Hid (Upd (Mk p none) w (w.setCell ⟨p, 4, none⟩ (.int .i64 (b - 1)))) := (Upd.refl _ _).put (.inl (.inl rfl)) _
      clear hbb ho hS
      go_wp2
      exact HT.out _ _ (by rw [HE.out] <;> rfl) (by rw [HE.out]; exact HX.out) HU.out
    · have HO : Hid (s.off = false) := ho
      have HNB : Hid (¬ 0 < s.bad) := hb
      have gb : decide (0 < s.bad) = false := decide_eq_false hb
      have HSS : Hid (Strs w A ps) := hS
      obtain ⟨b, hbb⟩ : ∃ b, s.bad = b := ⟨_, rfl⟩
      rw [hbb] at d4 gb hb0 hb1
      clear hb ho hS hbb f4
      go_wp2_with fail
      go_loopw [5] (fun i wr => ∃ j : Nat, j ≤ ps.length ∧ i = .int .i64 j ∧ (∀ k, k < j → okPath ps[k]! = true) ∧ w = wr) (fun i _ => ps.length - (intOf i).toNat)
      case atStart => exact ⟨0, by omega, rfl, fun k hk => absurd hk (by omega), rfl⟩
      case round =>
        obtain ⟨j, hj, rfl, hk, rfl⟩ := hrel
        clear d3 d4 gb hb0 hb1
        by_cases hlt : j < ps.length
        · have ij : (j : Int) < (ps.length : Int) := by omega
          obtain ⟨bb, oo, rfl, hA⟩ := HSS.out (by omega)
          have t0 := hA j hlt
          obtain ⟨x, hx⟩ : ∃ x, ps[j]! = x := ⟨_, rfl⟩
          rw [hx] at t0
          have HX : Hid (ps[j]! = x) := hx
          have HK : Hid (∀ k, k < j → okPath ps[k]! = true) := hk
          clear hA hx hk
          by_cases o1 : x.size < 1
          · have i1 : (x.size : Int) < 1 := by omega
            have HE : Hid (askD s ps = (1, s)) := askD_no HO.out (by have := HNB.out; omega) (not_ok hlt (by rw [HX.out]; cases e : okPath x with | false => rfl | true => have := okPath_iff.1 e; omega))
            go_wp2
            exact HT.out _ _ (by rw [HE.out] <;> rfl) (by rw [HE.out]; exact HD.out) (Upd.refl _ _)
          · have i1 : decide ((x.size : Int) < 1) = false := decide_eq_false (by omega)
            by_cases o2 : 600 < x.size
            · have i2 : (600 : Int) < (x.size : Int) := by omega
              have HE : Hid (askD s ps = (1, s)) := askD_no HO.out (by have := HNB.out; omega) (not_ok hlt (by rw [HX.out]; cases e : okPath x with | false => rfl | true => have := okPath_iff.1 e; omega))
              go_wp2
              exact HT.out _ _ (by rw [HE.out] <;> rfl) (by rw [HE.out]; exact HD.out) (Upd.refl _ _)
            · have i2 : decide ((600 : Int) < (x.size : Int)) = false := decide_eq_false (by omega)
              have HXK : Hid (okPath x = true) := okPath_iff.2 ⟨by omega, by omega⟩
              clear o1 o2
              go_wp2
              go_round
              case rel => exact ⟨j + 1, by omega, by go_num, fun k hk => (by
                by_cases e : k < j
                · exact HK.out k e
                · have : k = j := by omega
                  subst this
                  rw [HX.out]; exact HXK.out), by trivial⟩
              case measure => simp [intOf]; omega
        · have hjn : j = ps.length := by omega
          subst hjn
          have ij : decide ((ps.length : Int) < (ps.length : Int)) = false := by simp
          have HE : Hid (askD s ps = (0, s)) := askD_ok HO.out (by have := HNB.out; omega) (all_ok hk)
          clear hk hlt
          go_wp2
          exact HT.out _ _ (by rw [HE.out] <;> rfl) (by rw [HE.out]; exact HD.out) (Upd.refl _ _)

set_option maxRecDepth 100000 in
set_option maxHeartbeats 4000000 in
theorem ask_some (p : Nat) (a : Option Addr) (c : Nat) (L : List Fv) (k : Nat) (s : St) (z : Fz) (A : Option Addr) (C : Nat) (ps : List ByteArray) (w : World) (h : DX w p a c L (some k) s) (hz : Zs w (some k) (some z)) (hS : Strs w A ps) (hn : ps.length ≤ 1000) (hd : 0 ≤ z.done) (hd1 : z.done ≤ 4611686018427387904) :
    Calls Tryz.prog 56 #[.pointer (some ⟨p, 0, none⟩), .slice A ps.length C] w (AskEnd p a c L (some k) s (some z) ps w) := by
  have d2 := h.c2
  dsimp only [Option.map] at d2
  have hz' : w.heap[k]? = some (.cells #[.int .i64 z.n, .int .i64 z.done, .bool z.blown] 67) := hz
  have z0 := cell_of_row w k 0 _ _ _ hz'
  have z1 := cell_of_row w k 1 _ _ _ hz'
  have z2 := cell_of_row w k 2 _ _ _ hz'
  have fz : ∀ j, w.frozen? ⟨k, j, none⟩ = false := fun j => frozen_of_row w k j _ _ hz'
  simp only [List.getElem?_toArray, List.getElem?_cons_zero, List.getElem?_cons_succ] at z0 z1 z2
  cases hb : z.blown with
  | true =>
    rw [hb] at z2
    have HE : Hid (askZ (some z) s ps = (20, some z, s)) := by unfold Hid askZ; dsimp only; rw [if_pos hb]
    have HD : Hid (DX w p a c L (some k) s) := h
    have HZ : Hid (Zs w (some k) (some z)) := hz
    have HT : Hid (∀ e w', e = .returned (.int .i64 20) → w' = w → AskEnd p a c L (some k) s (some z) ps w e w') := fun e w' h1 h2 => by
      subst h2
      unfold AskEnd
      rw [HE.out]
      exact ⟨h1, HD.out, HZ.out, Upd.refl _ _⟩
    generalize hW : AskEnd p a c L (some k) s (some z) ps w = PP at *
    clear h hz hz' hS hb hW z0 z1 fz
    go_enter Tryz.func56, Tryz.ntmps56
    go_wp2
    exact HT.out _ _ rfl rfl
  | false =>
    rw [hb] at z2
    obtain ⟨zn, zd, zb⟩ := z
    dsimp only at hb hd hd1 z0 z1 z2 hz'
    subst hb
    obtain ⟨B, hB⟩ : ∃ B, decide (0 < zn ∧ zn ≤ zd + 1) = B := ⟨_, rfl⟩
    obtain ⟨W1, hW1⟩ : ∃ W1, w.setCell ⟨k, 1, none⟩ (.int .i64 (zd + 1)) = W1 := ⟨_, rfl⟩
    have k1 : W1.heap[k]? = some (.cells #[.int .i64 zn, .int .i64 (zd + 1), .bool false] 67) := by rw [← hW1]; exact heap_setCell_same w k 1 _ _ _ hz'
    have y0 := cell_of_row W1 k 0 _ _ _ k1
    have y1 := cell_of_row W1 k 1 _ _ _ k1
    have y2 := cell_of_row W1 k 2 _ _ _ k1
    have fy : ∀ j, W1.frozen? ⟨k, j, none⟩ = false := fun j => frozen_of_row W1 k j _ _ k1
    simp only [List.getElem?_toArray, List.getElem?_cons_zero, List.getElem?_cons_succ] at y0 y1 y2
    have hpk : p ≠ k := fun e => by
      subst e
      have := h.o
      rw [hz'] at this
      injection this with this
      injection this with _ this _
      cases this
    have x2 : W1.cell? ⟨p, 2, none⟩ = some (.pointer (some ⟨k, 0, none⟩)) := by
      rw [← hW1, World.cell?_setCell_other _ _ _ _ (fun e => hpk (by injection e with e; exact e.symm))]; exact d2
    have HB : Hid (decide (0 < zn ∧ zn ≤ zd + 1) = B) := hB
    have HZ0 : Hid (Zs w (some k) (some ⟨zn, zd, false⟩)) := hz
    have HD0 : Hid (DX w p a c L (some k) s) := h
    have HS0 : Hid (Strs w A ps) := hS
    have HK1 : Hid (W1.heap[k]? = some (.cells #[.int .i64 zn, .int .i64 (zd + 1), .bool false] 67)) := k1
    have HW1 : Hid (w.setCell ⟨k, 1, none⟩ (.int .i64 (zd + 1)) = W1) := hW1
    have HP : Hid (p ≠ k) := hpk
    -- what the ticked fuse leaves
    have HV : Hid (DX ((W1.setCell ⟨k, 2, none⟩ (.bool B)).drew) p a c L (some k) s ∧ Zs ((W1.setCell ⟨k, 2, none⟩ (.bool B)).drew) (some k) (some (tick ⟨zn, zd, false⟩)) ∧ Upd (Mk p (some k)) w ((W1.setCell ⟨k, 2, none⟩ (.bool B)).drew)) := by
      have u : Upd (Mk p (some k)) w ((W1.setCell ⟨k, 2, none⟩ (.bool B)).drew) := by
        rw [← hW1]
        exact (((Upd.refl _ _).put (p := ⟨k, 1, none⟩) (.inl (.inr rfl)) _).put (p := ⟨k, 2, none⟩) (.inl (.inr rfl)) _).drew
      refine ⟨h.turn u (fun j hj cur T e => mk_types h hz hj e) ?_ rfl h.wf, ?_, u⟩
      · show (W1.setCell ⟨k, 2, none⟩ (.bool B)).heap[p]? = _
        rw [heap_setCell_other _ _ _ _ hpk]
        rw [← hW1, heap_setCell_other _ _ _ _ hpk]
        exact h.o
      · have := heap_setCell_same W1 k 2 _ _ (.bool B) k1
        unfold Zs tick
        dsimp only
        rw [hB]
        exact this
    clear h hz hS hB k1 hpk hz'
    have HT : Hid (∀ W, DX W p a c L (some k) s → Zs W (some k) (some (tick ⟨zn, zd, false⟩)) → Upd (Mk p (some k)) w W → ∀ e w', e = .returned (.int .i64 (askD s ps).1) → DX w' p a c L (some k) (askD s ps).2 → Upd (Mk p (some k)) W w' → Zs w' (some k) (some (tick ⟨zn, zd, false⟩)) → AskEnd p a c L (some k) s (some ⟨zn, zd, false⟩) ps w e w') := fun W h1 h2 h3 e w' e1 e2 e3 e4 => ⟨e1, e2, e4, h3.trans e3⟩
    generalize hW : AskEnd p a c L (some k) s (some ⟨zn, zd, false⟩) ps w = PP at *
    clear hW
    unfold tick at HT HV
    dsimp only at HT HV
    go_enter Tryz.func56, Tryz.ntmps56
    go_upto_region 5 with fail
    clear hW1 d2 fz z0 z1 z2
    go_cut [] (fun wx => DX wx p a c L (some k) s ∧ Zs wx (some k) (some ⟨zn, zd + 1, decide (0 < zn ∧ zn ≤ zd + 1)⟩) ∧ Upd (Mk p (some k)) w wx)
    case first =>
      by_cases g0 : 0 < zn
      · by_cases g1 : zn ≤ zd + 1
        · have eB : B = true := by rw [← HB.out]; exact decide_eq_true ⟨g0, g1⟩
          subst eB
          go_region
          go_wp2_with fail
          go_meet
          exact HV.out
        · have eB : B = false := by rw [← HB.out]; exact decide_eq_false (fun q => g1 q.2)
          have g1' : decide (zn ≤ zd + 1) = false := decide_eq_false g1
          clear g1
          subst eB
          go_region
          go_wp2_with fail
          go_meet
          exact HV.out
      · have eB : B = false := by rw [← HB.out]; exact decide_eq_false (fun q => g0 q.1)
        have g0' : decide (0 < zn) = false := decide_eq_false g0
        clear g0
        subst eB
        go_region
        go_wp2_with fail
        go_meet
        exact HV.out
    case rest =>
      obtain ⟨hD, hZ, hU⟩ := hcut
      have HT1 : Hid (∀ e w', e = .returned (.int .i64 (askD s ps).1) → DX w' p a c L (some k) (askD s ps).2 → Upd (Mk p none) wc w' → PP e w') := fun e w' h1 h2 h3 => HT.out wc hD hZ hU e w' h1 h2 (h3.mono fun i _ hi => by rcases hi with hi | hi; exact .inl hi; cases hi) (hZ.upd h3 HP.out)
      have hS : Strs wc A ps := fun h0 => by
        obtain ⟨b, o, e, hA⟩ := HS0.out h0
        refine ⟨b, o, e, fun i hi => ?_⟩
        have hc := hA i hi
        have hbl := block_lt_of_cell (a := ⟨b, o + i, none⟩) hc
        rw [World.cell?_of_block (w := w) (hU.block b hbl (fun e => by
          rcases e with e | e
          · subst e
            obtain ⟨cc, hcc⟩ : ∃ x, w.heap[b]? = some x := ⟨_, HD0.out.o⟩
            exact strs_no HD0.out hc
          · exact strs_noz HZ0.out e hc))]
        exact hc
      have HD : Hid (DX wc p a c L (some k) s) := hD
      clear hD hZ hU HT HV HS0 HK1 HW1 HZ0 HD0 y0 y1 y2 fy x2 HB
      have HT := HT1
      clear HT1
      generalize wc = W at *
      have d3 := HD.out.c3
      have d4 := HD.out.c4
      have hb0 := HD.out.wf.b0
      have hb1 := HD.out.wf.b1
      have f4 : ∀ j, W.frozen? ⟨p, j, none⟩ = false := HD.out.soft
      have HOF : Hid (s.off = s.off) := rfl
      cases ho : s.off with
      | true =>
        rw [ho] at d3
        have HE : Hid (askD s ps = (10, s)) := askD_off ho
        clear ho hb0 hb1 d4 f4 hS
        go_wp2
        exact HT.out _ _ (by rw [HE.out] <;> rfl) (by rw [HE.out]; exact HD.out) (Upd.refl _ _)
      | false =>
        rw [ho] at d3
        by_cases hb : 0 < s.bad
        · have HE : Hid (askD s ps = (9, { s with bad := s.bad - 1 })) := askD_bad ho hb
          obtain ⟨b, hbb⟩ : ∃ b, s.bad = b := ⟨_, rfl⟩
          rw [hbb] at d4 hb hb0 hb1
          have HO : Hid (s.off = false) := ho
          have HX : Hid (DX (W.setCell ⟨p, 4, none⟩ (.int .i64 (b - 1))) p a c L (some k) { s with bad := s.bad - 1 }) := by
            have u : Upd (Mk p none) W (W.setCell ⟨p, 4, none⟩ (.int .i64 (b - 1))) := (Upd.refl _ _).put (.inl (.inl rfl)) _
            refine HD.out.turn u (fun k hk cur T e => p_types HD.out hk e) ?_ rfl ⟨HD.out.wf.n, HD.out.wf.b, HD.out.wf.p, HD.out.wf.m0, HD.out.wf.m1, by show 0 ≤ s.bad - 1; omega, by show s.bad - 1 ≤ _; omega⟩
            have := heap_setCell_same W p 4 _ _ (.int .i64 (b - 1)) HD.out.o
            rw [this]
            show _ = some (Obj.cells #[_, _, _, _, .int .i64 (s.bad - 1)] _)
            rw [hbb]; rfl
          have HU : Hid (Upd (Mk p none) W (W.setCell ⟨p, 4, none⟩ (.int .i64 (b - 1)))) := (Upd.refl _ _).put (.inl (.inl rfl)) _
          clear hbb ho hS
          go_wp2
          exact HT.out _ _ (by rw [HE.out] <;> rfl) (by rw [HE.out]; exact HX.out) HU.out
        · have HO : Hid (s.off = false) := ho
          have HNB : Hid (¬ 0 < s.bad) := hb
          have gb : decide (0 < s.bad) = false := decide_eq_false hb
          have HSS : Hid (Strs W A ps) := hS
          obtain ⟨b, hbb⟩ : ∃ b, s.bad = b := ⟨_, rfl⟩
          rw [hbb] at d4 gb hb0 hb1
          clear hb ho hS hbb f4
          go_wp2_with fail
          go_loopw [5] (fun i wr => ∃ j : Nat, j ≤ ps.length ∧ i = .int .i64 j ∧ (∀ k, k < j → okPath ps[k]! = true) ∧ W = wr) (fun i _ => ps.length - (intOf i).toNat)
          case atStart => exact ⟨0, by omega, rfl, fun k hk => absurd hk (by omega), rfl⟩
          case round =>
            obtain ⟨j, hj, rfl, hk, rfl⟩ := hrel
            clear d3 d4 gb hb0 hb1
            by_cases hlt : j < ps.length
            · have ij : (j : Int) < (ps.length : Int) := by omega
              obtain ⟨bb, oo, rfl, hA⟩ := HSS.out (by omega)
              have t0 := hA j hlt
              obtain ⟨x, hx⟩ : ∃ x, ps[j]! = x := ⟨_, rfl⟩
              rw [hx] at t0
              have HX : Hid (ps[j]! = x) := hx
              have HK : Hid (∀ k, k < j → okPath ps[k]! = true) := hk
              clear hA hx hk
              by_cases o1 : x.size < 1
              · have i1 : (x.size : Int) < 1 := by omega
                have HE : Hid (askD s ps = (1, s)) := askD_no HO.out (by have := HNB.out; omega) (not_ok hlt (by rw [HX.out]; cases e : okPath x with | false => rfl | true => have := okPath_iff.1 e; omega))
                go_wp2
                exact HT.out _ _ (by rw [HE.out] <;> rfl) (by rw [HE.out]; exact HD.out) (Upd.refl _ _)
              · have i1 : decide ((x.size : Int) < 1) = false := decide_eq_false (by omega)
                by_cases o2 : 600 < x.size
                · have i2 : (600 : Int) < (x.size : Int) := by omega
                  have HE : Hid (askD s ps = (1, s)) := askD_no HO.out (by have := HNB.out; omega) (not_ok hlt (by rw [HX.out]; cases e : okPath x with | false => rfl | true => have := okPath_iff.1 e; omega))
                  go_wp2
                  exact HT.out _ _ (by rw [HE.out] <;> rfl) (by rw [HE.out]; exact HD.out) (Upd.refl _ _)
                · have i2 : decide ((600 : Int) < (x.size : Int)) = false := decide_eq_false (by omega)
                  have HXK : Hid (okPath x = true) := okPath_iff.2 ⟨by omega, by omega⟩
                  clear o1 o2
                  go_wp2
                  go_round
                  case rel => exact ⟨j + 1, by omega, by go_num, fun k hk => (by
                    by_cases e : k < j
                    · exact HK.out k e
                    · have : k = j := by omega
                      subst this
                      rw [HX.out]; exact HXK.out), by trivial⟩
                  case measure => simp [intOf]; omega
            · have hjn : j = ps.length := by omega
              subst hjn
              have ij : decide ((ps.length : Int) < (ps.length : Int)) = false := by simp
              have HE : Hid (askD s ps = (0, s)) := askD_ok HO.out (by have := HNB.out; omega) (all_ok hk)
              clear hk hlt
              go_wp2
              exact HT.out _ _ (by rw [HE.out] <;> rfl) (by rw [HE.out]; exact HD.out) (Upd.refl _ _)
end Go.Proofs.YtebngmgdciahiaaGreatDoor

namespace Go.Proofs.YtebngmgdciahiaaGreatDoor
open Go.RowKit Dk Nm
attribute [local go_sem ↓] Go.wp_at_zero Go.wp_at_succ
set_option linter.unusedVariables false

theorem DX.keep {w w' : World} {p : Nat} {a : Option Addr} {c : Nat} {L : List Fv} {q : Option Nat} {s : St} (h : DX w p a c L q s) (hb : Below w.heap.size w w') : DX w' p a c L q s :=
  h.turn (M := fun _ => False) (Upd.of hb) (fun _ f => absurd f id) (by rw [hb.block p h.lt]; exact h.o) rfl h.wf
theorem Zs.keep {w w' : World} {q : Option Nat} {z : Option Fz} (h : Zs w q z) (hb : Below w.heap.size w w') : Zs w' q z := by
  cases q with
  | none => cases z with
    | none => trivial
    | some y => exact absurd h (by unfold Zs; exact id)
  | some k =>
    cases z with
    | none => exact h
    | some z =>
      unfold Zs at *
      dsimp only at *
      rw [hb.block k (Array.getElem?_eq_some_iff.1 h).1]; exact h
theorem bdn' (w : World) (n : Nat) : Below w.heap.size w (w.drewN n) := ⟨rfl, rfl, rfl, Nat.le_refl _, fun _ _ => rfl⟩
/-- The fuse's count is far from its end. -/
def Zb (z : Option Fz) : Prop := ∀ y, z = some y → 0 ≤ y.done ∧ y.done ≤ 4611686018427387904
theorem ask_any (p : Nat) (a : Option Addr) (c : Nat) (L : List Fv) (q : Option Nat) (s : St) (z : Option Fz) (A : Option Addr) (C : Nat) (ps : List ByteArray) (w : World) (h : DX w p a c L q s) (hz : Zs w q z) (hb : Zb z) (hS : Strs w A ps) (hn : ps.length ≤ 1000) :
    Calls Tryz.prog 56 #[.pointer (some ⟨p, 0, none⟩), .slice A ps.length C] w (AskEnd p a c L q s z ps w) := by
  cases q with
  | none =>
    cases z with
    | none => exact ask_none p a c L s A C ps w h hS hn
    | some y => exact absurd hz (by unfold Zs; exact id)
  | some k =>
    cases z with
    | none => exact absurd hz (by unfold Zs; exact id)
    | some y => exact ask_some p a c L k s y A C ps w h hz hS hn (hb y rfl).1 (hb y rfl).2
theorem lit_str (w : World) (x : ByteArray) : Strs (w.alloc (.cells #[.string x] 9)) (some ⟨w.heap.size, 0, none⟩) [x] := fun _ => ⟨_, 0, rfl, fun i hi => by
  have : i = 0 := by simp at hi; omega
  subst this
  rw [World.cell?_alloc_new]; rfl⟩
/-- What a file holds, and nothing where it is not. -/
def dataAt (x : ByteArray) (l : List Fl) : ByteArray := match l[place x l]? with
  | some f => f.b
  | none => ⟨#[]⟩
theorem own_slice {w : World} {base n c : Nat} {a : Option Addr} {f : Nat → Nat} (h : Own w base (.slice a n c) n f) (hf : ∀ i, f i < 256) : Row w a n f ∧ (a = none → n = 0 ∧ c = 0) := by
  by_cases h0 : n = 0
  · subst h0
    refine ⟨Row.zero w a hf, fun e => ?_⟩
    rcases h.2 with ⟨e2, _⟩ | ⟨g, cap, cur, e2, _⟩
    · injection e2 with e3 e4 e5; exact ⟨rfl, e5⟩
    · rw [e] at e2; injection e2 with e3; cases e3
  · obtain ⟨g, cap, e2, _, _, _, hr⟩ := h.row (by omega) hf
    injection e2 with e3 e4 e5
    subst e3
    exact ⟨hr, fun e => by cases e⟩
theorem own_mono {w : World} {b b' n : Nat} {v : Value} {f : Nat → Nat} (h : Own w b v n f) (hb : b' ≤ b) : Own w b' v n f := by
  rcases h with ⟨hl, e | ⟨g, cap, cur, e, hg, hh, hr⟩⟩
  · exact ⟨hl, .inl e⟩
  · exact ⟨hl, .inr ⟨g, cap, cur, e, by omega, hh, hr⟩⟩
/-- What Read answers. -/
def readZ (z : Option Fz) (s : St) (x : ByteArray) : ByteArray × Int := if (askZ z s [x]).1 ≠ 0 then (⟨#[]⟩, (askZ z s [x]).1) else if there x s.fs = true then (dataAt x s.fs, 0) else (⟨#[]⟩, 6)
theorem askD_fs (s : St) (ps : List ByteArray) : (askD s ps).2.fs = s.fs := by
  unfold askD
  split
  · rfl
  · split
    · rfl
    · split <;> rfl
theorem askZ_fs (z : Option Fz) (s : St) (ps : List ByteArray) : (askZ z s ps).2.2.fs = s.fs := by
  unfold askZ
  cases z with
  | none => exact askD_fs s ps
  | some y =>
    dsimp only
    split
    · rfl
    · exact askD_fs s ps
/-- A row of bytes of one's own that holds x. -/
def Bts (w : World) (base : Nat) (v : Value) (x : ByteArray) : Prop := ∃ f : Nat → Nat, (∀ i, f i < 256) ∧ Own w base v x.size f ∧ str f x.size = x
theorem Bts.none (w : World) (base : Nat) : Bts w base (.slice none 0 0) ⟨#[]⟩ := ⟨fun _ => 0, fun _ => (by decide : (0 : Nat) < 256), Own.start _ _ _, rfl⟩
def ReadEnd (p : Nat) (a : Option Addr) (c : Nat) (L : List Fv) (q : Option Nat) (s : St) (z : Option Fz) (x : ByteArray) (w : World) (e : Ending) (w' : World) : Prop :=
  ∃ v, e = .returned (.tuple #[v, .int .i64 (readZ z s x).2]) ∧ Bts w' w.heap.size v (readZ z s x).1 ∧ DX w' p a c L q (askZ z s [x]).2.2 ∧ Zs w' q (askZ z s [x]).2.1 ∧ Upd (Mk p q) w w'

set_option maxRecDepth 100000 in
set_option maxHeartbeats 4000000 in
theorem read_any (p : Nat) (a : Option Addr) (c : Nat) (L : List Fv) (q : Option Nat) (s : St) (z : Option Fz) (x : ByteArray) (w : World) (h : DX w p a c L q s) (hz : Zs w q z) (hb : Zb z) (hx : x.size ≤ maxLen) :
    Calls Tryz.prog 35 #[.pointer (some ⟨p, 0, none⟩), .string x] w (ReadEnd p a c L q s z x w) := by
  obtain ⟨W, hW⟩ : ∃ W, w.alloc (.cells #[.string x] 9) = W := ⟨_, rfl⟩
  have bW : Below w.heap.size w W := by rw [← hW]; exact (Below.refl _ _).alloc (Nat.le_refl _) _
  have hS : Strs W (some ⟨w.heap.size, 0, none⟩) [x] := by rw [← hW]; exact lit_str w x
  have cA := ask_any p a c L q s z (some ⟨w.heap.size, 0, none⟩) 1 [x] W (h.keep bW) (hz.keep bW) hb hS (by simp)
  obtain ⟨e0, he0⟩ : ∃ e0, (askZ z s [x]).1 = e0 := ⟨_, rfl⟩
  have hfs := askZ_fs z s [x]
  obtain ⟨s1, hs1⟩ : ∃ s1, (askZ z s [x]).2.2 = s1 := ⟨_, rfl⟩
  obtain ⟨z1, hz1⟩ : ∃ z1, (askZ z s [x]).2.1 = z1 := ⟨_, rfl⟩
  have HT : Hid (∀ v e w' d, e0 ≠ 0 ∧ d = e0 ∨ e0 = 0 ∧ there x s.fs = false ∧ d = 6 → v = .slice none 0 0 → e = .returned (.tuple #[v, .int .i64 d]) → DX w' p a c L q s1 → Zs w' q z1 → Upd (Mk p q) w w' → ReadEnd p a c L q s z x w e w') := by
    intro v e w' d hd hv he h1 h2 h3
    have hr : readZ z s x = (⟨#[]⟩, d) := by
      unfold readZ
      rw [he0]
      rcases hd with ⟨k, rfl⟩ | ⟨k, k2, rfl⟩
      · rw [if_pos k]
      · rw [if_neg (by simp [k]), if_neg (by rw [k2]; decide)]
    refine ⟨v, by rw [hr]; exact he, by rw [hr, hv]; exact Bts.none _ _, by rw [hs1]; exact h1, by rw [hz1]; exact h2, h3⟩
  have HG : Hid (∀ v e w', e0 = 0 → there x s.fs = true → Bts w' w.heap.size v (dataAt x s.fs) → e = .returned (.tuple #[v, .int .i64 0]) → DX w' p a c L q s1 → Zs w' q z1 → Upd (Mk p q) w w' → ReadEnd p a c L q s z x w e w') := by
    intro v e w' k k2 hv he h1 h2 h3
    have hr : readZ z s x = (dataAt x s.fs, 0) := by
      unfold readZ
      rw [he0, if_neg (by simp [k]), if_pos k2]
    exact ⟨v, by rw [hr]; exact he, by rw [hr]; exact hv, by rw [hs1]; exact h1, by rw [hz1]; exact h2, h3⟩
  have HBW : Hid (Below w.heap.size w W) := bW
  have cA1 : Calls Tryz.prog 56 #[.pointer (some ⟨p, 0, none⟩), .slice (some ⟨w.heap.size, 0, none⟩) 1 1] W fun e w' => e = .returned (.int .i64 e0) ∧ DX w' p a c L q s1 ∧ Zs w' q z1 ∧ Upd (Mk p q) W w' := by
    refine cA.mono ?_
    rintro e w' ⟨h1, h2, h3, h4⟩
    rw [he0] at h1
    rw [hs1] at h2
    rw [hz1] at h3
    exact ⟨h1, h2, h3, h4⟩
  have HF : Hid (s1.fs = s.fs) := by unfold Hid; rw [← hs1]; exact hfs
  generalize hPP : ReadEnd p a c L q s z x w = PP at *
  clear hPP h hz hb bW hS cA he0 hfs hs1 hz1
  go_enter Tryz.func35, Tryz.ntmps35
  go_wp2_with fail
  go_at_call 56
  refine cA1.mono ?_
  rintro e w1 ⟨rfl, h1, hz1, u1⟩
  clear cA1 hW
  have HZ1 : Hid (Zs w1 q z1) := hz1
  have HU1 : Hid (Upd (Mk p q) w w1) := (Upd.of HBW.out).trans u1
  clear hz1 u1
  by_cases g0 : e0 = 0
  · subst g0
    have cT := at_any p a c L q s1 x w1 h1 hx
    rw [HF.out] at cT
    have HD1 : Hid (DX w1 p a c L q s1) := h1
    cases ht : there x s.fs with
    | false =>
      rw [ht] at cT
      have HTH : Hid (there x s.fs = false) := ht
      clear ht h1
      go_wp2_with fail
      go_at_call 57
      refine cT.mono ?_
      rintro e w2 ⟨rfl, n2, rfl⟩
      clear cT
      go_wp2
      exact HT.out _ _ _ _ (.inr ⟨by trivial, HTH.out, rfl⟩) rfl rfl (HD1.out.drewN n2) (HZ1.out.keep (bdn' _ _)) (HU1.out.drewN n2)
    | true =>
      rw [ht] at cT
      have HTH : Hid (there x s.fs = true) := ht
      have hlt := there_lt ht
      obtain ⟨j, hj⟩ : ∃ j, place x s.fs = j := ⟨_, rfl⟩
      rw [hj] at cT hlt
      have hfl : s.fs = L.map fl := by rw [← HF.out]; exact h1.f
      have hjL : j < L.length := by rw [hfl, List.length_map] at hlt; exact hlt
      have HDA : Hid (dataAt x s.fs = L[j]!.b) := by
        unfold Hid dataAt
        rw [hj, hfl, List.getElem?_map, List.getElem?_eq_getElem hjL, getElem!_pos L j hjL]
        rfl
      obtain ⟨hf, _, hlc, _⟩ := h1.rows
      obtain ⟨b, o, rfl, hA⟩ := hf (by omega)
      have t1 := (hA j hjL).c1
      obtain ⟨hsz, hbo, f, hfl2, hown, hstr⟩ := h1.data hjL
      obtain ⟨⟨ba, bn, bc⟩, hbv⟩ : ∃ y : Option Addr × Nat × Nat, L[j]!.bv = y := ⟨_, rfl⟩
      rw [hbv] at t1 hbo hown
      dsimp only at t1 hbo hown
      rw [← hbo] at hown hsz hstr
      have c0 := h1.c0
      have ij : (j : Int) < (L.length : Int) := by omega
      have hnn := h1.n
      obtain ⟨hrow, hnil⟩ := own_slice hown hfl2
      have HD2 : ∀ n, DX (w1.drewN n) p (some ⟨b, o, none⟩) c L q s1 := fun n => HD1.out.drewN n
      have HST : Hid (str f bn = L[j]!.b ∧ bn = L[j]!.b.size ∧ ∀ i, f i < 256) := ⟨hstr, hbo, hfl2⟩
      have HSW : Hid (w.heap.size ≤ w1.heap.size) := HU1.out.size
      have K : ∀ n, ∃ v' W', Sem.run Tryz.prog (Builtin.append_ #[27, 27] 27 #[.slice none 0 0, .slice ba bn bc]) (w1.drewN n) = .ok v' W' ∧ Bts W' w.heap.size v' L[j]!.b ∧ Below w1.heap.size w1 W' := fun n => by
        obtain ⟨v', W', r1, r2, r3⟩ := appendA (c := bc) (Own.start (w1.drewN n) w1.heap.size (fun _ => 0)) (hrow.keep (bdn' w1 n)) hnil (by omega) (Nat.le_refl _)
        refine ⟨v', W', r1, ⟨cat 0 (fun _ => 0) f, fun i => ?_, ?_, ?_⟩, (bdn' w1 n).trans r3⟩
        · unfold cat; split; exact (by decide : (0 : Nat) < 256); exact hfl2 _
        · rw [← hbo]
          rw [Nat.zero_add] at r2
          exact own_mono r2 HSW.out
        · rw [← hbo, ← hstr]
          exact str_congr fun i _ => by unfold cat; rw [if_neg (by omega), Nat.sub_zero]
      have HK : Hid (∀ n, ∃ v' W', Sem.run Tryz.prog (Builtin.append_ #[27, 27] 27 #[.slice none 0 0, .slice ba bn bc]) (w1.drewN n) = .ok v' W' ∧ Bts W' w.heap.size v' L[j]!.b ∧ Below w1.heap.size w1 W') := K
      clear K hrow hnil hown hstr hbo hsz hfl2 hbv hA hf hlc HD2 hfl hlt hj ht h1
      go_wp2_with fail
      go_at_call 57
      refine cT.mono ?_
      rintro e w2 ⟨rfl, n2, rfl⟩
      clear cT
      obtain ⟨v', W', hr, hbt, hbl⟩ := HK.out n2
      have HR : Hid (Sem.run Tryz.prog (Builtin.append_ #[27, 27] 27 #[.slice none 0 0, .slice ba bn bc]) (w1.drewN n2) = .ok v' W') := hr
      have HBT : Hid (Bts W' w.heap.size v' L[j]!.b) := hbt
      have HBL : Hid (Below w1.heap.size w1 W') := hbl
      clear hr hbt hbl HK
      go_wp2_with (at_builtin; refine wpList_append_ran (by rfl) _ _ 27 (by rfl) _ _ _ _ (by rfl) (by rfl) HR.out ?_)
      exact HG.out _ _ _ (by trivial) HTH.out (by rw [HDA.out]; exact HBT.out) rfl (HD1.out.keep HBL.out) (HZ1.out.keep HBL.out) (HU1.out.after HBL.out)
  · have g1 : (e0 == 0) = false := by simpa using g0
    have G0 : Hid (e0 ≠ 0) := g0
    have HD1 : Hid (DX w1 p a c L q s1) := h1
    clear h1
    go_wp2
    exact HT.out _ _ _ _ (.inl ⟨G0.out, rfl⟩) rfl rfl HD1.out HZ1.out HU1.out
end Go.Proofs.YtebngmgdciahiaaGreatDoor

namespace Go.Proofs.YtebngmgdciahiaaGreatDoor
open Go.RowKit Dk Nm
attribute [local go_sem ↓] Go.wp_at_zero Go.wp_at_succ
set_option linter.unusedVariables false

theorem BO.keep {w w' : World} {x : Fv} (h : BO w x) (hb : Below w.heap.size w w') : BO w' x := by
  obtain ⟨h1, f, h2, h3, h4⟩ := h
  exact ⟨h1, f, h2, h3.keep hb, h4⟩
/-- Its row is laid anew. -/
theorem DX.relist {w W : World} {p : Nat} {a a' : Option Addr} {c c' : Nat} {L L' : List Fv} {q : Option Nat} {s : St} (h : DX w p a c L q s) (hb : Below w.heap.size w W) (ho : FOwn W w.heap.size (.slice a' L'.length c') L')
    (hB : ∀ x ∈ L', BO W x) (hw : Wf { s with fs := L'.map fl }) :
    DX (W.setCell ⟨p, 0, none⟩ (.slice a' L'.length c')) p a' c' L' q { s with fs := L'.map fl } ∧ Upd (Mk p none) w (W.setCell ⟨p, 0, none⟩ (.slice a' L'.length c')) ∧ (∀ x, a' = some x → w.heap.size ≤ x.block) := by
  have hk := h.keep hb
  have u : Upd (Mk p none) W (W.setCell ⟨p, 0, none⟩ (.slice a' L'.length c')) := (Upd.refl _ _).put (.inl (.inl rfl)) _
  refine ⟨⟨?_, ?_, fun x hx => (hB x hx).upd u fun g cur e k => (p_types hk k e).2 rfl, rfl, hw⟩, (Upd.of hb).trans u, fun x e => ?_⟩
  · have := heap_setCell_same W p 0 _ _ (.slice a' L'.length c') hk.o
    rw [this]; rfl
  · exact (own_upd ho u fun g cur e k => (p_types hk k e).1 rfl) |> fun k => FOwn.mono k (Nat.zero_le _)
  · subst e
    rcases ho.2 with ⟨e2, _⟩ | ⟨g, cap, cur, e2, hg, _⟩
    · injection e2 with e3; cases e3
    · injection e2 with e3
      injection e3 with e3
      rw [e3]; exact hg
theorem cut_map (L : List Fv) (i : Nat) : (L.take i ++ L.drop (i + 1)).map fl = Dk.cut (L.map fl) i := by
  unfold Dk.cut
  rw [List.map_append, List.map_take, List.map_drop]
theorem wf_sub {s : St} {l : List Fl} (h : Wf s) (hl : l.length ≤ s.fs.length) (hs : ∀ f ∈ l, f ∈ s.fs) : Wf { s with fs := l } :=
  ⟨Nat.le_trans hl h.n, fun f hf => h.b f (hs f hf), fun f hf => h.p f (hs f hf), h.m0, h.m1, h.b0, h.b1⟩
def RemEnd (p : Nat) (L : List Fv) (q : Option Nat) (s : St) (i : Nat) (w : World) (e : Ending) (w' : World) : Prop :=
  e = .returned (.tuple #[]) ∧ ∃ a' c', DX w' p a' c' (L.take i ++ L.drop (i + 1)) q { s with fs := Dk.cut s.fs i } ∧ Upd (Mk p none) w w' ∧ (∀ x, a' = some x → w.heap.size ≤ x.block)
set_option maxRecDepth 100000 in
set_option maxHeartbeats 4000000 in
theorem remove_any (p : Nat) (a : Option Addr) (c : Nat) (L : List Fv) (q : Option Nat) (s : St) (i : Nat) (w : World) (h : DX w p a c L q s) (hi : i < L.length) :
    Calls Tryz.prog 59 #[.pointer (some ⟨p, 0, none⟩), .int .i64 (i : Int)] w (RemEnd p L q s i w) := by
  have hn := h.n
  obtain ⟨hf, hz, hlc, _⟩ := h.rows
  obtain ⟨A1, s1, f1, z1⟩ := hf.first hz (m := i) (by omega) hlc
  obtain ⟨A2, s2, f2, z2⟩ := hf.rest hz (t := i + 1) (by omega) hlc
  obtain ⟨E, hE⟩ : ∃ E, w.drew = E := ⟨_, rfl⟩
  have bE : Below w.heap.size w E := by rw [← hE]; exact (Below.refl _ _).drew
  have l1 : (L.take i).length = i := by rw [List.length_take, Nat.min_eq_left (by omega)]
  have l2 : (L.drop (i + 1)).length = L.length - (i + 1) := List.length_drop
  obtain ⟨v1, W1, r1, o1, g1, b1⟩ := appendF (c := c) (FOwn.start E w.heap.size) (f1.keep bE) (by rw [l1]; exact z1) (by rw [l1]; simp; omega) bE.size
  rw [l1] at r1
  rw [List.nil_append] at o1
  obtain ⟨v2, W2, r2, o2, g2, b2⟩ := appendF (c := c - (i + 1)) o1 (f2.keep (bE.trans b1)) (by rw [l2]; exact z2) (by rw [l1, l2]; omega) (Nat.le_trans bE.size b1.size)
  rw [l2] at r2
  obtain ⟨a', c', ev, _⟩ := o2.row
  have bW2 := (bE.trans b1).trans b2
  subst ev
  have hR := h.relist bW2 o2 (fun x hx => (h.b x (by
    rcases List.mem_append.1 hx with q | q
    · exact List.mem_of_mem_take q
    · exact List.mem_of_mem_drop q)).keep bW2) (by
    rw [cut_map, ← h.f]
    refine wf_sub h.wf ?_ fun f hf => ?_
    · unfold Dk.cut; rw [List.length_append, List.length_take, List.length_drop]; omega
    · unfold Dk.cut at hf
      rcases List.mem_append.1 hf with q | q
      · exact List.mem_of_mem_take q
      · exact List.mem_of_mem_drop q)
  rw [cut_map, ← h.f] at hR
  have HR : Hid (∀ e w', e = .returned (.tuple #[]) → w' = W2.setCell ⟨p, 0, none⟩ (.slice a' (L.take i ++ L.drop (i + 1)).length c') → RemEnd p L q s i w e w') := fun e w' h1 h2 => by
    subst h2
    exact ⟨h1, a', c', hR.1, hR.2.1, hR.2.2⟩
  have c0 := (h.keep bE).c0
  have c1 := (h.keep (bE.trans b1)).c0
  have f0 := (h.keep bW2).soft 0
  obtain ⟨N, hV⟩ : ∃ N, (L.take i ++ L.drop (i + 1)).length = N := ⟨_, rfl⟩
  rw [hV] at r2 HR
  have cW := (h.keep bW2).c0
  obtain ⟨n, hnn⟩ : ∃ n, L.length = n := ⟨_, rfl⟩
  rw [hnn] at s1 s2 c0 c1 cW hn hi r2
  obtain ⟨i1, hi1⟩ : ∃ i1, i + 1 = i1 := ⟨_, rfl⟩
  have wi : IntKind.i64.wrap ((i : Int) + 1) = ((i1 : Nat) : Int) := by rw [IntKind.wrap_i64]; omega
  rw [hi1] at s2 r2
  have R1 : Hid (Sem.run Tryz.prog (Builtin.append_ #[113, 113] 113 #[.slice none 0 0, .slice A1 i c]) E = .ok v1 W1) := r1
  have R2 : Hid (Sem.run Tryz.prog (Builtin.append_ #[113, 113] 113 #[v1, .slice A2 (n - i1) (c - i1)]) W1 = .ok (.slice a' N c') W2) := r2
  generalize hPP : RemEnd p L q s i w = PP at *
  clear hPP h hf hz hlc f1 z1 f2 z2 bE l1 l2 r1 o1 g1 b1 r2 o2 g2 b2 bW2 hR hV hnn hi1
  go_enter Tryz.func59, Tryz.ntmps59
  go_wp2_with fail
  go_region_law (first
    | refine step_append_ran (by rfl) _ _ 113 (by rfl) (.slice none 0 0) (.slice A1 i c) v1 W1 (by rfl) (by rfl) (by dsimp only; with_reducible exact R1.out) ?_
    | refine step_append_ran (by rfl) _ _ 113 (by rfl) v1 (.slice A2 (n - i1) (c - i1)) (.slice a' N c') W2 (by rfl) (by rfl) (by dsimp only; with_reducible exact R2.out) ?_)
  all_goals
    go_wp2
    exact bodyPost_end (v := .tuple #[]) (by simp [results, Tryz.results59, go_sem]) rfl (HR.out _ _ rfl rfl)
end Go.Proofs.YtebngmgdciahiaaGreatDoor

namespace Go.Proofs.YtebngmgdciahiaaGreatDoor
open Go.RowKit Dk Nm
attribute [local go_sem ↓] Go.wp_at_zero Go.wp_at_succ
set_option linter.unusedVariables false

/-- The blocks that an operation of the disk at p may write, its row's own block besides. -/
def Mg (p : Nat) (q : Option Nat) (a : Option Addr) : Nat → Prop := fun k => k = p ∨ q = some k ∨ ∃ o, a = some ⟨k, o, none⟩
theorem Mg.of {p : Nat} {q : Option Nat} {a : Option Addr} {k : Nat} (h : Mk p q k) : Mg p q a k := by
  rcases h with h | h
  · exact .inl h
  · exact .inr (.inl h)
theorem Mg.of0 {p : Nat} {q : Option Nat} {a : Option Addr} {k : Nat} (h : Mk p none k) : Mg p q a k := by
  rcases h with h | h
  · exact .inl h
  · cases h
/-- Rows of bytes come from where they were, or are new. -/
def Gw (w : World) (V V' : List Fv) : Prop := ∀ y ∈ V', 0 < y.b.size → ∀ a, y.bv.1 = some a → w.heap.size ≤ a.block ∨ ∃ y0 ∈ V, 0 < y0.b.size ∧ y0.bv.1 = some a
theorem Gw.sub {w : World} {V V' : List Fv} (h : ∀ y ∈ V', y ∈ V) : Gw w V V' := fun y hy k a e => .inr ⟨y, h y hy, k, e⟩
theorem Gw.refl (w : World) (V : List Fv) : Gw w V V := Gw.sub fun _ h => h
theorem Gw.put {w : World} {V W : List Fv} {y : Fv} {j : Nat} (hs : ∀ u ∈ W, u ∈ V) (hy : 0 < y.b.size → ∀ a, y.bv.1 = some a → w.heap.size ≤ a.block ∨ ∃ y0 ∈ V, 0 < y0.b.size ∧ y0.bv.1 = some a) : Gw w V (W.set j y) := fun u hu k a e => by
  rcases List.mem_or_eq_of_mem_set hu with t | t
  · exact .inr ⟨u, hs u t, k, e⟩
  · subst t; exact hy k a e
theorem Gw.ins {w : World} {V W : List Fv} {y : Fv} {j : Nat} (hs : ∀ u ∈ W, u ∈ V) (hy : 0 < y.b.size → ∀ a, y.bv.1 = some a → w.heap.size ≤ a.block ∨ ∃ y0 ∈ V, 0 < y0.b.size ∧ y0.bv.1 = some a) : Gw w V (W.take j ++ [y] ++ W.drop j) := fun u hu k a e => by
  rcases List.mem_append.1 hu with t | t
  · rcases List.mem_append.1 t with t | t
    · exact .inr ⟨u, hs u (List.mem_of_mem_take t), k, e⟩
    · rw [List.mem_singleton] at t
      subst t; exact hy k a e
  · exact .inr ⟨u, hs u (List.mem_of_mem_drop t), k, e⟩
theorem mem_rem {L : List Fv} {i : Nat} {u : Fv} (h : u ∈ L.take i ++ L.drop (i + 1)) : u ∈ L := by
  rcases List.mem_append.1 h with t | t
  · exact List.mem_of_mem_take t
  · exact List.mem_of_mem_drop t
/-- What an operation that answers a number leaves. -/
def OpEnd (p : Nat) (a : Option Addr) (L : List Fv) (q : Option Nat) (d : Int) (s' : St) (z' : Option Fz) (w : World) (e : Ending) (w' : World) : Prop :=
  e = .returned (.int .i64 d) ∧ ∃ a' c' L', DX w' p a' c' L' q s' ∧ Zs w' q z' ∧ Upd (Mg p q a) w w' ∧ (a' = a ∨ ∀ x, a' = some x → w.heap.size ≤ x.block) ∧ Gw w L L'
/-- What Delete answers, and leaves. -/
def delZ (z : Option Fz) (s : St) (x : ByteArray) : Int × St := if (askZ z s [x]).1 ≠ 0 then ((askZ z s [x]).1, (askZ z s [x]).2.2) else if there x s.fs = true then (0, { (askZ z s [x]).2.2 with fs := Dk.cut s.fs (place x s.fs) }) else (6, (askZ z s [x]).2.2)
theorem zs_off {w : World} {p : Nat} {a : Option Addr} {c : Nat} {L : List Fv} {q : Option Nat} {s : St} {z : Option Fz} (h : DX w p a c L q s) (hz : Zs w q z) {k : Nat} (hq : q = some k) : p ≠ k := fun e => by
  subst hq; subst e
  cases z with
  | none => exact absurd hz (by unfold Zs; exact id)
  | some y =>
    unfold Zs at hz
    have := h.o
    dsimp only at hz
    rw [hz] at this
    injection this with this
    injection this with _ this _
    cases this

set_option maxRecDepth 100000 in
set_option maxHeartbeats 4000000 in
theorem delete_any (p : Nat) (a : Option Addr) (c : Nat) (L : List Fv) (q : Option Nat) (s : St) (z : Option Fz) (x : ByteArray) (w : World) (h : DX w p a c L q s) (hz : Zs w q z) (hb : Zb z) (hx : x.size ≤ maxLen) :
    Calls Tryz.prog 65 #[.pointer (some ⟨p, 0, none⟩), .string x] w (OpEnd p a L q (delZ z s x).1 (delZ z s x).2 (askZ z s [x]).2.1 w) := by
  obtain ⟨W, hW⟩ : ∃ W, w.alloc (.cells #[.string x] 9) = W := ⟨_, rfl⟩
  have bW : Below w.heap.size w W := by rw [← hW]; exact (Below.refl _ _).alloc (Nat.le_refl _) _
  have hS : Strs W (some ⟨w.heap.size, 0, none⟩) [x] := by rw [← hW]; exact lit_str w x
  have cA := ask_any p a c L q s z (some ⟨w.heap.size, 0, none⟩) 1 [x] W (h.keep bW) (hz.keep bW) hb hS (by simp)
  have hfs := askZ_fs z s [x]
  have hdl : delZ z s x = delZ z s x := rfl
  conv at hdl => rhs; unfold delZ
  obtain ⟨e0, he0⟩ : ∃ e0, (askZ z s [x]).1 = e0 := ⟨_, rfl⟩
  obtain ⟨s1, hs1⟩ : ∃ s1, (askZ z s [x]).2.2 = s1 := ⟨_, rfl⟩
  obtain ⟨z1, hz1⟩ : ∃ z1, (askZ z s [x]).2.1 = z1 := ⟨_, rfl⟩
  rw [he0, hs1] at hdl
  rw [hs1] at hfs
  rw [hz1]
  obtain ⟨DL, hDL⟩ : ∃ y, delZ z s x = y := ⟨_, rfl⟩
  rw [hDL] at hdl ⊢
  have HDL : Hid (DL = if e0 ≠ 0 then (e0, s1) else if there x s.fs = true then (0, { s1 with fs := Dk.cut s.fs (place x s.fs) }) else (6, s1)) := hdl
  have HBW : Hid (Below w.heap.size w W) := bW
  have cA1 : Calls Tryz.prog 56 #[.pointer (some ⟨p, 0, none⟩), .slice (some ⟨w.heap.size, 0, none⟩) 1 1] W fun e w' => e = .returned (.int .i64 e0) ∧ DX w' p a c L q s1 ∧ Zs w' q z1 ∧ Upd (Mk p q) W w' := by
    refine cA.mono ?_
    rintro e w' ⟨h1, h2, h3, h4⟩
    rw [he0] at h1
    rw [hs1] at h2
    rw [hz1] at h3
    exact ⟨h1, h2, h3, h4⟩
  have HF : Hid (s1.fs = s.fs) := hfs
  have HT : Hid (∀ e w', e = .returned (.int .i64 DL.1) → (∃ a' c' L', DX w' p a' c' L' q DL.2 ∧ Zs w' q z1 ∧ Upd (Mg p q a) w w' ∧ (a' = a ∨ ∀ x, a' = some x → w.heap.size ≤ x.block) ∧ Gw w L L') → OpEnd p a L q DL.1 DL.2 z1 w e w') := fun e w' h1 h2 => ⟨h1, h2⟩
  generalize hPP : OpEnd p a L q DL.1 DL.2 z1 w = PP at *
  clear hPP h hz hb bW hS cA he0 hfs hs1 hz1 hdl hDL
  go_enter Tryz.func65, Tryz.ntmps65
  go_wp2_with fail
  go_at_call 56
  refine cA1.mono ?_
  rintro e w1 ⟨rfl, h1, hz1, u1⟩
  clear cA1 hW
  have HZ1 : Hid (Zs w1 q z1) := hz1
  have HU1 : Hid (Upd (Mg p q a) w w1) := ((Upd.of HBW.out).trans u1).mono fun _ _ k => Mg.of k
  clear hz1 u1
  have HD1 : Hid (DX w1 p a c L q s1) := h1
  by_cases g0 : e0 = 0
  · subst g0
    have cT := at_any p a c L q s1 x w1 h1 hx
    rw [HF.out] at cT
    cases ht : there x s.fs with
    | false =>
      rw [ht] at cT
      have HE : Hid (DL = (6, s1)) := by unfold Hid; rw [HDL.out, if_neg (fun k => k rfl), if_neg (by rw [ht]; decide)]
      clear ht h1
      go_wp2_with fail
      go_at_call 57
      refine cT.mono ?_
      rintro e w2 ⟨rfl, n2, rfl⟩
      clear cT
      go_wp2
      exact HT.out _ _ (by rw [HE.out] <;> rfl) ⟨a, c, L, by rw [HE.out]; exact HD1.out.drewN n2, HZ1.out.keep (bdn' _ _), HU1.out.drewN n2, .inl rfl, Gw.refl _ _⟩
    | true =>
      rw [ht] at cT
      have hlt := there_lt ht
      have HE : Hid (DL = (0, { s1 with fs := Dk.cut s.fs (place x s.fs) })) := by unfold Hid; rw [HDL.out, if_neg (fun k => k rfl), if_pos ht]
      have hfl : s.fs = L.map fl := by rw [← HF.out]; exact h1.f
      obtain ⟨j, hj⟩ : ∃ j, place x s.fs = j := ⟨_, rfl⟩
      rw [hj] at cT hlt HE
      have hjL : j < L.length := by rw [hfl, List.length_map] at hlt; exact hlt
      have cR : ∀ n, Calls Tryz.prog 59 #[.pointer (some ⟨p, 0, none⟩), .int .i64 (j : Int)] (w1.drewN n) (RemEnd p L q s1 j (w1.drewN n)) := fun n => remove_any p a c L q s1 j (w1.drewN n) (HD1.out.drewN n) hjL
      clear ht h1 hfl hj hlt hjL
      go_wp2_with fail
      go_at_call 57
      refine cT.mono ?_
      rintro e w2 ⟨rfl, n2, rfl⟩
      clear cT
      have cR := cR n2
      go_wp2_with fail
      go_at_call 59
      refine cR.mono ?_
      rintro e w3 ⟨rfl, a', c', hd3, u3, f3⟩
      have HN : Hid (∃ a' c' L', DX w3 p a' c' L' q DL.2 ∧ Zs w3 q z1 ∧ Upd (Mg p q a) w w3 ∧ (a' = a ∨ ∀ x, a' = some x → w.heap.size ≤ x.block) ∧ Gw w L L') := by
        refine ⟨a', c', _, by rw [HE.out]; rw [← HF.out]; exact hd3, ?_, (HU1.out.drewN n2).trans (u3.mono fun _ _ k => Mg.of0 k), .inr (fun y e => Nat.le_trans HU1.out.size (f3 y e)), Gw.sub fun u hu => mem_rem hu⟩
        cases hq : q with
        | none =>
          have := HZ1.out
          rw [hq] at this
          cases z1 with
          | none => trivial
          | some y => exact absurd this (by unfold Zs; exact id)
        | some k =>
          have hz := HZ1.out
          rw [hq] at hz
          exact (show Zs (w1.drewN n2) (some k) z1 from hz.keep (bdn' _ _)).upd u3 (zs_off HD1.out HZ1.out hq)
      clear cR hd3 u3 f3
      go_wp2
      exact HT.out _ _ (by rw [HE.out] <;> rfl) HN.out
  · have g1 : (e0 == 0) = false := by simpa using g0
    have HE : Hid (DL = (e0, s1)) := by unfold Hid; rw [HDL.out, if_pos g0]
    clear h1
    go_wp2
    exact HT.out _ _ (by rw [HE.out] <;> rfl) ⟨a, c, L, by rw [HE.out]; exact HD1.out, HZ1.out, HU1.out, .inl rfl, Gw.refl _ _⟩
end Go.Proofs.YtebngmgdciahiaaGreatDoor
