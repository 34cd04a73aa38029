/-
  Files in memory: rows of them that are appended to, cut.
-/
import Derived.Test.YthkhkijdehbbmaaByt
import Derived.Test.YthkhkijdehbbmaaDkM
set_option maxRecDepth 100000
namespace Go.Proofs.Ythkhkijdehbbmaa
open Go.RowKit
attribute [local go_sem ↓] Go.wp_at_zero Go.wp_at_succ
set_option linter.unusedVariables false

/-- A file in memory; b: what its row of bytes holds. -/
structure Fv where
  path : ByteArray
  bv : Option Addr × Nat × Nat
  sure : Bool
  b : ByteArray
  deriving Inhabited
def cellsF (e : Fv) : List Value := [.string e.path, .slice e.bv.1 e.bv.2.1 e.bv.2.2, .bool e.sure]
/-- It as a value. -/
def fv (e : Fv) : Value := .agg #[.string e.path, .slice e.bv.1 e.bv.2.1 e.bv.2.2, .bool e.sure]
theorem cellsF_length (e : Fv) : (cellsF e).length = 3 := rfl
theorem cellsF_one (e : Fv) : ∀ u ∈ cellsF e, u.oneCell' = true := by
  intro u h
  unfold cellsF at h
  simp at h
  rcases h with rfl | rfl | rfl <;> rfl
/-- Its cells. -/
structure FAt (w : World) (b o : Nat) (e : Fv) : Prop where
  c0 : w.cell? ⟨b, o, none⟩ = some (.string e.path)
  c1 : w.cell? ⟨b, o + 1, none⟩ = some (.slice e.bv.1 e.bv.2.1 e.bv.2.2)
  c2 : w.cell? ⟨b, o + 2, none⟩ = some (.bool e.sure)
theorem FAt.keep {w w' : World} {b o : Nat} {e : Fv} (h : FAt w b o e) (hb : Below w.heap.size w w') : FAt w' b o e :=
  ⟨(hb.cell (p := ⟨b, o, none⟩) (block_lt_of_cell h.c0)).trans h.c0, (hb.cell (p := ⟨b, o + 1, none⟩) (block_lt_of_cell h.c1)).trans h.c1, (hb.cell (p := ⟨b, o + 2, none⟩) (block_lt_of_cell h.c2)).trans h.c2⟩
/-- A slice that begins at a holds in w the row L. -/
def Fs (w : World) (a : Option Addr) (L : List Fv) : Prop := 0 < L.length → ∃ b o, a = some ⟨b, o, none⟩ ∧ ∀ i, i < L.length → FAt w b (o + i * 3) L[i]!
theorem Fs.keep {w w' : World} {a : Option Addr} {L : List Fv} (h : Fs w a L) (hb : Below w.heap.size w w') : Fs w' a L := fun hn => by
  obtain ⟨b, o, e, hc⟩ := h hn
  exact ⟨b, o, e, fun i hi => (hc i hi).keep hb⟩
theorem Fs.nil (w : World) (a : Option Addr) : Fs w a [] := fun h => absurd h (Nat.lt_irrefl _)
/-- The cells of the row. -/
def fcs (L : List Fv) : List Value := L.flatMap cellsF
theorem fcs_length (L : List Fv) : (fcs L).length = L.length * 3 := by
  induction L with
  | nil => rfl
  | cons e L ih => unfold fcs at *; rw [List.flatMap_cons, List.length_append, ih, cellsF_length, List.length_cons]; omega
theorem fcs_append (L M : List Fv) : fcs (L ++ M) = fcs L ++ fcs M := List.flatMap_append
theorem fcs_at (L : List Fv) (i : Nat) (hi : i < L.length) (r : Nat) (hr : r < 3) : (fcs L)[i * 3 + r]? = (cellsF L[i]!)[r]? := by
  induction L generalizing i with
  | nil => simp at hi
  | cons e L ih =>
    show (cellsF e ++ fcs L)[i * 3 + r]? = _
    cases i with
    | zero => rw [List.getElem?_append_left (by rw [cellsF_length]; omega)]; simp
    | succ i =>
      rw [List.getElem?_append_right (by rw [cellsF_length]; omega), cellsF_length, show (i + 1) * 3 + r - 3 = i * 3 + r by omega, ih i (by simpa using hi)]
      simp
theorem fcs_one {L : List Fv} : ∀ u ∈ fcs L, u.oneCell' = true := by
  intro u hu
  obtain ⟨e, _, h⟩ := List.mem_flatMap.1 hu
  exact cellsF_one e u h
theorem fcs_ext {X : List Value} {L : List Fv} (hl : X.length = L.length * 3) (h : ∀ i, i < L.length → ∀ r, r < 3 → X[i * 3 + r]? = (cellsF L[i]!)[r]?) : X = fcs L := by
  apply List.ext_getElem?
  intro j
  by_cases hj : j < L.length * 3
  · have e : j = j / 3 * 3 + j % 3 := by omega
    rw [e, h (j / 3) (by omega) (j % 3) (by omega), fcs_at L (j / 3) (by omega) (j % 3) (by omega)]
  · rw [List.getElem?_eq_none (by omega), List.getElem?_eq_none (by rw [fcs_length]; omega)]
theorem FAt.cells {w : World} {b o : Nat} {L : List Fv} (h : ∀ i, i < L.length → FAt w b (o + i * 3) L[i]!) (j : Nat) (u : Value) (hu : (fcs L)[j]? = some u) : w.cell? ⟨b, o + j, none⟩ = some u := by
  have hj : j < L.length * 3 := by rw [← fcs_length L]; exact (List.getElem?_eq_some_iff.1 hu).1
  obtain ⟨i, r, e, hi, hr⟩ : ∃ i r, j = i * 3 + r ∧ i < L.length ∧ r < 3 := ⟨j / 3, j % 3, by omega, by omega, by omega⟩
  subst e
  rw [fcs_at L i hi r hr] at hu
  obtain ⟨c0, c1, c2⟩ := h i hi
  rw [show o + (i * 3 + r) = o + i * 3 + r by omega, ← hu]
  match r, hr with
  | 0, _ => exact c0
  | 1, _ => exact c1
  | 2, _ => exact c2
theorem infoF : (Try.prog.info? 95).map (fun i => (i.zero, i.size, i.bytes)) = some (some (.agg #[.string ⟨#[]⟩, .slice none 0 0, .bool false]), 3, 48) := by kernel_rfl
/-- A row of one's own. -/
def FOwn (w : World) (base : Nat) (v : Value) (L : List Fv) : Prop := w.ownsRow base 95 3 v L.length (fcs L)
theorem FOwn.start (w : World) (base : Nat) : FOwn w base (.slice none 0 0) [] := ⟨rfl, .inl ⟨rfl, rfl⟩⟩
theorem FOwn.keep {w w' : World} {base : Nat} {v : Value} {L : List Fv} (h : FOwn w base v L) (hb : Below w.heap.size w w') : FOwn w' base v L := by
  rcases h with ⟨hl, e | ⟨g, cap, cur, e, hg, hh, hr⟩⟩
  · exact ⟨hl, .inl e⟩
  · refine ⟨hl, .inr ⟨g, cap, cur, e, hg, ?_, hr⟩⟩
    have hlt : g < w.heap.size := (Array.getElem?_eq_some_iff.1 hh).1
    rw [hb.block g hlt]; exact hh
theorem FOwn.mono {w : World} {b b' : Nat} {v : Value} {L : List Fv} (h : FOwn w b v L) (hb : b' ≤ b) : FOwn w b' v L := by
  rcases h with ⟨hl, e | ⟨g, cap, cur, e, hg, hh, hr⟩⟩
  · exact ⟨hl, .inl e⟩
  · exact ⟨hl, .inr ⟨g, cap, cur, e, by omega, hh, hr⟩⟩
theorem fat_of_row {w : World} {g n : Nat} {cur : Array Value} {L : List Fv} (hh : w.heap[g]? = some (.cells cur 95 (0, 0))) (e : cur.toList.take (n * 3) = fcs L) (hn : L.length ≤ n) {i : Nat} (hi : i < L.length) : FAt w g (i * 3) L[i]! := by
  have hc : ∀ r, r < 3 → w.cell? ⟨g, i * 3 + r, none⟩ = (cellsF L[i]!)[r]? := fun r hr => by
    rw [cell_of_row w g _ cur _ _ hh, ← fcs_at L i hi r hr, ← e, List.getElem?_take, if_pos (by omega), Array.getElem?_toList]
  exact ⟨hc 0 (by omega), hc 1 (by omega), hc 2 (by omega)⟩
/-- What a row of one's own is as a slice. -/
theorem FOwn.row {w : World} {base : Nat} {v : Value} {L : List Fv} (h : FOwn w base v L) :
    ∃ a c, v = .slice a L.length c ∧ Fs w a L ∧ (a = none → L.length = 0 ∧ c = 0) ∧ L.length ≤ c ∧ c ≤ maxLen := by
  rcases h.2 with ⟨rfl, e0⟩ | ⟨g, cap, cur, rfl, hg, hh, hnc, hm, hsz, ht⟩
  · have : L = [] := List.length_eq_zero_iff.1 e0
    subst this
    exact ⟨none, 0, rfl, Fs.nil _ _, fun _ => ⟨rfl, rfl⟩, Nat.le_refl _, by unfold maxLen; omega⟩
  · exact ⟨some ⟨g, 0, none⟩, cap, rfl, fun _ => ⟨g, 0, rfl, fun i hi => by rw [Nat.zero_add]; exact fat_of_row hh ht (Nat.le_refl _) hi⟩, (fun e => by cases e), hnc, hm⟩
/-- Any row behind one's own. -/
theorem appendF {w : World} {base c : Nat} {v : Value} {L M : List Fv} {a : Option Addr} (h : FOwn w base v L) (r : Fs w a M) (z : a = none → M.length = 0 ∧ c = 0) (hl : L.length + M.length ≤ 1000000) (hb : base ≤ w.heap.size) :
    ∃ v' W, Sem.run Try.prog (Builtin.append_ #[82, 82] 82 #[v, .slice a M.length c]) w = .ok v' W ∧ FOwn W base v' (L ++ M) ∧ w.grownBy W v.ownBlock ∧ Below base w W := by
  obtain ⟨i, hi, hzz⟩ := Option.map_eq_some_iff.1 infoF
  simp only [Prod.mk.injEq] at hzz
  obtain ⟨hz, hs, hby⟩ := hzz
  cases a with
  | none =>
    obtain ⟨e0, rfl⟩ := z rfl
    have : M = [] := List.length_eq_zero_iff.1 e0
    subst this
    have hr := run_append_owned_none (P := Try.prog) w base 82 82 95 i 3 Try.underlying82 hi v L.length (fcs L) h
    refine ⟨v, w, hr, by rw [List.append_nil]; exact h, ?_, Below.refl _ _⟩
    exact ⟨rfl, rfl, rfl, Nat.le_refl _, fun _ _ _ => rfl⟩
  | some x =>
    have hc : ∀ j u, (fcs M)[j]? = some u → w.cell? (x.add j) = some u := fun j u hu => by
      have hj : j < M.length * 3 := by rw [← fcs_length M]; exact (List.getElem?_eq_some_iff.1 hu).1
      obtain ⟨b, o, e, hv⟩ := r (by omega)
      injection e with e
      subst e
      rw [add_plain]; exact FAt.cells hv j u hu
    obtain ⟨v', W, hr, hown, hg, _⟩ := run_append_own (P := Try.prog) w base 82 82 95 i (.agg #[.string ⟨#[]⟩, .slice none 0 0, .bool false]) 3 48 Try.underlying82 hi hz hs hby rfl (by omega) v L.length (fcs L) h x M.length c (fcs M) (by rw [fcs_length]) hc fcs_one (by unfold maxLen; omega) (by omega) hb
    rw [← fcs_append, ← List.length_append] at hown
    exact ⟨v', W, hr, hown, hg, (Below.refl base w).grown hg hb fun k hk => (h.lt k hk).1⟩
/-- A slice of it. -/
theorem sliceF_l (a : Option Addr) (n c t : Nat) (ht : t ≤ n) (hc : n ≤ c) (w' : World) :
    Sem.run Try.prog (Instr.slice 82 (.slice a n c) (some (.int .i64 (t : Int))) none none) w' = .ok (.slice (if c = t then a else a.map (·.add (t * 3))) (n - t) (c - t)) w' := by
  rw [run_slice_l w' 82 a n c Try.underlying82 .i64 (t : Int) (by omega) (by omega)]
  have e : (sizeOf (Try.prog.elem 82)).run Try.prog w' = .ok 3 w' := by kernel_rfl
  rw [e]
  show Result.ok (sliced a _ _ c 3) w' = _
  unfold sliced
  rw [show ((t : Int)).toNat = t by omega]
theorem sliceF_h (a : Option Addr) (n c m : Nat) (hm : m ≤ n) (hc : n ≤ c) (w' : World) :
    Sem.run Try.prog (Instr.slice 82 (.slice a n c) none (some (.int .i64 (m : Int))) none) w' = .ok (.slice (if c = 0 then a else a.map (·.add (0 * 3))) m c) w' := by
  rw [run_slice_h w' 82 a n c Try.underlying82 .i64 (m : Int) (by omega) (by omega)]
  have e : (sizeOf (Try.prog.elem 82)).run Try.prog w' = .ok 3 w' := by kernel_rfl
  rw [e]
  show Result.ok (sliced a _ _ c 3) w' = _
  unfold sliced
  rw [show ((m : Int)).toNat = m by omega, Nat.sub_zero, Nat.sub_zero]
/-- The slices of a row, as letters: the first m, those from t on. -/
theorem Fs.first {w : World} {a : Option Addr} {c m : Nat} {L : List Fv} (h : Fs w a L) (z : a = none → L.length = 0 ∧ c = 0) (hm : m ≤ L.length) (hc : L.length ≤ c) :
    ∃ A, (∀ w', Sem.run Try.prog (Instr.slice 82 (.slice a L.length c) none (some (.int .i64 (m : Int))) none) w' = .ok (.slice A m c) w') ∧ Fs w A (L.take m) ∧ (A = none → m = 0 ∧ c = 0) := by
  refine ⟨_, fun w' => sliceF_h a L.length c m hm hc w', fun h0 => ?_, fun e => ?_⟩
  · rw [List.length_take, Nat.min_eq_left hm] at h0
    obtain ⟨b, o, rfl, hv⟩ := h (by omega)
    refine ⟨b, o, ?_, fun i hi => ?_⟩
    · rw [if_neg (by omega)]; simp [add_plain]
    · rw [List.length_take, Nat.min_eq_left hm] at hi
      have := hv i (by omega)
      rw [getElem!_pos _ i (by rw [List.length_take]; omega), List.getElem_take, ← getElem!_pos L i (by omega)]
      exact this
  · by_cases q : c = 0
    · rw [if_pos q] at e; have := z e; omega
    · rw [if_neg q] at e
      cases a with
      | none => have := z rfl; omega
      | some x => cases e
theorem Fs.rest {w : World} {a : Option Addr} {c t : Nat} {L : List Fv} (h : Fs w a L) (z : a = none → L.length = 0 ∧ c = 0) (ht : t ≤ L.length) (hc : L.length ≤ c) :
    ∃ A, (∀ w', Sem.run Try.prog (Instr.slice 82 (.slice a L.length c) (some (.int .i64 (t : Int))) none none) w' = .ok (.slice A (L.length - t) (c - t)) w') ∧ Fs w A (L.drop t) ∧ (A = none → L.length - t = 0 ∧ c - t = 0) := by
  refine ⟨_, fun w' => sliceF_l a L.length c t ht hc w', fun h0 => ?_, fun e => ?_⟩
  · rw [List.length_drop] at h0
    obtain ⟨b, o, rfl, hv⟩ := h (by omega)
    refine ⟨b, o + t * 3, ?_, fun i hi => ?_⟩
    · rw [if_neg (by omega)]; simp [add_plain]
    · rw [List.length_drop] at hi
      have := hv (t + i) (by omega)
      rw [getElem!_pos _ i (by rw [List.length_drop]; omega), List.getElem_drop, ← getElem!_pos L (t + i) (by omega), show o + t * 3 + i * 3 = o + (t + i) * 3 by rw [Nat.add_mul]; omega]
      exact this
  · by_cases q : c = t
    · omega
    · rw [if_neg q] at e
      cases a with
      | none => have := z rfl; omega
      | some x => cases e
theorem litF (w : World) (e : Fv) : Fs (w.alloc (.cells #[.string e.path, .slice e.bv.1 e.bv.2.1 e.bv.2.2, .bool e.sure] 95)) (some ⟨w.heap.size, 0, none⟩) [e] := fun _ => ⟨_, 0, rfl, fun i hi => by
  have : i = 0 := by simp at hi; omega
  subst this
  exact ⟨by rw [World.cell?_alloc_new]; rfl, by rw [World.cell?_alloc_new]; rfl, by rw [World.cell?_alloc_new]; rfl⟩⟩
end Go.Proofs.Ythkhkijdehbbmaa
