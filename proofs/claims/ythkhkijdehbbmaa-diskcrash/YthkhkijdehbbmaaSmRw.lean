/-
  Rows of rows of bytes of one's own: appended to, stored in.
-/
import Derived.Test.YthkhkijdehbbmaaSmMg
set_option maxRecDepth 100000
namespace Go.Proofs.Ythkhkijdehbbmaa
open Go.RowKit
open _root_.Go.Proofs.Ythkhkijdehbbmaa.Nm _root_.Go.Proofs.Ythkhkijdehbbmaa.Dk
attribute [local go_sem ↓] Go.wp_at_zero Go.wp_at_succ
set_option linter.unusedVariables false

/-- A row of bytes in memory; b: what it holds. -/
structure Yv where
  v : Option Addr × Nat × Nat
  b : ByteArray
  deriving Inhabited
def cellsY (e : Yv) : List Value := [.slice e.v.1 e.v.2.1 e.v.2.2]
/-- It as a value. -/
def yv (e : Yv) : Value := .agg #[.slice e.v.1 e.v.2.1 e.v.2.2]
theorem cellsY_length (e : Yv) : (cellsY e).length = 1 := rfl
theorem cellsY_one (e : Yv) : ∀ u ∈ cellsY e, u.oneCell' = true := by
  intro u h
  unfold cellsY at h
  simp at h
  rcases h with rfl <;> rfl
/-- Its cells. -/
structure YAt (w : World) (b o : Nat) (e : Yv) : Prop where
  c0 : w.cell? ⟨b, o, none⟩ = some (.slice e.v.1 e.v.2.1 e.v.2.2)
theorem YAt.keep {w w' : World} {b o : Nat} {e : Yv} (h : YAt w b o e) (hb : Below w.heap.size w w') : YAt w' b o e :=
  ⟨(hb.cell (p := ⟨b, o, none⟩) (block_lt_of_cell h.c0)).trans h.c0⟩
/-- A slice that begins at a holds in w the row L. -/
def Ys (w : World) (a : Option Addr) (L : List Yv) : Prop := 0 < L.length → ∃ b o, a = some ⟨b, o, none⟩ ∧ ∀ i, i < L.length → YAt w b (o + i * 1) L[i]!
theorem Ys.keep {w w' : World} {a : Option Addr} {L : List Yv} (h : Ys w a L) (hb : Below w.heap.size w w') : Ys w' a L := fun hn => by
  obtain ⟨b, o, e, hc⟩ := h hn
  exact ⟨b, o, e, fun i hi => (hc i hi).keep hb⟩
theorem Ys.nil (w : World) (a : Option Addr) : Ys w a [] := fun h => absurd h (Nat.lt_irrefl _)
/-- The cells of the row. -/
def ycs (L : List Yv) : List Value := L.flatMap cellsY
theorem ycs_length (L : List Yv) : (ycs L).length = L.length * 1 := by
  induction L with
  | nil => rfl
  | cons e L ih => unfold ycs at *; rw [List.flatMap_cons, List.length_append, ih, cellsY_length, List.length_cons]; omega
theorem ycs_append (L M : List Yv) : ycs (L ++ M) = ycs L ++ ycs M := List.flatMap_append
theorem ycs_at (L : List Yv) (i : Nat) (hi : i < L.length) (r : Nat) (hr : r < 1) : (ycs L)[i * 1 + r]? = (cellsY L[i]!)[r]? := by
  induction L generalizing i with
  | nil => simp at hi
  | cons e L ih =>
    show (cellsY e ++ ycs L)[i * 1 + r]? = _
    cases i with
    | zero => rw [List.getElem?_append_left (by rw [cellsY_length]; omega)]; simp
    | succ i =>
      rw [List.getElem?_append_right (by rw [cellsY_length]; omega), cellsY_length, show (i + 1) * 1 + r - 1 = i * 1 + r by omega, ih i (by simpa using hi)]
      simp
theorem ycs_one {L : List Yv} : ∀ u ∈ ycs L, u.oneCell' = true := by
  intro u hu
  obtain ⟨e, _, h⟩ := List.mem_flatMap.1 hu
  exact cellsY_one e u h
theorem ycs_ext {X : List Value} {L : List Yv} (hl : X.length = L.length * 1) (h : ∀ i, i < L.length → ∀ r, r < 1 → X[i * 1 + r]? = (cellsY L[i]!)[r]?) : X = ycs L := by
  apply List.ext_getElem?
  intro j
  by_cases hj : j < L.length * 1
  · have e : j = j / 1 * 1 + j % 1 := by omega
    rw [e, h (j / 1) (by omega) (j % 1) (by omega), ycs_at L (j / 1) (by omega) (j % 1) (by omega)]
  · rw [List.getElem?_eq_none (by omega), List.getElem?_eq_none (by rw [ycs_length]; omega)]
theorem YAt.cells {w : World} {b o : Nat} {L : List Yv} (h : ∀ i, i < L.length → YAt w b (o + i * 1) L[i]!) (j : Nat) (u : Value) (hu : (ycs L)[j]? = some u) : w.cell? ⟨b, o + j, none⟩ = some u := by
  have hj : j < L.length * 1 := by rw [← ycs_length L]; exact (List.getElem?_eq_some_iff.1 hu).1
  obtain ⟨i, r, e, hi, hr⟩ : ∃ i r, j = i * 1 + r ∧ i < L.length ∧ r < 1 := ⟨j / 1, j % 1, by omega, by omega, by omega⟩
  subst e
  rw [ycs_at L i hi r hr] at hu
  obtain ⟨c0⟩ := h i hi
  rw [show o + (i * 1 + r) = o + i * 1 + r by omega, ← hu]
  match r, hr with
  | 0, _ => exact c0
theorem infoY : (Try.prog.info? 29).map (fun i => (i.zero, i.size, i.bytes)) = some (some (.slice none 0 0), 1, 24) := by kernel_rfl
/-- A row of one's own. -/
def YOwn (w : World) (base : Nat) (v : Value) (L : List Yv) : Prop := w.ownsRow base 29 1 v L.length (ycs L)
theorem YOwn.start (w : World) (base : Nat) : YOwn w base (.slice none 0 0) [] := ⟨rfl, .inl ⟨rfl, rfl⟩⟩
theorem YOwn.keep {w w' : World} {base : Nat} {v : Value} {L : List Yv} (h : YOwn w base v L) (hb : Below w.heap.size w w') : YOwn w' base v L := by
  rcases h with ⟨hl, e | ⟨g, cap, cur, e, hg, hh, hr⟩⟩
  · exact ⟨hl, .inl e⟩
  · refine ⟨hl, .inr ⟨g, cap, cur, e, hg, ?_, hr⟩⟩
    have hlt : g < w.heap.size := (Array.getElem?_eq_some_iff.1 hh).1
    rw [hb.block g hlt]; exact hh
theorem YOwn.mono {w : World} {b b' : Nat} {v : Value} {L : List Yv} (h : YOwn w b v L) (hb : b' ≤ b) : YOwn w b' v L := by
  rcases h with ⟨hl, e | ⟨g, cap, cur, e, hg, hh, hr⟩⟩
  · exact ⟨hl, .inl e⟩
  · exact ⟨hl, .inr ⟨g, cap, cur, e, by omega, hh, hr⟩⟩
theorem yat_of_row {w : World} {g n : Nat} {cur : Array Value} {L : List Yv} (hh : w.heap[g]? = some (.cells cur 29 (0, 0))) (e : cur.toList.take (n * 1) = ycs L) (hn : L.length ≤ n) {i : Nat} (hi : i < L.length) : YAt w g (i * 1) L[i]! := by
  have hc : ∀ r, r < 1 → w.cell? ⟨g, i * 1 + r, none⟩ = (cellsY L[i]!)[r]? := fun r hr => by
    rw [cell_of_row w g _ cur _ _ hh, ← ycs_at L i hi r hr, ← e, List.getElem?_take, if_pos (by omega), Array.getElem?_toList]
  exact ⟨hc 0 (by omega)⟩
/-- What a row of one's own is as a slice. -/
theorem YOwn.row {w : World} {base : Nat} {v : Value} {L : List Yv} (h : YOwn w base v L) :
    ∃ a c, v = .slice a L.length c ∧ Ys w a L ∧ (a = none → L.length = 0 ∧ c = 0) ∧ L.length ≤ c ∧ c ≤ maxLen := by
  rcases h.2 with ⟨rfl, e0⟩ | ⟨g, cap, cur, rfl, hg, hh, hnc, hm, hsz, ht⟩
  · have : L = [] := List.length_eq_zero_iff.1 e0
    subst this
    exact ⟨none, 0, rfl, Ys.nil _ _, fun _ => ⟨rfl, rfl⟩, Nat.le_refl _, by unfold maxLen; omega⟩
  · exact ⟨some ⟨g, 0, none⟩, cap, rfl, fun _ => ⟨g, 0, rfl, fun i hi => by rw [Nat.zero_add]; exact yat_of_row hh ht (Nat.le_refl _) hi⟩, (fun e => by cases e), hnc, hm⟩
/-- Any row behind one's own. -/
theorem appendY {w : World} {base c : Nat} {v : Value} {L M : List Yv} {a : Option Addr} (h : YOwn w base v L) (r : Ys w a M) (z : a = none → M.length = 0 ∧ c = 0) (hl : L.length + M.length ≤ 1000000) (hb : base ≤ w.heap.size) :
    ∃ v' W, Sem.run Try.prog (Builtin.append_ #[65, 65] 65 #[v, .slice a M.length c]) w = .ok v' W ∧ YOwn W base v' (L ++ M) ∧ w.grownBy W v.ownBlock ∧ Below base w W := by
  obtain ⟨i, hi, hzz⟩ := Option.map_eq_some_iff.1 infoY
  simp only [Prod.mk.injEq] at hzz
  obtain ⟨hz, hs, hby⟩ := hzz
  cases a with
  | none =>
    obtain ⟨e0, rfl⟩ := z rfl
    have : M = [] := List.length_eq_zero_iff.1 e0
    subst this
    have hr := run_append_owned_none (P := Try.prog) w base 65 65 29 i 1 Try.underlying65 hi v L.length (ycs L) h
    refine ⟨v, w, hr, by rw [List.append_nil]; exact h, ?_, Below.refl _ _⟩
    exact ⟨rfl, rfl, rfl, Nat.le_refl _, fun _ _ _ => rfl⟩
  | some x =>
    have hc : ∀ j u, (ycs M)[j]? = some u → w.cell? (x.add j) = some u := fun j u hu => by
      have hj : j < M.length * 1 := by rw [← ycs_length M]; exact (List.getElem?_eq_some_iff.1 hu).1
      obtain ⟨b, o, e, hv⟩ := r (by omega)
      injection e with e
      subst e
      rw [add_plain]; exact YAt.cells hv j u hu
    obtain ⟨v', W, hr, hown, hg, _⟩ := run_append_own (P := Try.prog) w base 65 65 29 i (.slice none 0 0) 1 24 Try.underlying65 hi hz hs hby rfl (by omega) v L.length (ycs L) h x M.length c (ycs M) (by rw [ycs_length]) hc ycs_one (by unfold maxLen; omega) (by omega) hb
    rw [← ycs_append, ← List.length_append] at hown
    exact ⟨v', W, hr, hown, hg, (Below.refl base w).grown hg hb fun k hk => (h.lt k hk).1⟩
/-- A slice of it. -/
theorem sliceY_l (a : Option Addr) (n c t : Nat) (ht : t ≤ n) (hc : n ≤ c) (w' : World) :
    Sem.run Try.prog (Instr.slice 65 (.slice a n c) (some (.int .i64 (t : Int))) none none) w' = .ok (.slice (if c = t then a else a.map (·.add (t * 1))) (n - t) (c - t)) w' := by
  rw [run_slice_l w' 65 a n c Try.underlying65 .i64 (t : Int) (by omega) (by omega)]
  have e : (sizeOf (Try.prog.elem 65)).run Try.prog w' = .ok 1 w' := by kernel_rfl
  rw [e]
  show Result.ok (sliced a _ _ c 1) w' = _
  unfold sliced
  rw [show ((t : Int)).toNat = t by omega]
theorem sliceY_h (a : Option Addr) (n c m : Nat) (hm : m ≤ n) (hc : n ≤ c) (w' : World) :
    Sem.run Try.prog (Instr.slice 65 (.slice a n c) none (some (.int .i64 (m : Int))) none) w' = .ok (.slice (if c = 0 then a else a.map (·.add (0 * 1))) m c) w' := by
  rw [run_slice_h w' 65 a n c Try.underlying65 .i64 (m : Int) (by omega) (by omega)]
  have e : (sizeOf (Try.prog.elem 65)).run Try.prog w' = .ok 1 w' := by kernel_rfl
  rw [e]
  show Result.ok (sliced a _ _ c 1) w' = _
  unfold sliced
  rw [show ((m : Int)).toNat = m by omega, Nat.sub_zero, Nat.sub_zero]
/-- The slices of a row, as letters: the first m, those from t on. -/
theorem Ys.first {w : World} {a : Option Addr} {c m : Nat} {L : List Yv} (h : Ys w a L) (z : a = none → L.length = 0 ∧ c = 0) (hm : m ≤ L.length) (hc : L.length ≤ c) :
    ∃ A, (∀ w', Sem.run Try.prog (Instr.slice 65 (.slice a L.length c) none (some (.int .i64 (m : Int))) none) w' = .ok (.slice A m c) w') ∧ Ys w A (L.take m) ∧ (A = none → m = 0 ∧ c = 0) := by
  refine ⟨_, fun w' => sliceY_h a L.length c m hm hc w', fun h0 => ?_, fun e => ?_⟩
  · rw [List.length_take, Nat.min_eq_left hm] at h0
    obtain ⟨b, o, rfl, hv⟩ := h (by omega)
    refine ⟨b, o, ?_, fun i hi => ?_⟩
    · rw [if_neg (by omega)]; simp [add_plain]
    · rw [List.length_take, Nat.min_eq_left hm] at hi
      have := hv i (by omega)
      rw [getElem!_pos _ i (by rw [List.length_take]; omega), List.getElem_take, ← getElem!_pos L i (by omega)]
      exact this
  · by_cases q : c = 0
    · rw [if_pos q] at e; have := z e; omega
    · rw [if_neg q] at e
      cases a with
      | none => have := z rfl; omega
      | some x => cases e
theorem Ys.rest {w : World} {a : Option Addr} {c t : Nat} {L : List Yv} (h : Ys w a L) (z : a = none → L.length = 0 ∧ c = 0) (ht : t ≤ L.length) (hc : L.length ≤ c) :
    ∃ A, (∀ w', Sem.run Try.prog (Instr.slice 65 (.slice a L.length c) (some (.int .i64 (t : Int))) none none) w' = .ok (.slice A (L.length - t) (c - t)) w') ∧ Ys w A (L.drop t) ∧ (A = none → L.length - t = 0 ∧ c - t = 0) := by
  refine ⟨_, fun w' => sliceY_l a L.length c t ht hc w', fun h0 => ?_, fun e => ?_⟩
  · rw [List.length_drop] at h0
    obtain ⟨b, o, rfl, hv⟩ := h (by omega)
    refine ⟨b, o + t * 1, ?_, fun i hi => ?_⟩
    · rw [if_neg (by omega)]; simp [add_plain]
    · rw [List.length_drop] at hi
      have := hv (t + i) (by omega)
      rw [getElem!_pos _ i (by rw [List.length_drop]; omega), List.getElem_drop, ← getElem!_pos L (t + i) (by omega), show o + t * 1 + i * 1 = o + (t + i) * 1 by rw [Nat.add_mul]; omega]
      exact this
  · by_cases q : c = t
    · omega
    · rw [if_neg q] at e
      cases a with
      | none => have := z rfl; omega
      | some x => cases e
theorem litY (w : World) (e : Yv) : Ys (w.alloc (.cells #[.slice e.v.1 e.v.2.1 e.v.2.2] 29)) (some ⟨w.heap.size, 0, none⟩) [e] := fun _ => ⟨_, 0, rfl, fun i hi => by
  have : i = 0 := by simp at hi; omega
  subst this
  exact ⟨by rw [World.cell?_alloc_new]; rfl⟩⟩

theorem YOwn.put {w : World} {base g c j : Nat} {L : List Yv} (h : YOwn w base (.slice (some ⟨g, 0, none⟩) L.length c) L) (hj : j < L.length) (y : Yv) :
    YOwn (w.setCell ⟨g, j, none⟩ (.slice y.v.1 y.v.2.1 y.v.2.2)) base (.slice (some ⟨g, 0, none⟩) L.length c) (L.set j y) := by
  rcases h with ⟨hl, ⟨e, _⟩ | ⟨g', cap, cur, e, hg, hh, hnc, hm, hs, ht⟩⟩
  · cases e
  · injection e with e1 e2 e3
    injection e1 with e1
    injection e1 with e1
    subst e1; subst e3
    have h1 := heap_setCell_same w g j _ _ (.slice y.v.1 y.v.2.1 y.v.2.2) hh
    refine ⟨ycs_length _, .inr ⟨g, c, _, by rw [List.length_set], hg, h1, by rw [List.length_set]; exact hnc, hm, by simp only [Array.size_setIfInBounds]; exact hs, ?_⟩⟩
    have hcl : cur.toList.length = c * 1 := by rw [Array.length_toList]; exact hs
    refine ycs_ext ?_ fun i hi r hr => ?_
    · simp only [List.length_take, Array.toList_setIfInBounds, List.length_set, hcl]; omega
    · rw [List.length_set] at hi
      rw [List.getElem?_take, List.length_set, if_pos (by omega)]
      simp only [Array.toList_setIfInBounds, List.getElem?_set, hcl]
      have hcur : cur.toList[i * 1 + r]? = (cellsY L[i]!)[r]? := by
        rw [← ycs_at L i hi r hr, ← ht, List.getElem?_take, if_pos (by omega)]
      by_cases ei : i = j
      · subst ei
        have e2 : (L.set i y)[i]! = y := by
          rw [getElem!_pos _ i (by rw [List.length_set]; exact hi), List.getElem_set_self]
        rw [e2]
        match r, hr with
        | 0, _ => rw [if_pos (by omega), if_pos (by omega)]; rfl
      · have e2 : (L.set j y)[i]! = L[i]! := by
          rw [getElem!_pos _ i (by rw [List.length_set]; exact hi), List.getElem_set_ne (fun q => ei q.symm), getElem!_pos L i hi]
        rw [e2, if_neg (by omega), hcur]
theorem yown_upd {M : Nat → Prop} {w w' : World} {base : Nat} {v : Value} {L : List Yv} (h : YOwn w base v L) (u : Upd M w w') (hm : ∀ g cur, w.heap[g]? = some (.cells cur 29 (0, 0)) → ¬ M g) : YOwn w' base v L := own_upd h u hm
/-- The own block. -/
theorem YOwn.block {w : World} {base : Nat} {v : Value} {L : List Yv} (h : YOwn w base v L) (hl : 0 < L.length) : ∃ g c cur, v = .slice (some ⟨g, 0, none⟩) L.length c ∧ base ≤ g ∧ w.heap[g]? = some (.cells cur 29 (0, 0)) ∧ L.length ≤ c := by
  rcases h.2 with ⟨_, e⟩ | ⟨g, cap, cur, e1, e2, hh, hc, _⟩
  · omega
  · exact ⟨g, cap, cur, e1, e2, hh, hc⟩
theorem SOwn.at_block {w : World} {base : Nat} {v : Value} {L : List Sv} (h : SOwn w base v L) {g : Nat} (e : v.ownBlock = some g) : base ≤ g ∧ ∃ cur, w.heap[g]? = some (.cells cur 9 (0, 0)) := by
  rcases h.2 with ⟨rfl, _⟩ | ⟨q, cap, cur, rfl, hg, hh, _⟩
  · simp [Value.ownBlock] at e
  · simp [Value.ownBlock] at e
    subst e
    exact ⟨hg, cur, hh⟩
theorem YOwn.at_block {w : World} {base : Nat} {v : Value} {L : List Yv} (h : YOwn w base v L) {g : Nat} (e : v.ownBlock = some g) : base ≤ g ∧ ∃ cur, w.heap[g]? = some (.cells cur 29 (0, 0)) := by
  rcases h.2 with ⟨rfl, _⟩ | ⟨q, cap, cur, rfl, hg, hh, _⟩
  · simp [Value.ownBlock] at e
  · simp [Value.ownBlock] at e
    subst e
    exact ⟨hg, cur, hh⟩
theorem grown_upd {w W : World} {r : Option Nat} (g : w.grownBy W r) : Upd (fun k => r = some k) w W := ⟨g.os, g.tape, g.output, g.size, fun k hk hm => g.block k hk (fun e => hm e.symm)⟩
/-- What turns beside a disk. -/
theorem On.beside {w0 w w' : World} {p m : Nat} {s : St} (h : On w0 w p m none s none) {M : Nat → Prop} (u : Upd M w w') (hT : ∀ k, M k → w0.heap.size ≤ k ∧ ∃ cur T, w.heap[k]? = some (.cells cur T (0, 0)) ∧ T ≠ 5 ∧ T ≠ 71) : On w0 w' p m none s none := by
  obtain ⟨V, F, x⟩ := h.px
  have hp : ¬ M p := fun k => by
    obtain ⟨_, cur, T, e, _, n⟩ := hT p k
    rw [x.o] at e
    injection e with e
    injection e with _ e _
    exact n e.symm
  have hm : ¬ M m := fun k => by
    obtain ⟨_, cur, T, e, _, n⟩ := hT m k
    obtain ⟨es, cl, hb, _⟩ := x.m
    rw [hb] at e
    injection e with e
    cases e
  refine ⟨⟨V, F, x.turn u (fun k e cur T t => ?_) hm ((u.block p x.lt hp).trans x.o) rfl x.wf x.F0 x.F1⟩, trivial, Upd.below h.b u (fun i k => (hT i k).1) h.b.size, h.p0, h.m0, fun k e => by cases e⟩
  obtain ⟨_, cur', T', e', n, _⟩ := hT k e
  rw [t] at e'
  injection e' with e'
  injection e' with _ e' _
  rw [e']; exact n
/-- Rows beside a disk stay. -/
theorem ms_not {w0 w : World} {p m : Nat} {s : St} (h : On w0 w p m none s none) {g : Nat} {cur : Array Value} {T : TypeId} (e : w.heap[g]? = some (.cells cur T (0, 0))) (hT : T ≠ 71) : ¬ Ms p m none g := fun k => by
  obtain ⟨V, F, x⟩ := h.px
  rcases k with k | k | k
  · subst k
    rw [x.o] at e
    injection e with e
    injection e with _ e _
    exact hT e.symm
  · subst k
    obtain ⟨es, cl, hb, _⟩ := x.m
    rw [hb] at e
    injection e with e
    cases e
  · cases k
end Go.Proofs.Ythkhkijdehbbmaa
