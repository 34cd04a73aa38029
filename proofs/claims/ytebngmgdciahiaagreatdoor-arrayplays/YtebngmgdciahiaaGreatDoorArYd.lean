/-
  Rows of deeds that are appended to.
-/
import Derived.Test.YtebngmgdciahiaaGreatDoorArYh
set_option maxRecDepth 100000
namespace Go.Proofs.YtebngmgdciahiaaGreatDoor
open Go.RowKit
open _root_.Go.Proofs.YtebngmgdciahiaaGreatDoor.Nm _root_.Go.Proofs.YtebngmgdciahiaaGreatDoor.Dk
attribute [local go_sem ↓] Go.wp_at_zero Go.wp_at_succ
set_option linter.unusedVariables false

/-- A deed in memory. -/
structure Dqv where
  d : Int
  n : Int
  a : ByteArray
  b : ByteArray
  v : Option Addr × Nat × Nat
  deriving Inhabited
def cellsDq (e : Dqv) : List Value := [.int .i64 e.d, .int .i64 e.n, .string e.a, .string e.b, .slice e.v.1 e.v.2.1 e.v.2.2]
/-- It as a value. -/
def dqv (e : Dqv) : Value := .agg #[.int .i64 e.d, .int .i64 e.n, .string e.a, .string e.b, .slice e.v.1 e.v.2.1 e.v.2.2]
theorem cellsDq_length (e : Dqv) : (cellsDq e).length = 5 := rfl
theorem cellsDq_one (e : Dqv) : ∀ u ∈ cellsDq e, u.oneCell' = true := by
  intro u h
  unfold cellsDq at h
  simp at h
  rcases h with rfl | rfl | rfl | rfl | rfl <;> rfl
/-- Its cells. -/
structure DqAt (w : World) (b o : Nat) (e : Dqv) : Prop where
  c0 : w.cell? ⟨b, o, none⟩ = some (.int .i64 e.d)
  c1 : w.cell? ⟨b, o + 1, none⟩ = some (.int .i64 e.n)
  c2 : w.cell? ⟨b, o + 2, none⟩ = some (.string e.a)
  c3 : w.cell? ⟨b, o + 3, none⟩ = some (.string e.b)
  c4 : w.cell? ⟨b, o + 4, none⟩ = some (.slice e.v.1 e.v.2.1 e.v.2.2)
theorem DqAt.keep {w w' : World} {b o : Nat} {e : Dqv} (h : DqAt w b o e) (hb : Below w.heap.size w w') : DqAt w' b o e :=
  ⟨(hb.cell (p := ⟨b, o, none⟩) (block_lt_of_cell h.c0)).trans h.c0, (hb.cell (p := ⟨b, o + 1, none⟩) (block_lt_of_cell h.c1)).trans h.c1, (hb.cell (p := ⟨b, o + 2, none⟩) (block_lt_of_cell h.c2)).trans h.c2, (hb.cell (p := ⟨b, o + 3, none⟩) (block_lt_of_cell h.c3)).trans h.c3, (hb.cell (p := ⟨b, o + 4, none⟩) (block_lt_of_cell h.c4)).trans h.c4⟩
/-- A slice that begins at a holds in w the row L. -/
def Dqs (w : World) (a : Option Addr) (L : List Dqv) : Prop := 0 < L.length → ∃ b o, a = some ⟨b, o, none⟩ ∧ ∀ i, i < L.length → DqAt w b (o + i * 5) L[i]!
theorem Dqs.keep {w w' : World} {a : Option Addr} {L : List Dqv} (h : Dqs w a L) (hb : Below w.heap.size w w') : Dqs w' a L := fun hn => by
  obtain ⟨b, o, e, hc⟩ := h hn
  exact ⟨b, o, e, fun i hi => (hc i hi).keep hb⟩
theorem Dqs.nil (w : World) (a : Option Addr) : Dqs w a [] := fun h => absurd h (Nat.lt_irrefl _)
/-- The cells of the row. -/
def dqcs (L : List Dqv) : List Value := L.flatMap cellsDq
theorem dqcs_length (L : List Dqv) : (dqcs L).length = L.length * 5 := by
  induction L with
  | nil => rfl
  | cons e L ih => unfold dqcs at *; rw [List.flatMap_cons, List.length_append, ih, cellsDq_length, List.length_cons]; omega
theorem dqcs_append (L M : List Dqv) : dqcs (L ++ M) = dqcs L ++ dqcs M := List.flatMap_append
theorem dqcs_at (L : List Dqv) (i : Nat) (hi : i < L.length) (r : Nat) (hr : r < 5) : (dqcs L)[i * 5 + r]? = (cellsDq L[i]!)[r]? := by
  induction L generalizing i with
  | nil => simp at hi
  | cons e L ih =>
    show (cellsDq e ++ dqcs L)[i * 5 + r]? = _
    cases i with
    | zero => rw [List.getElem?_append_left (by rw [cellsDq_length]; omega)]; simp
    | succ i =>
      rw [List.getElem?_append_right (by rw [cellsDq_length]; omega), cellsDq_length, show (i + 1) * 5 + r - 5 = i * 5 + r by omega, ih i (by simpa using hi)]
      simp
theorem dqcs_one {L : List Dqv} : ∀ u ∈ dqcs L, u.oneCell' = true := by
  intro u hu
  obtain ⟨e, _, h⟩ := List.mem_flatMap.1 hu
  exact cellsDq_one e u h
theorem dqcs_ext {X : List Value} {L : List Dqv} (hl : X.length = L.length * 5) (h : ∀ i, i < L.length → ∀ r, r < 5 → X[i * 5 + r]? = (cellsDq L[i]!)[r]?) : X = dqcs L := by
  apply List.ext_getElem?
  intro j
  by_cases hj : j < L.length * 5
  · have e : j = j / 5 * 5 + j % 5 := by omega
    rw [e, h (j / 5) (by omega) (j % 5) (by omega), dqcs_at L (j / 5) (by omega) (j % 5) (by omega)]
  · rw [List.getElem?_eq_none (by omega), List.getElem?_eq_none (by rw [dqcs_length]; omega)]
theorem DqAt.cells {w : World} {b o : Nat} {L : List Dqv} (h : ∀ i, i < L.length → DqAt w b (o + i * 5) L[i]!) (j : Nat) (u : Value) (hu : (dqcs L)[j]? = some u) : w.cell? ⟨b, o + j, none⟩ = some u := by
  have hj : j < L.length * 5 := by rw [← dqcs_length L]; exact (List.getElem?_eq_some_iff.1 hu).1
  obtain ⟨i, r, e, hi, hr⟩ : ∃ i r, j = i * 5 + r ∧ i < L.length ∧ r < 5 := ⟨j / 5, j % 5, by omega, by omega, by omega⟩
  subst e
  rw [dqcs_at L i hi r hr] at hu
  obtain ⟨c0, c1, c2, c3, c4⟩ := h i hi
  rw [show o + (i * 5 + r) = o + i * 5 + r by omega, ← hu]
  match r, hr with
  | 0, _ => exact c0
  | 1, _ => exact c1
  | 2, _ => exact c2
  | 3, _ => exact c3
  | 4, _ => exact c4
theorem infoDq : (Tryz.prog.info? 29).map (fun i => (i.zero, i.size, i.bytes)) = some (some (.agg #[.int .i64 0, .int .i64 0, .string ⟨#[]⟩, .string ⟨#[]⟩, .slice none 0 0]), 5, 72) := by kernel_rfl
/-- A row of one's own. -/
def DqOwn (w : World) (base : Nat) (v : Value) (L : List Dqv) : Prop := w.ownsRow base 29 5 v L.length (dqcs L)
theorem DqOwn.start (w : World) (base : Nat) : DqOwn w base (.slice none 0 0) [] := ⟨rfl, .inl ⟨rfl, rfl⟩⟩
theorem DqOwn.keep {w w' : World} {base : Nat} {v : Value} {L : List Dqv} (h : DqOwn w base v L) (hb : Below w.heap.size w w') : DqOwn w' base v L := by
  rcases h with ⟨hl, e | ⟨g, cap, cur, e, hg, hh, hr⟩⟩
  · exact ⟨hl, .inl e⟩
  · refine ⟨hl, .inr ⟨g, cap, cur, e, hg, ?_, hr⟩⟩
    have hlt : g < w.heap.size := (Array.getElem?_eq_some_iff.1 hh).1
    rw [hb.block g hlt]; exact hh
theorem DqOwn.mono {w : World} {b b' : Nat} {v : Value} {L : List Dqv} (h : DqOwn w b v L) (hb : b' ≤ b) : DqOwn w b' v L := by
  rcases h with ⟨hl, e | ⟨g, cap, cur, e, hg, hh, hr⟩⟩
  · exact ⟨hl, .inl e⟩
  · exact ⟨hl, .inr ⟨g, cap, cur, e, by omega, hh, hr⟩⟩
theorem dqat_of_row {w : World} {g n : Nat} {cur : Array Value} {L : List Dqv} (hh : w.heap[g]? = some (.cells cur 29 (0, 0))) (e : cur.toList.take (n * 5) = dqcs L) (hn : L.length ≤ n) {i : Nat} (hi : i < L.length) : DqAt w g (i * 5) L[i]! := by
  have hc : ∀ r, r < 5 → w.cell? ⟨g, i * 5 + r, none⟩ = (cellsDq L[i]!)[r]? := fun r hr => by
    rw [cell_of_row w g _ cur _ _ hh, ← dqcs_at L i hi r hr, ← e, List.getElem?_take, if_pos (by omega), Array.getElem?_toList]
  exact ⟨hc 0 (by omega), hc 1 (by omega), hc 2 (by omega), hc 3 (by omega), hc 4 (by omega)⟩
/-- What a row of one's own is as a slice. -/
theorem DqOwn.row {w : World} {base : Nat} {v : Value} {L : List Dqv} (h : DqOwn w base v L) :
    ∃ a c, v = .slice a L.length c ∧ Dqs w a L ∧ (a = none → L.length = 0 ∧ c = 0) ∧ L.length ≤ c ∧ c ≤ maxLen := by
  rcases h.2 with ⟨rfl, e0⟩ | ⟨g, cap, cur, rfl, hg, hh, hnc, hm, hsz, ht⟩
  · have : L = [] := List.length_eq_zero_iff.1 e0
    subst this
    exact ⟨none, 0, rfl, Dqs.nil _ _, fun _ => ⟨rfl, rfl⟩, Nat.le_refl _, by unfold maxLen; omega⟩
  · exact ⟨some ⟨g, 0, none⟩, cap, rfl, fun _ => ⟨g, 0, rfl, fun i hi => by rw [Nat.zero_add]; exact dqat_of_row hh ht (Nat.le_refl _) hi⟩, (fun e => by cases e), hnc, hm⟩
/-- Any row behind one's own. -/
theorem appendDq {w : World} {base c : Nat} {v : Value} {L M : List Dqv} {a : Option Addr} (h : DqOwn w base v L) (r : Dqs w a M) (z : a = none → M.length = 0 ∧ c = 0) (hl : L.length + M.length ≤ 1000000) (hb : base ≤ w.heap.size) :
    ∃ v' W, Sem.run Tryz.prog (Builtin.append_ #[26, 26] 26 #[v, .slice a M.length c]) w = .ok v' W ∧ DqOwn W base v' (L ++ M) ∧ w.grownBy W v.ownBlock ∧ Below base w W := by
  obtain ⟨i, hi, hzz⟩ := Option.map_eq_some_iff.1 infoDq
  simp only [Prod.mk.injEq] at hzz
  obtain ⟨hz, hs, hby⟩ := hzz
  cases a with
  | none =>
    obtain ⟨e0, rfl⟩ := z rfl
    have : M = [] := List.length_eq_zero_iff.1 e0
    subst this
    have hr := run_append_owned_none (P := Tryz.prog) w base 26 26 29 i 5 Tryz.underlying26 hi v L.length (dqcs L) h
    refine ⟨v, w, hr, by rw [List.append_nil]; exact h, ?_, Below.refl _ _⟩
    exact ⟨rfl, rfl, rfl, Nat.le_refl _, fun _ _ _ => rfl⟩
  | some x =>
    have hc : ∀ j u, (dqcs M)[j]? = some u → w.cell? (x.add j) = some u := fun j u hu => by
      have hj : j < M.length * 5 := by rw [← dqcs_length M]; exact (List.getElem?_eq_some_iff.1 hu).1
      obtain ⟨b, o, e, hv⟩ := r (by omega)
      injection e with e
      subst e
      rw [add_plain]; exact DqAt.cells hv j u hu
    obtain ⟨v', W, hr, hown, hg, _⟩ := run_append_own (P := Tryz.prog) w base 26 26 29 i (.agg #[.int .i64 0, .int .i64 0, .string ⟨#[]⟩, .string ⟨#[]⟩, .slice none 0 0]) 5 72 Tryz.underlying26 hi hz hs hby rfl (by omega) v L.length (dqcs L) h x M.length c (dqcs M) (by rw [dqcs_length]) hc dqcs_one (by unfold maxLen; omega) (by omega) hb
    rw [← dqcs_append, ← List.length_append] at hown
    exact ⟨v', W, hr, hown, hg, (Below.refl base w).grown hg hb fun k hk => (h.lt k hk).1⟩
/-- A slice of it. -/
theorem sliceDq_l (a : Option Addr) (n c t : Nat) (ht : t ≤ n) (hc : n ≤ c) (w' : World) :
    Sem.run Tryz.prog (Instr.slice 26 (.slice a n c) (some (.int .i64 (t : Int))) none none) w' = .ok (.slice (if c = t then a else a.map (·.add (t * 5))) (n - t) (c - t)) w' := by
  rw [run_slice_l w' 26 a n c Tryz.underlying26 .i64 (t : Int) (by omega) (by omega)]
  have e : (sizeOf (Tryz.prog.elem 26)).run Tryz.prog w' = .ok 5 w' := by kernel_rfl
  rw [e]
  show Result.ok (sliced a _ _ c 5) w' = _
  unfold sliced
  rw [show ((t : Int)).toNat = t by omega]
theorem sliceDq_h (a : Option Addr) (n c m : Nat) (hm : m ≤ n) (hc : n ≤ c) (w' : World) :
    Sem.run Tryz.prog (Instr.slice 26 (.slice a n c) none (some (.int .i64 (m : Int))) none) w' = .ok (.slice (if c = 0 then a else a.map (·.add (0 * 5))) m c) w' := by
  rw [run_slice_h w' 26 a n c Tryz.underlying26 .i64 (m : Int) (by omega) (by omega)]
  have e : (sizeOf (Tryz.prog.elem 26)).run Tryz.prog w' = .ok 5 w' := by kernel_rfl
  rw [e]
  show Result.ok (sliced a _ _ c 5) w' = _
  unfold sliced
  rw [show ((m : Int)).toNat = m by omega, Nat.sub_zero, Nat.sub_zero]
/-- The slices of a row, as letters: the first m, those from t on. -/
theorem Dqs.first {w : World} {a : Option Addr} {c m : Nat} {L : List Dqv} (h : Dqs w a L) (z : a = none → L.length = 0 ∧ c = 0) (hm : m ≤ L.length) (hc : L.length ≤ c) :
    ∃ A, (∀ w', Sem.run Tryz.prog (Instr.slice 26 (.slice a L.length c) none (some (.int .i64 (m : Int))) none) w' = .ok (.slice A m c) w') ∧ Dqs w A (L.take m) ∧ (A = none → m = 0 ∧ c = 0) := by
  refine ⟨_, fun w' => sliceDq_h a L.length c m hm hc w', fun h0 => ?_, fun e => ?_⟩
  · rw [List.length_take, Nat.min_eq_left hm] at h0
    obtain ⟨b, o, rfl, hv⟩ := h (by omega)
    refine ⟨b, o, ?_, fun i hi => ?_⟩
    · rw [if_neg (by omega)]; simp [add_plain]
    · rw [List.length_take, Nat.min_eq_left hm] at hi
      have := hv i (by omega)
      rw [getElem!_pos _ i (by rw [List.length_take]; omega), List.getElem_take, ← getElem!_pos L i (by omega)]
      exact this
  · by_cases q : c = 0
    · rw [if_pos q] at e; have := z e; omega
    · rw [if_neg q] at e
      cases a with
      | none => have := z rfl; omega
      | some x => cases e
theorem Dqs.rest {w : World} {a : Option Addr} {c t : Nat} {L : List Dqv} (h : Dqs w a L) (z : a = none → L.length = 0 ∧ c = 0) (ht : t ≤ L.length) (hc : L.length ≤ c) :
    ∃ A, (∀ w', Sem.run Tryz.prog (Instr.slice 26 (.slice a L.length c) (some (.int .i64 (t : Int))) none none) w' = .ok (.slice A (L.length - t) (c - t)) w') ∧ Dqs w A (L.drop t) ∧ (A = none → L.length - t = 0 ∧ c - t = 0) := by
  refine ⟨_, fun w' => sliceDq_l a L.length c t ht hc w', fun h0 => ?_, fun e => ?_⟩
  · rw [List.length_drop] at h0
    obtain ⟨b, o, rfl, hv⟩ := h (by omega)
    refine ⟨b, o + t * 5, ?_, fun i hi => ?_⟩
    · rw [if_neg (by omega)]; simp [add_plain]
    · rw [List.length_drop] at hi
      have := hv (t + i) (by omega)
      rw [getElem!_pos _ i (by rw [List.length_drop]; omega), List.getElem_drop, ← getElem!_pos L (t + i) (by omega), show o + t * 5 + i * 5 = o + (t + i) * 5 by rw [Nat.add_mul]; omega]
      exact this
  · by_cases q : c = t
    · omega
    · rw [if_neg q] at e
      cases a with
      | none => have := z rfl; omega
      | some x => cases e
theorem litDq (w : World) (e : Dqv) : Dqs (w.alloc (.cells #[.int .i64 e.d, .int .i64 e.n, .string e.a, .string e.b, .slice e.v.1 e.v.2.1 e.v.2.2] 29)) (some ⟨w.heap.size, 0, none⟩) [e] := fun _ => ⟨_, 0, rfl, fun i hi => by
  have : i = 0 := by simp at hi; omega
  subst this
  exact ⟨by rw [World.cell?_alloc_new]; rfl, by rw [World.cell?_alloc_new]; rfl, by rw [World.cell?_alloc_new]; rfl, by rw [World.cell?_alloc_new]; rfl, by rw [World.cell?_alloc_new]; rfl⟩⟩
/-- A deed as such a row has it. -/
def toq (e : Dd) : Dqv := ⟨e.d, e.n, e.a, e.b, e.v⟩
theorem dqs_ds {w : World} {a : Option Addr} {L : List Dd} (h : Dqs w a (L.map toq)) (hi : ∀ i, i < L.length → Inp w L[i]!.v.1 L[i]!.v.2.1 L[i]!.v.2.2 L[i]!.x) : Ds w a L := fun h0 => by
  obtain ⟨b, o, e, hc⟩ := h (by rw [List.length_map]; exact h0)
  refine ⟨b, o, e, fun i hl => ?_⟩
  have k := hc i (by rw [List.length_map]; exact hl)
  rw [getElem!_pos _ i (by rw [List.length_map]; exact hl), List.getElem_map, ← getElem!_pos L i hl] at k
  exact ⟨k.c0, k.c1, k.c2, k.c3, k.c4, hi i hl⟩
end Go.Proofs.YtebngmgdciahiaaGreatDoor
