/-
  Rows of texts that are appended to, cut.
-/
import Derived.Test.YthkhkijdehbbmaaByt
set_option maxRecDepth 100000
namespace Go.Proofs.Ythkhkijdehbbmaa
open Go.RowKit
attribute [local go_sem ↓] Go.wp_at_zero Go.wp_at_succ
set_option linter.unusedVariables false

/-- A text in memory. -/
structure Sv where
  s : ByteArray
  deriving Inhabited
def cellsS (e : Sv) : List Value := [.string e.s]
/-- It as a value. -/
def sv (e : Sv) : Value := .agg #[.string e.s]
theorem cellsS_length (e : Sv) : (cellsS e).length = 1 := rfl
theorem cellsS_one (e : Sv) : ∀ u ∈ cellsS e, u.oneCell' = true := by
  intro u h
  unfold cellsS at h
  simp at h
  rcases h with rfl <;> rfl
/-- Its cells. -/
structure SAt (w : World) (b o : Nat) (e : Sv) : Prop where
  c0 : w.cell? ⟨b, o, none⟩ = some (.string e.s)
theorem SAt.keep {w w' : World} {b o : Nat} {e : Sv} (h : SAt w b o e) (hb : Below w.heap.size w w') : SAt w' b o e :=
  ⟨(hb.cell (p := ⟨b, o, none⟩) (block_lt_of_cell h.c0)).trans h.c0⟩
/-- A slice that begins at a holds in w the row L. -/
def Ss (w : World) (a : Option Addr) (L : List Sv) : Prop := 0 < L.length → ∃ b o, a = some ⟨b, o, none⟩ ∧ ∀ i, i < L.length → SAt w b (o + i * 1) L[i]!
theorem Ss.keep {w w' : World} {a : Option Addr} {L : List Sv} (h : Ss w a L) (hb : Below w.heap.size w w') : Ss w' a L := fun hn => by
  obtain ⟨b, o, e, hc⟩ := h hn
  exact ⟨b, o, e, fun i hi => (hc i hi).keep hb⟩
theorem Ss.nil (w : World) (a : Option Addr) : Ss w a [] := fun h => absurd h (Nat.lt_irrefl _)
/-- The cells of the row. -/
def scs (L : List Sv) : List Value := L.flatMap cellsS
theorem scs_length (L : List Sv) : (scs L).length = L.length * 1 := by
  induction L with
  | nil => rfl
  | cons e L ih => unfold scs at *; rw [List.flatMap_cons, List.length_append, ih, cellsS_length, List.length_cons]; omega
theorem scs_append (L M : List Sv) : scs (L ++ M) = scs L ++ scs M := List.flatMap_append
theorem scs_at (L : List Sv) (i : Nat) (hi : i < L.length) (r : Nat) (hr : r < 1) : (scs L)[i * 1 + r]? = (cellsS L[i]!)[r]? := by
  induction L generalizing i with
  | nil => simp at hi
  | cons e L ih =>
    show (cellsS e ++ scs L)[i * 1 + r]? = _
    cases i with
    | zero => rw [List.getElem?_append_left (by rw [cellsS_length]; omega)]; simp
    | succ i =>
      rw [List.getElem?_append_right (by rw [cellsS_length]; omega), cellsS_length, show (i + 1) * 1 + r - 1 = i * 1 + r by omega, ih i (by simpa using hi)]
      simp
theorem scs_one {L : List Sv} : ∀ u ∈ scs L, u.oneCell' = true := by
  intro u hu
  obtain ⟨e, _, h⟩ := List.mem_flatMap.1 hu
  exact cellsS_one e u h
theorem scs_ext {X : List Value} {L : List Sv} (hl : X.length = L.length * 1) (h : ∀ i, i < L.length → ∀ r, r < 1 → X[i * 1 + r]? = (cellsS L[i]!)[r]?) : X = scs L := by
  apply List.ext_getElem?
  intro j
  by_cases hj : j < L.length * 1
  · have e : j = j / 1 * 1 + j % 1 := by omega
    rw [e, h (j / 1) (by omega) (j % 1) (by omega), scs_at L (j / 1) (by omega) (j % 1) (by omega)]
  · rw [List.getElem?_eq_none (by omega), List.getElem?_eq_none (by rw [scs_length]; omega)]
theorem SAt.cells {w : World} {b o : Nat} {L : List Sv} (h : ∀ i, i < L.length → SAt w b (o + i * 1) L[i]!) (j : Nat) (u : Value) (hu : (scs L)[j]? = some u) : w.cell? ⟨b, o + j, none⟩ = some u := by
  have hj : j < L.length * 1 := by rw [← scs_length L]; exact (List.getElem?_eq_some_iff.1 hu).1
  obtain ⟨i, r, e, hi, hr⟩ : ∃ i r, j = i * 1 + r ∧ i < L.length ∧ r < 1 := ⟨j / 1, j % 1, by omega, by omega, by omega⟩
  subst e
  rw [scs_at L i hi r hr] at hu
  obtain ⟨c0⟩ := h i hi
  rw [show o + (i * 1 + r) = o + i * 1 + r by omega, ← hu]
  match r, hr with
  | 0, _ => exact c0
theorem infoS : (Try.prog.info? 9).map (fun i => (i.zero, i.size, i.bytes)) = some (some (.string ⟨#[]⟩), 1, 16) := by kernel_rfl
/-- A row of one's own. -/
def SOwn (w : World) (base : Nat) (v : Value) (L : List Sv) : Prop := w.ownsRow base 9 1 v L.length (scs L)
theorem SOwn.start (w : World) (base : Nat) : SOwn w base (.slice none 0 0) [] := ⟨rfl, .inl ⟨rfl, rfl⟩⟩
theorem SOwn.keep {w w' : World} {base : Nat} {v : Value} {L : List Sv} (h : SOwn w base v L) (hb : Below w.heap.size w w') : SOwn w' base v L := by
  rcases h with ⟨hl, e | ⟨g, cap, cur, e, hg, hh, hr⟩⟩
  · exact ⟨hl, .inl e⟩
  · refine ⟨hl, .inr ⟨g, cap, cur, e, hg, ?_, hr⟩⟩
    have hlt : g < w.heap.size := (Array.getElem?_eq_some_iff.1 hh).1
    rw [hb.block g hlt]; exact hh
theorem SOwn.mono {w : World} {b b' : Nat} {v : Value} {L : List Sv} (h : SOwn w b v L) (hb : b' ≤ b) : SOwn w b' v L := by
  rcases h with ⟨hl, e | ⟨g, cap, cur, e, hg, hh, hr⟩⟩
  · exact ⟨hl, .inl e⟩
  · exact ⟨hl, .inr ⟨g, cap, cur, e, by omega, hh, hr⟩⟩
theorem sat_of_row {w : World} {g n : Nat} {cur : Array Value} {L : List Sv} (hh : w.heap[g]? = some (.cells cur 9 (0, 0))) (e : cur.toList.take (n * 1) = scs L) (hn : L.length ≤ n) {i : Nat} (hi : i < L.length) : SAt w g (i * 1) L[i]! := by
  have hc : ∀ r, r < 1 → w.cell? ⟨g, i * 1 + r, none⟩ = (cellsS L[i]!)[r]? := fun r hr => by
    rw [cell_of_row w g _ cur _ _ hh, ← scs_at L i hi r hr, ← e, List.getElem?_take, if_pos (by omega), Array.getElem?_toList]
  exact ⟨hc 0 (by omega)⟩
/-- What a row of one's own is as a slice. -/
theorem SOwn.row {w : World} {base : Nat} {v : Value} {L : List Sv} (h : SOwn w base v L) :
    ∃ a c, v = .slice a L.length c ∧ Ss w a L ∧ (a = none → L.length = 0 ∧ c = 0) ∧ L.length ≤ c ∧ c ≤ maxLen := by
  rcases h.2 with ⟨rfl, e0⟩ | ⟨g, cap, cur, rfl, hg, hh, hnc, hm, hsz, ht⟩
  · have : L = [] := List.length_eq_zero_iff.1 e0
    subst this
    exact ⟨none, 0, rfl, Ss.nil _ _, fun _ => ⟨rfl, rfl⟩, Nat.le_refl _, by unfold maxLen; omega⟩
  · exact ⟨some ⟨g, 0, none⟩, cap, rfl, fun _ => ⟨g, 0, rfl, fun i hi => by rw [Nat.zero_add]; exact sat_of_row hh ht (Nat.le_refl _) hi⟩, (fun e => by cases e), hnc, hm⟩
/-- Any row behind one's own. -/
theorem appendS {w : World} {base c : Nat} {v : Value} {L M : List Sv} {a : Option Addr} (h : SOwn w base v L) (r : Ss w a M) (z : a = none → M.length = 0 ∧ c = 0) (hl : L.length + M.length ≤ 1000000) (hb : base ≤ w.heap.size) :
    ∃ v' W, Sem.run Try.prog (Builtin.append_ #[36, 36] 36 #[v, .slice a M.length c]) w = .ok v' W ∧ SOwn W base v' (L ++ M) ∧ w.grownBy W v.ownBlock ∧ Below base w W := by
  obtain ⟨i, hi, hzz⟩ := Option.map_eq_some_iff.1 infoS
  simp only [Prod.mk.injEq] at hzz
  obtain ⟨hz, hs, hby⟩ := hzz
  cases a with
  | none =>
    obtain ⟨e0, rfl⟩ := z rfl
    have : M = [] := List.length_eq_zero_iff.1 e0
    subst this
    have hr := run_append_owned_none (P := Try.prog) w base 36 36 9 i 1 Try.underlying36 hi v L.length (scs L) h
    refine ⟨v, w, hr, by rw [List.append_nil]; exact h, ?_, Below.refl _ _⟩
    exact ⟨rfl, rfl, rfl, Nat.le_refl _, fun _ _ _ => rfl⟩
  | some x =>
    have hc : ∀ j u, (scs M)[j]? = some u → w.cell? (x.add j) = some u := fun j u hu => by
      have hj : j < M.length * 1 := by rw [← scs_length M]; exact (List.getElem?_eq_some_iff.1 hu).1
      obtain ⟨b, o, e, hv⟩ := r (by omega)
      injection e with e
      subst e
      rw [add_plain]; exact SAt.cells hv j u hu
    obtain ⟨v', W, hr, hown, hg, _⟩ := run_append_own (P := Try.prog) w base 36 36 9 i (.string ⟨#[]⟩) 1 16 Try.underlying36 hi hz hs hby rfl (by omega) v L.length (scs L) h x M.length c (scs M) (by rw [scs_length]) hc scs_one (by unfold maxLen; omega) (by omega) hb
    rw [← scs_append, ← List.length_append] at hown
    exact ⟨v', W, hr, hown, hg, (Below.refl base w).grown hg hb fun k hk => (h.lt k hk).1⟩
/-- A slice of it. -/
theorem sliceS_l (a : Option Addr) (n c t : Nat) (ht : t ≤ n) (hc : n ≤ c) (w' : World) :
    Sem.run Try.prog (Instr.slice 36 (.slice a n c) (some (.int .i64 (t : Int))) none none) w' = .ok (.slice (if c = t then a else a.map (·.add (t * 1))) (n - t) (c - t)) w' := by
  rw [run_slice_l w' 36 a n c Try.underlying36 .i64 (t : Int) (by omega) (by omega)]
  have e : (sizeOf (Try.prog.elem 36)).run Try.prog w' = .ok 1 w' := by kernel_rfl
  rw [e]
  show Result.ok (sliced a _ _ c 1) w' = _
  unfold sliced
  rw [show ((t : Int)).toNat = t by omega]
theorem sliceS_h (a : Option Addr) (n c m : Nat) (hm : m ≤ n) (hc : n ≤ c) (w' : World) :
    Sem.run Try.prog (Instr.slice 36 (.slice a n c) none (some (.int .i64 (m : Int))) none) w' = .ok (.slice (if c = 0 then a else a.map (·.add (0 * 1))) m c) w' := by
  rw [run_slice_h w' 36 a n c Try.underlying36 .i64 (m : Int) (by omega) (by omega)]
  have e : (sizeOf (Try.prog.elem 36)).run Try.prog w' = .ok 1 w' := by kernel_rfl
  rw [e]
  show Result.ok (sliced a _ _ c 1) w' = _
  unfold sliced
  rw [show ((m : Int)).toNat = m by omega, Nat.sub_zero, Nat.sub_zero]
/-- The slices of a row, as letters: the first m, those from t on. -/
theorem Ss.first {w : World} {a : Option Addr} {c m : Nat} {L : List Sv} (h : Ss w a L) (z : a = none → L.length = 0 ∧ c = 0) (hm : m ≤ L.length) (hc : L.length ≤ c) :
    ∃ A, (∀ w', Sem.run Try.prog (Instr.slice 36 (.slice a L.length c) none (some (.int .i64 (m : Int))) none) w' = .ok (.slice A m c) w') ∧ Ss w A (L.take m) ∧ (A = none → m = 0 ∧ c = 0) := by
  refine ⟨_, fun w' => sliceS_h a L.length c m hm hc w', fun h0 => ?_, fun e => ?_⟩
  · rw [List.length_take, Nat.min_eq_left hm] at h0
    obtain ⟨b, o, rfl, hv⟩ := h (by omega)
    refine ⟨b, o, ?_, fun i hi => ?_⟩
    · rw [if_neg (by omega)]; simp [add_plain]
    · rw [List.length_take, Nat.min_eq_left hm] at hi
      have := hv i (by omega)
      rw [getElem!_pos _ i (by rw [List.length_take]; omega), List.getElem_take, ← getElem!_pos L i (by omega)]
      exact this
  · by_cases q : c = 0
    · rw [if_pos q] at e; have := z e; omega
    · rw [if_neg q] at e
      cases a with
      | none => have := z rfl; omega
      | some x => cases e
theorem Ss.rest {w : World} {a : Option Addr} {c t : Nat} {L : List Sv} (h : Ss w a L) (z : a = none → L.length = 0 ∧ c = 0) (ht : t ≤ L.length) (hc : L.length ≤ c) :
    ∃ A, (∀ w', Sem.run Try.prog (Instr.slice 36 (.slice a L.length c) (some (.int .i64 (t : Int))) none none) w' = .ok (.slice A (L.length - t) (c - t)) w') ∧ Ss w A (L.drop t) ∧ (A = none → L.length - t = 0 ∧ c - t = 0) := by
  refine ⟨_, fun w' => sliceS_l a L.length c t ht hc w', fun h0 => ?_, fun e => ?_⟩
  · rw [List.length_drop] at h0
    obtain ⟨b, o, rfl, hv⟩ := h (by omega)
    refine ⟨b, o + t * 1, ?_, fun i hi => ?_⟩
    · rw [if_neg (by omega)]; simp [add_plain]
    · rw [List.length_drop] at hi
      have := hv (t + i) (by omega)
      rw [getElem!_pos _ i (by rw [List.length_drop]; omega), List.getElem_drop, ← getElem!_pos L (t + i) (by omega), show o + t * 1 + i * 1 = o + (t + i) * 1 by rw [Nat.add_mul]; omega]
      exact this
  · by_cases q : c = t
    · omega
    · rw [if_neg q] at e
      cases a with
      | none => have := z rfl; omega
      | some x => cases e
theorem litS (w : World) (e : Sv) : Ss (w.alloc (.cells #[.string e.s] 9)) (some ⟨w.heap.size, 0, none⟩) [e] := fun _ => ⟨_, 0, rfl, fun i hi => by
  have : i = 0 := by simp at hi; omega
  subst this
  exact ⟨by rw [World.cell?_alloc_new]; rfl⟩⟩
end Go.Proofs.Ythkhkijdehbbmaa
