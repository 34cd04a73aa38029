/-
  Entries in memory: rows of them that came in, that a call made, that are appended to, copied, sorted.
-/
import Derived.Test.YtahnkkifegdjeaaPgL
import Derived.Test.YtahnkkifegdjeaaStI
import Derived.OpenShut
import Derived.ShutString
import Derived.ChangeOld
import Derived.SizedLaws
import Derived.Deep.OwnRows
import Derived.Laws.IdiomCopy
import Derived.Laws.CopyRow
import Derived.Deep.RegionHeld3
import Derived.Deep.Matrix
import Derived.Lib.AppendZeros
import Derived.StillTailTactics
import Derived.Lib.OwnBridge
namespace Go.Proofs.Ytahnkkifegdjeaa
open Go.RowKit Go.Shelf Go.Sort Nq
attribute [local go_sem ↓] Go.wp_at_zero Go.wp_at_succ
set_option linter.unusedVariables false

theorem hop {a b c : World} (h : Below a.heap.size a b) (k : Below b.heap.size b c) : Below a.heap.size a c := h.trans (k.mono h.size)
theorem bal (w : World) (o : Obj) : Below w.heap.size w (w.alloc o) := (Below.refl _ _).alloc (Nat.le_refl _) _
theorem bdn (w : World) (n : Nat) : Below w.heap.size w (w.drewN n) := ⟨rfl, rfl, rfl, Nat.le_refl _, fun _ _ => rfl⟩
theorem bld {B : Nat} {w w' : World} (h : Below B w w') (n : Nat) : Below B w (w'.drewN n) := ⟨h.os, h.tape, h.output, h.size, h.block⟩
theorem add_plain (b o j : Nat) : (⟨b, o, none⟩ : Addr).add j = ⟨b, o + j, none⟩ := by unfold Addr.add; split <;> simp_all

/-- An entry. -/
structure En where
  key : ByteArray
  id : Int
  mr : Bool
  sz : Int
  sm : Nat
  la : Bool
  deriving Inhabited, DecidableEq
def cellsE (e : En) : List Value := [.string e.key, .int .i64 e.id, .bool e.mr, .int .i64 e.sz, .int .u32 (e.sm : Int), .bool e.la]
/-- An entry as a value. -/
def ev (e : En) : Value := .agg #[.string e.key, .int .i64 e.id, .bool e.mr, .int .i64 e.sz, .int .u32 (e.sm : Int), .bool e.la]
theorem ev_cells (e : En) : Value.agg (cellsE e).toArray = ev e := rfl
theorem cellsE_length (e : En) : (cellsE e).length = 6 := rfl
theorem cellsE_one (e : En) : ∀ u ∈ cellsE e, u.oneCell' = true := by
  intro u h
  unfold cellsE at h
  simp at h
  rcases h with rfl | rfl | rfl | rfl | rfl | rfl <;> rfl
/-- An entry's cells. -/
structure EAt (w : World) (b o : Nat) (e : En) : Prop where
  c0 : w.cell? ⟨b, o, none⟩ = some (.string e.key)
  c1 : w.cell? ⟨b, o + 1, none⟩ = some (.int .i64 e.id)
  c2 : w.cell? ⟨b, o + 2, none⟩ = some (.bool e.mr)
  c3 : w.cell? ⟨b, o + 3, none⟩ = some (.int .i64 e.sz)
  c4 : w.cell? ⟨b, o + 4, none⟩ = some (.int .u32 (e.sm : Int))
  c5 : w.cell? ⟨b, o + 5, none⟩ = some (.bool e.la)
theorem EAt.keep {w w' : World} {b o : Nat} {e : En} (h : EAt w b o e) (hb : Below w.heap.size w w') : EAt w' b o e :=
  ⟨(hb.cell (p := ⟨b, o, none⟩) (block_lt_of_cell h.c0)).trans h.c0, (hb.cell (p := ⟨b, o + 1, none⟩) (block_lt_of_cell h.c1)).trans h.c1,
    (hb.cell (p := ⟨b, o + 2, none⟩) (block_lt_of_cell h.c2)).trans h.c2, (hb.cell (p := ⟨b, o + 3, none⟩) (block_lt_of_cell h.c3)).trans h.c3,
    (hb.cell (p := ⟨b, o + 4, none⟩) (block_lt_of_cell h.c4)).trans h.c4, (hb.cell (p := ⟨b, o + 5, none⟩) (block_lt_of_cell h.c5)).trans h.c5⟩
theorem box_en (w : World) (t : TypeId) (e : En) : ∃ W, w.alloc (.cells #[.string e.key, .int .i64 e.id, .bool e.mr, .int .i64 e.sz, .int .u32 (e.sm : Int), .bool e.la] t) = W ∧ EAt W w.heap.size 0 e ∧ Below w.heap.size w W :=
  ⟨_, rfl, ⟨by rw [World.cell?_alloc_new]; rfl, by rw [World.cell?_alloc_new]; rfl, by rw [World.cell?_alloc_new]; rfl, by rw [World.cell?_alloc_new]; rfl, by rw [World.cell?_alloc_new]; rfl, by rw [World.cell?_alloc_new]; rfl⟩, bal _ _⟩

/-- A slice that begins at a holds in w the entries L. -/
def Es (w : World) (a : Option Addr) (L : List En) : Prop := 0 < L.length → ∃ b o, a = some ⟨b, o, none⟩ ∧ ∀ i, i < L.length → EAt w b (o + i * 6) L[i]!
theorem Es.keep {w w' : World} {a : Option Addr} {L : List En} (h : Es w a L) (hb : Below w.heap.size w w') : Es w' a L := fun hn => by
  obtain ⟨b, o, e, hc⟩ := h hn
  exact ⟨b, o, e, fun i hi => (hc i hi).keep hb⟩
theorem Es.nil (w : World) (a : Option Addr) : Es w a [] := fun h => absurd h (Nat.lt_irrefl _)

/-- The cells of the entries. -/
def ecs (L : List En) : List Value := L.flatMap cellsE
theorem ecs_length (L : List En) : (ecs L).length = L.length * 6 := by
  induction L with
  | nil => rfl
  | cons e L ih => unfold ecs at *; rw [List.flatMap_cons, List.length_append, ih, cellsE_length, List.length_cons]; omega
theorem ecs_append (L M : List En) : ecs (L ++ M) = ecs L ++ ecs M := List.flatMap_append
theorem ecs_at (L : List En) (i : Nat) (hi : i < L.length) (r : Nat) (hr : r < 6) : (ecs L)[i * 6 + r]? = (cellsE L[i]!)[r]? := by
  induction L generalizing i with
  | nil => simp at hi
  | cons e L ih =>
    show (cellsE e ++ ecs L)[i * 6 + r]? = _
    cases i with
    | zero => rw [List.getElem?_append_left (by rw [cellsE_length]; omega)]; simp
    | succ i =>
      rw [List.getElem?_append_right (by rw [cellsE_length]; omega), cellsE_length, show (i + 1) * 6 + r - 6 = i * 6 + r by omega, ih i (by simpa using hi)]
      simp
theorem ecs_one {L : List En} : ∀ u ∈ ecs L, u.oneCell' = true := by
  intro u hu
  obtain ⟨e, _, h⟩ := List.mem_flatMap.1 hu
  exact cellsE_one e u h
theorem ecs_ext {X : List Value} {L : List En} (hl : X.length = L.length * 6) (h : ∀ i, i < L.length → ∀ r, r < 6 → X[i * 6 + r]? = (cellsE L[i]!)[r]?) : X = ecs L := by
  apply List.ext_getElem?
  intro j
  by_cases hj : j < L.length * 6
  · have e : j = j / 6 * 6 + j % 6 := by omega
    rw [e, h (j / 6) (by omega) (j % 6) (by omega), ecs_at L (j / 6) (by omega) (j % 6) (by omega)]
  · rw [List.getElem?_eq_none (by omega), List.getElem?_eq_none (by rw [ecs_length]; omega)]
theorem EAt.cells {w : World} {b o : Nat} {L : List En} (h : ∀ i, i < L.length → EAt w b (o + i * 6) L[i]!) (j : Nat) (u : Value) (hu : (ecs L)[j]? = some u) : w.cell? ⟨b, o + j, none⟩ = some u := by
  have hj : j < L.length * 6 := by rw [← ecs_length L]; exact (List.getElem?_eq_some_iff.1 hu).1
  obtain ⟨i, r, e, hi, hr⟩ : ∃ i r, j = i * 6 + r ∧ i < L.length ∧ r < 6 := ⟨j / 6, j % 6, by omega, by omega, by omega⟩
  subst e
  rw [ecs_at L i hi r hr] at hu
  obtain ⟨c0, c1, c2, c3, c4, c5⟩ := h i hi
  rw [show o + (i * 6 + r) = o + i * 6 + r by omega, ← hu]
  match r, hr with
  | 0, _ => exact c0
  | 1, _ => exact c1
  | 2, _ => exact c2
  | 3, _ => exact c3
  | 4, _ => exact c4
  | 5, _ => exact c5
theorem infoE : (Try.prog.info? 48).map (fun i => (i.zero, i.size, i.bytes)) = some (some (.agg #[.string ⟨#[]⟩, .int .i64 0, .bool false, .int .i64 0, .int .u32 0, .bool false]), 6, 56) := by kernel_rfl

/-- A row of entries of one's own. -/
def EOwn (w : World) (base : Nat) (v : Value) (L : List En) : Prop := w.ownsRow base 48 6 v L.length (ecs L)
theorem EOwn.start (w : World) (base : Nat) : EOwn w base (.slice none 0 0) [] := ⟨rfl, .inl ⟨rfl, rfl⟩⟩
theorem EOwn.keep {w w' : World} {base : Nat} {v : Value} {L : List En} (h : EOwn w base v L) (hb : Below w.heap.size w w') : EOwn w' base v L := by
  rcases h with ⟨hl, e | ⟨g, cap, cur, e, hg, hh, hr⟩⟩
  · exact ⟨hl, .inl e⟩
  · refine ⟨hl, .inr ⟨g, cap, cur, e, hg, ?_, hr⟩⟩
    have hlt : g < w.heap.size := (Array.getElem?_eq_some_iff.1 hh).1
    rw [hb.block g hlt]; exact hh
theorem EOwn.mono {w : World} {b b' : Nat} {v : Value} {L : List En} (h : EOwn w b v L) (hb : b' ≤ b) : EOwn w b' v L := by
  rcases h with ⟨hl, e | ⟨g, cap, cur, e, hg, hh, hr⟩⟩
  · exact ⟨hl, .inl e⟩
  · exact ⟨hl, .inr ⟨g, cap, cur, e, by omega, hh, hr⟩⟩
theorem eat_of_row {w : World} {g n : Nat} {cur : Array Value} {L : List En} (hh : w.heap[g]? = some (.cells cur 48 (0, 0))) (e : cur.toList.take (n * 6) = ecs L) (hn : L.length ≤ n) {i : Nat} (hi : i < L.length) : EAt w g (i * 6) L[i]! := by
  have hc : ∀ r, r < 6 → w.cell? ⟨g, i * 6 + r, none⟩ = (cellsE L[i]!)[r]? := fun r hr => by
    rw [cell_of_row w g _ cur _ _ hh, ← ecs_at L i hi r hr, ← e, List.getElem?_take, if_pos (by omega), Array.getElem?_toList]
  exact ⟨hc 0 (by omega), hc 1 (by omega), hc 2 (by omega), hc 3 (by omega), hc 4 (by omega), hc 5 (by omega)⟩
/-- What a row of one's own is as a slice. -/
theorem EOwn.es {w : World} {base : Nat} {v : Value} {L : List En} (h : EOwn w base v L) :
    ∃ a c, v = .slice a L.length c ∧ Es w a L ∧ (a = none → L.length = 0 ∧ c = 0) ∧ L.length ≤ c ∧ c ≤ maxLen := by
  rcases h.2 with ⟨rfl, e0⟩ | ⟨g, cap, cur, rfl, hg, hh, hnc, hm, hsz, ht⟩
  · have : L = [] := List.length_eq_zero_iff.1 e0
    subst this
    exact ⟨none, 0, rfl, Es.nil _ _, fun _ => ⟨rfl, rfl⟩, Nat.le_refl _, by unfold maxLen; omega⟩
  · exact ⟨some ⟨g, 0, none⟩, cap, rfl, fun _ => ⟨g, 0, rfl, fun i hi => by rw [Nat.zero_add]; exact eat_of_row hh ht (Nat.le_refl _) hi⟩, (fun e => by cases e), hnc, hm⟩
/-- Any row behind one's own. -/
theorem appendE {w : World} {base c : Nat} {v : Value} {L M : List En} {a : Option Addr} (h : EOwn w base v L) (r : Es w a M) (z : a = none → M.length = 0 ∧ c = 0) (hl : L.length + M.length ≤ 1000000) (hb : base ≤ w.heap.size) :
    ∃ v' W, Sem.run Try.prog (Builtin.append_ #[22, 22] 22 #[v, .slice a M.length c]) w = .ok v' W ∧ EOwn W base v' (L ++ M) ∧ w.grownBy W v.ownBlock ∧ Below base w W := by
  obtain ⟨i, hi, hzz⟩ := Option.map_eq_some_iff.1 infoE
  simp only [Prod.mk.injEq] at hzz
  obtain ⟨hz, hs, hby⟩ := hzz
  cases a with
  | none =>
    obtain ⟨e0, rfl⟩ := z rfl
    have : M = [] := List.length_eq_zero_iff.1 e0
    subst this
    have hr := run_append_owned_none (P := Try.prog) w base 22 22 48 i 6 Try.underlying22 hi v L.length (ecs L) h
    refine ⟨v, w, hr, by rw [List.append_nil]; exact h, ?_, Below.refl _ _⟩
    exact ⟨rfl, rfl, rfl, Nat.le_refl _, fun _ _ _ => rfl⟩
  | some x =>
    have hc : ∀ j u, (ecs M)[j]? = some u → w.cell? (x.add j) = some u := fun j u hu => by
      have hj : j < M.length * 6 := by rw [← ecs_length M]; exact (List.getElem?_eq_some_iff.1 hu).1
      obtain ⟨b, o, e, hv⟩ := r (by omega)
      injection e with e
      subst e
      rw [add_plain]; exact EAt.cells hv j u hu
    obtain ⟨v', W, hr, hown, hg, _⟩ := run_append_own (P := Try.prog) w base 22 22 48 i (.agg #[.string ⟨#[]⟩, .int .i64 0, .bool false, .int .i64 0, .int .u32 0, .bool false]) 6 56 Try.underlying22 hi hz hs hby rfl (by omega) v L.length (ecs L) h x M.length c (ecs M) (by rw [ecs_length]) hc ecs_one (by unfold maxLen; omega) (by omega) hb
    rw [← ecs_append, ← List.length_append] at hown
    exact ⟨v', W, hr, hown, hg, (Below.refl base w).grown hg hb fun k hk => (h.lt k hk).1⟩

/-- A block that is full of entries. -/
def EB (w : World) (g : Nat) (L : List En) : Prop := ∃ cur : Array Value, w.heap[g]? = some (.cells cur 48 (0, 0)) ∧ cur.toList = ecs L
theorem EB.lt {w : World} {g : Nat} {L : List En} (h : EB w g L) : g < w.heap.size := by
  obtain ⟨cur, hh, e⟩ := h
  exact (Array.getElem?_eq_some_iff.1 hh).1
theorem EB.keep {w w' : World} {g : Nat} {L : List En} (h : EB w g L) (hb : Below w.heap.size w w') : EB w' g L := by
  have hl := h.lt
  obtain ⟨cur, hh, e⟩ := h
  exact ⟨cur, by rw [hb.block g hl]; exact hh, e⟩
theorem EB.at {w : World} {g i : Nat} {L : List En} (h : EB w g L) (hi : i < L.length) : EAt w g (i * 6) L[i]! := by
  obtain ⟨cur, hh, e⟩ := h
  exact eat_of_row (n := L.length) hh (by rw [e, List.take_of_length_le (by rw [ecs_length]; omega)]) (Nat.le_refl _) hi
theorem EB.es {w : World} {g : Nat} {L : List En} (h : EB w g L) : Es w (some ⟨g, 0, none⟩) L := fun _ => ⟨g, 0, rfl, fun i hi => by rw [Nat.zero_add]; exact h.at hi⟩
theorem EB.own {w : World} {g base : Nat} {L : List En} (h : EB w g L) (hg : base ≤ g) (hl : L.length ≤ maxLen) : EOwn w base (.slice (some ⟨g, 0, none⟩) L.length L.length) L := by
  obtain ⟨cur, hh, e⟩ := h
  have hs : cur.size = L.length * 6 := by rw [← Array.length_toList, e, ecs_length]
  exact ⟨ecs_length L, .inr ⟨g, L.length, cur, rfl, hg, hh, Nat.le_refl _, hl, hs, by rw [List.take_of_length_le (by rw [Array.length_toList, hs]; omega)]; exact e⟩⟩

def zeroE : En := ⟨⟨#[]⟩, 0, false, 0, 0, false⟩
/-- make([]api.Entry, n). -/
theorem makeE (w : World) (n : Nat) (hn : n ≤ 1000000) : ∃ W, Sem.run Try.prog (Instr.makeSlice 22 (.int .i64 (n : Int)) (.int .i64 (n : Int))) w = .ok (.slice (some ⟨w.heap.size, 0, none⟩) n n) W ∧ (∃ cur : Array Value, W.heap[w.heap.size]? = some (.cells cur 48 (0, 0)) ∧ cur.size = n * 6) ∧ Below w.heap.size w W := by
  obtain ⟨i, hi, hzz⟩ := Option.map_eq_some_iff.1 infoE
  simp only [Prod.mk.injEq] at hzz
  obtain ⟨hz, hs, hby⟩ := hzz
  obtain ⟨W, hr, ho, hg⟩ := run_make_full (P := Try.prog) w w.heap.size 22 48 i (.agg #[.string ⟨#[]⟩, .int .i64 0, .bool false, .int .i64 0, .int .u32 0, .bool false]) 6 Try.underlying22 hi hz hs .i64 .i64 n (by rw [hby]; omega) (by unfold maxLen; omega) (Nat.le_refl _)
  refine ⟨W, hr, ?_, (Below.refl _ _).grown hg (Nat.le_refl _) (fun k hk => by cases hk)⟩
  rcases ho.2 with ⟨e, _⟩ | ⟨g, cap, cur, e, _, hh, _, _, hsz, ht⟩
  · cases e
  · injection e with e1 e2 e3
    injection e1 with e1
    injection e1 with e1
    subst e1; subst e3
    exact ⟨cur, hh, hsz⟩
theorem run_copy_any {P : Program} (w : World) (dT sT ty elem : TypeId) (sz g o dLen dCap : Nat) (a : Addr) (sLen sCap : Nat) (cur : Array Value) (t : TypeId) (cs : List Value)
    (hu : P.underlying dT = some (.slice elem)) (hs : (P.info? elem).map (·.size) = some sz)
    (hg : w.heap[g]? = some (.cells cur t (0, 0))) (hn : cs.length = Nat.min sLen dLen * sz)
    (hsrc : ∀ j v, cs[j]? = some v → w.cell? (a.add j) = some v) (hfit : o + cs.length ≤ cur.size) (h1 : ∀ v ∈ cs, v.oneCell' = true) :
    (Builtin.copy_ #[dT, sT] ty #[.slice (some ⟨g, o, none⟩) dLen dCap, .slice (some a) sLen sCap]).run P w =
      .ok (goInt (Nat.min sLen dLen)) (w.setRow g (cur.toList.take o ++ cs ++ cur.toList.drop (o + cs.length)).toArray) := by
  have hl := run_loadCells_list (P := P) w a cs hsrc
  have hst := run_storeCells_at P g o t cs 0 cur w hg (by simpa using hfit) h1
  cases hq : P.info? elem with
  | none => simp [hq] at hs
  | some i =>
    have hi : i.size = sz := by simpa [hq] using hs
    simp [Builtin.copy_, run_underlying hu, Builtin.lenOf, Builtin.firstCells, sizeOf, typeInfo, hq, hi, ← hn, hl, hst]
theorem below_setRow {w : World} {base g : Nat} (cs : Array Value) (hb : base ≤ g) : Below base w (w.setRow g cs) := by
  refine ⟨rfl, rfl, rfl, by simp [World.setRow], fun k hk => ?_⟩
  show (w.heap.modify g _)[k]? = _
  rw [Array.getElem?_modify, if_neg (by omega)]
/-- copy into a block that is just as long. -/
theorem copyE {w : World} {base g : Nat} {L : List En} {a : Option Addr} {c : Nat} {cur : Array Value} (hh : w.heap[g]? = some (.cells cur 48 (0, 0))) (hsz : cur.size = L.length * 6) (hbase : base ≤ g) (r : Es w a L) (hm : 0 < L.length) :
    ∃ W, Sem.run Try.prog (Builtin.copy_ #[22, 22] 3 #[.slice (some ⟨g, 0, none⟩) L.length L.length, .slice a L.length c]) w = .ok (goInt L.length) W ∧ EB W g L ∧ Below base w W := by
  obtain ⟨b, oo, rfl, hv⟩ := r hm
  have hr := run_copy_any (P := Try.prog) w 22 22 3 48 6 g 0 L.length L.length ⟨b, oo, none⟩ L.length c cur 48 (ecs L) Try.underlying22 (by kernel_rfl) hh (by rw [ecs_length, show Nat.min L.length L.length = L.length from Nat.min_self _]) (fun j u hu => by rw [add_plain]; exact EAt.cells hv j u hu) (by rw [ecs_length, hsz]; omega) ecs_one
  rw [show Nat.min L.length L.length = L.length from Nat.min_self _] at hr
  refine ⟨_, hr, ⟨_, setRow_heap w g cur _ _ _ hh, ?_⟩, below_setRow _ hbase⟩
  show cur.toList.take 0 ++ ecs L ++ cur.toList.drop (0 + (ecs L).length) = _
  rw [List.take_zero, List.nil_append, Nat.zero_add, ecs_length, List.drop_of_length_le (by rw [Array.length_toList, hsz]; omega), List.append_nil]
/-- copy of nothing. -/
theorem copy_none {w : World} {dl dc c : Nat} {d a : Option Addr} :
    Sem.run Try.prog (Builtin.copy_ #[22, 22] 3 #[.slice d dl dc, .slice a 0 c]) w = .ok (goInt 0) w := by
  obtain ⟨i, hi, _⟩ := Option.map_eq_some_iff.1 infoE
  have hl : ∀ (x : Addr), (loadCells x 0).run Try.prog w = .ok #[] w := fun x => by simpa using run_loadCells_list (P := Try.prog) w x [] (by simp)
  have hu := run_underlying (P := Try.prog) (w := w) Try.underlying22
  cases d <;> cases a <;> simp [Builtin.copy_, hu, Builtin.lenOf, Builtin.firstCells, sizeOf, typeInfo, hi, storeCells, hl]

/-! ### a block of entries and the sort's words -/
theorem flat_ecs (L : List En) : (flatK cellsE 6 L.toArray).toList = ecs L := by
  refine ecs_ext (by rw [Array.length_toList, size_flatK, List.size_toArray]) fun i hi r hr => ?_
  have hlt : i * 6 + r < L.toArray.size * 6 := by rw [List.size_toArray]; omega
  have h := get_flatK cellsE 6 L.toArray (i * 6 + r) hlt
  have e1 : (i * 6 + r) / 6 = i := by omega
  have e2 : (i * 6 + r) % 6 = r := by omega
  rw [e1, e2] at h
  rw [Array.getElem?_toList, Array.getElem?_eq_getElem (by rw [size_flatK]; exact hlt), ← getElem!_pos (flatK cellsE 6 L.toArray) (i * 6 + r) (by rw [size_flatK]; exact hlt), h]
  have e3 : L.toArray[i]! = L[i]! := by simp
  rw [e3]
  match r, hr with
  | 0, _ => rfl
  | 1, _ => rfl
  | 2, _ => rfl
  | 3, _ => rfl
  | 4, _ => rfl
  | 5, _ => rfl
theorem EB.holds {w : World} {g : Nat} {L : List En} (h : EB w g L) : HoldsK cellsE 6 w g 0 L.toArray := by
  obtain ⟨cur, hh, e⟩ := h
  intro j hj
  refine ⟨?_, frozen_of_row w g (0 + j) _ _ hh⟩
  rw [Nat.zero_add, cell_of_row w g _ cur _ _ hh, ← Array.getElem?_toList, e, ← flat_ecs, Array.getElem?_toList, Array.getElem?_eq_getElem hj, getElem!_pos _ j hj]
  rfl
theorem EB.sorted {w : World} {g n : Nat} {L : List En} (h : EB w g L) (d : Array En) (os : Array Obj) (hd : d.size = L.length) : EB (sortWorldK cellsE 6 w g 0 n d os) g d.toList := by
  obtain ⟨cur, hh, e⟩ := h
  have hs : cur.size = L.length * 6 := by rw [← Array.length_toList, e, ecs_length]
  have hg : g < w.heap.size := (Array.getElem?_eq_some_iff.1 hh).1
  refine ⟨putCells id 0 (flatK cellsE 6 d) cur, ?_, ?_⟩
  · unfold sortWorldK grow putRowK putRow mapBlock Sort.ahead
    show ((w.heap.modify g _) ++ os)[g]? = _
    rw [Array.getElem?_append_left (by rw [Array.size_modify]; exact hg), Array.getElem?_modify, if_pos rfl, hh]
    rfl
  · rw [← flat_ecs, Array.toArray_toList]
    apply List.ext_getElem?
    intro j
    rw [Array.getElem?_toList, Array.getElem?_toList]
    unfold putCells
    rw [Array.getElem?_mapIdx]
    by_cases hj : j < d.size * 6
    · rw [Array.getElem?_eq_getElem (by omega), Array.getElem?_eq_getElem (by rw [size_flatK]; exact hj)]
      simp only [Option.map_some]
      rw [if_pos (by rw [size_flatK]; omega), Nat.sub_zero, getElem!_pos _ j (by rw [size_flatK]; exact hj)]
      rfl
    · rw [Array.getElem?_eq_none (by omega), Array.getElem?_eq_none (by rw [size_flatK]; omega)]; rfl
theorem below_sorted {w0 w : World} {g n : Nat} (h : Below w0.heap.size w0 w) (hg : w0.heap.size ≤ g) (hl : g < w.heap.size) (d : Array En) (os : Array Obj) : Below w0.heap.size w0 (sortWorldK cellsE 6 w g 0 n d os) := by
  have h1 : Below w0.heap.size w0 (putRowK cellsE 6 (Sort.ahead w n) g 0 d) := Lib.below_putRow h hg
  refine ⟨h1.os, h1.tape, h1.output, ?_, fun k hk => ?_⟩
  · have := h1.size
    unfold sortWorldK grow
    show _ ≤ ((putRowK cellsE 6 (Sort.ahead w n) g 0 d).heap ++ os).size
    rw [Array.size_append]; omega
  · have := h1.size
    unfold sortWorldK grow
    show ((putRowK cellsE 6 (Sort.ahead w n) g 0 d).heap ++ os)[k]? = _
    rw [Array.getElem?_append_left (by omega)]; exact h1.block k hk
end Go.Proofs.Ytahnkkifegdjeaa
