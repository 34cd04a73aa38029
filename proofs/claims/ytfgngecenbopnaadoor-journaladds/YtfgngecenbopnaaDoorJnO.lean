/-
  Rows of versions: that a call made, that are appended to, copied, cut.
-/
import Derived.Test.YtfgngecenbopnaaDoorJnV
import Derived.Laws.CopyRow
namespace Go.Proofs.YtfgngecenbopnaaDoor
open Go.RowKit Crc
attribute [local go_sem ↓] Go.wp_at_zero Go.wp_at_succ
set_option linter.unusedVariables false

def cellsV (v : Ver) : List Value := [.int .i64 v.id, .bool v.mr, .int .i64 v.sz, .int .u32 (v.sm : Int)]
/-- The cells of the first n versions. -/
def vcs (F : Nat → Ver) : Nat → List Value
  | 0 => []
  | n + 1 => vcs F n ++ cellsV (F n)
theorem vcs_length (F : Nat → Ver) (n : Nat) : (vcs F n).length = n * 4 := by
  induction n with
  | zero => rfl
  | succ n ih => unfold vcs; rw [List.length_append, ih]; show n * 4 + 4 = _; omega
theorem vcs_congr {F G : Nat → Ver} {n : Nat} (h : ∀ i, i < n → F i = G i) : vcs F n = vcs G n := by
  induction n with
  | zero => rfl
  | succ n ih => unfold vcs; rw [ih (fun i hi => h i (by omega)), h n (by omega)]
theorem vcs_at {F : Nat → Ver} {n i : Nat} (hi : i < n) (r : Nat) (hr : r < 4) : (vcs F n)[i * 4 + r]? = (cellsV (F i))[r]? := by
  induction n with
  | zero => omega
  | succ n ih =>
    unfold vcs
    by_cases e : i < n
    · rw [List.getElem?_append_left (by rw [vcs_length]; omega)]; exact ih e
    · have : i = n := by omega
      subst this
      rw [List.getElem?_append_right (by rw [vcs_length]; omega), vcs_length, Nat.add_sub_cancel_left]
theorem vcs_one {F : Nat → Ver} {n : Nat} : ∀ u ∈ vcs F n, u.oneCell' = true := by
  induction n with
  | zero => intro u hu; cases hu
  | succ n ih =>
    intro u hu
    unfold vcs at hu
    rcases List.mem_append.1 hu with h | h
    · exact ih u h
    · unfold cellsV at h
      simp at h
      rcases h with rfl | rfl | rfl | rfl <;> rfl
theorem vcs_ext {L : List Value} {F : Nat → Ver} {n : Nat} (hl : L.length = n * 4) (h : ∀ i, i < n → ∀ r, r < 4 → L[i * 4 + r]? = (cellsV (F i))[r]?) : L = vcs F n := by
  apply List.ext_getElem?
  intro j
  by_cases hj : j < n * 4
  · have e : j = j / 4 * 4 + j % 4 := by omega
    rw [e, h (j / 4) (by omega) (j % 4) (by omega), vcs_at (by omega) (j % 4) (by omega)]
  · rw [List.getElem?_eq_none (by omega), List.getElem?_eq_none (by rw [vcs_length]; omega)]
/-- F's first n, then G. -/
def catV (n : Nat) (F G : Nat → Ver) : Nat → Ver := fun j => if j < n then F j else G (j - n)
theorem vcs_cat (n m : Nat) (F G : Nat → Ver) : vcs F n ++ vcs G m = vcs (catV n F G) (n + m) := by
  refine vcs_ext (by rw [List.length_append, vcs_length, vcs_length]; omega) fun i hi r hr => ?_
  unfold catV
  by_cases h : i < n
  · rw [if_pos h, List.getElem?_append_left (by rw [vcs_length]; omega), vcs_at h r hr]
  · rw [if_neg h, List.getElem?_append_right (by rw [vcs_length]; omega), vcs_length, show i * 4 + r - n * 4 = (i - n) * 4 + r by omega, vcs_at (by omega) r hr]

theorem infoV : (Tryd.prog.info? 33).map (fun i => (i.zero, i.size, i.bytes)) = some (some (.agg #[.int .i64 0, .bool false, .int .i64 0, .int .u32 0]), 4, 32) := by kernel_rfl

theorem Vs.cells {w : World} {b o n : Nat} {F : Nat → Ver} (h : ∀ i, i < n → VAt w b (o + i * 4) (F i)) (j : Nat) (u : Value) (hu : (vcs F n)[j]? = some u) : w.cell? ⟨b, o + j, none⟩ = some u := by
  have hj : j < n * 4 := by rw [← vcs_length F n]; exact (List.getElem?_eq_some_iff.1 hu).1
  obtain ⟨i, r, e, hi, hr⟩ : ∃ i r, j = i * 4 + r ∧ i < n ∧ r < 4 := ⟨j / 4, j % 4, by omega, by omega, by omega⟩
  subst e
  rw [vcs_at hi r hr] at hu
  obtain ⟨c0, c1, c2, c3⟩ := h i hi
  rw [show o + (i * 4 + r) = o + i * 4 + r by omega, ← hu]
  match r, hr with
  | 0, _ => exact c0
  | 1, _ => exact c1
  | 2, _ => exact c2
  | 3, _ => exact c3

/-- A row of versions of one's own. -/
def VOwn (w : World) (base : Nat) (v : Value) (n : Nat) (F : Nat → Ver) : Prop := w.ownsRow base 33 4 v n (vcs F n)
theorem VOwn.start (w : World) (base : Nat) (F : Nat → Ver) : VOwn w base (.slice none 0 0) 0 F := ⟨rfl, .inl ⟨rfl, rfl⟩⟩
theorem VOwn.congr {w : World} {base n : Nat} {v : Value} {F G : Nat → Ver} (h : VOwn w base v n F) (e : ∀ i, i < n → F i = G i) : VOwn w base v n G := by
  unfold VOwn; rw [← vcs_congr e]; exact h
theorem VOwn.keep {w w' : World} {base n : Nat} {v : Value} {F : Nat → Ver} (h : VOwn w base v n F) (hb : Below w.heap.size w w') : VOwn w' base v n F := by
  rcases h with ⟨hl, e | ⟨g, cap, cur, e, hg, hh, hr⟩⟩
  · exact ⟨hl, .inl e⟩
  · refine ⟨hl, .inr ⟨g, cap, cur, e, hg, ?_, hr⟩⟩
    have hlt : g < w.heap.size := (Array.getElem?_eq_some_iff.1 hh).1
    rw [hb.block g hlt]; exact hh
theorem vat_of_row {w : World} {g n m : Nat} {cur : Array Value} {F : Nat → Ver} (hh : w.heap[g]? = some (.cells cur 33 (0, 0))) (e : cur.toList.take (n * 4) = vcs F n) {i : Nat} (hi : i < n) : VAt w g (i * 4) (F i) := by
  have hc : ∀ r, r < 4 → w.cell? ⟨g, i * 4 + r, none⟩ = (cellsV (F i))[r]? := fun r hr => by
    rw [cell_of_row w g _ cur _ _ hh, ← vcs_at hi r hr, ← e, List.getElem?_take, if_pos (by omega), Array.getElem?_toList]
  exact ⟨hc 0 (by omega), hc 1 (by omega), hc 2 (by omega), hc 3 (by omega)⟩
/-- What a row of one's own is as a slice. -/
theorem VOwn.vs {w : World} {base n : Nat} {v : Value} {F : Nat → Ver} (h : VOwn w base v n F) (hf : ∀ i, (F i).fits) :
    ∃ a c, v = .slice a n c ∧ Vs w a n F ∧ (a = none → n = 0 ∧ c = 0) ∧ n ≤ c ∧ c ≤ maxLen := by
  rcases h.2 with ⟨rfl, rfl⟩ | ⟨g, cap, cur, rfl, hg, hh, hnc, hm, hsz, ht⟩
  · exact ⟨none, 0, rfl, ⟨hf, fun h => absurd h (by omega)⟩, fun _ => ⟨rfl, rfl⟩, Nat.le_refl _, by unfold maxLen; omega⟩
  · exact ⟨some ⟨g, 0, none⟩, cap, rfl, ⟨hf, fun _ => ⟨g, 0, rfl, fun i hi => by rw [Nat.zero_add]; exact vat_of_row (m := cap) hh ht hi⟩⟩, (fun e => by cases e), hnc, hm⟩
/-- Any row behind one's own. -/
theorem appendV {w : World} {base n m c : Nat} {v : Value} {F G : Nat → Ver} {a : Option Addr} (h : VOwn w base v n F) (r : Vs w a m G) (z : a = none → m = 0 ∧ c = 0) (hl : n + m ≤ 1000000) (hb : base ≤ w.heap.size) :
    ∃ v' W, Sem.run Tryd.prog (Builtin.append_ #[24, 24] 24 #[v, .slice a m c]) w = .ok v' W ∧ VOwn W base v' (n + m) (catV n F G) ∧ w.grownBy W v.ownBlock ∧ Below base w W := by
  obtain ⟨i, hi, hzz⟩ := Option.map_eq_some_iff.1 infoV
  simp only [Prod.mk.injEq] at hzz
  obtain ⟨hz, hs, hby⟩ := hzz
  cases a with
  | none =>
    obtain ⟨rfl, rfl⟩ := z rfl
    have hr := run_append_owned_none (P := Tryd.prog) w base 24 24 33 i 4 Tryd.underlying24 hi v n (vcs F n) h
    refine ⟨v, w, hr, h.congr (fun i hi => by unfold catV; rw [if_pos hi]), ?_, Below.refl _ _⟩
    exact ⟨rfl, rfl, rfl, Nat.le_refl _, fun _ _ _ => rfl⟩
  | some x =>
    have hc : ∀ j u, (vcs G m)[j]? = some u → w.cell? (x.add j) = some u := fun j u hu => by
      have hj : j < m * 4 := by rw [← vcs_length G m]; exact (List.getElem?_eq_some_iff.1 hu).1
      obtain ⟨b, o, e, hv⟩ := r.lies (by omega)
      injection e with e
      subst e
      rw [add_plain]; exact Vs.cells hv j u hu
    obtain ⟨v', W, hr, hown, hg, _⟩ := run_append_own (P := Tryd.prog) w base 24 24 33 i (.agg #[.int .i64 0, .bool false, .int .i64 0, .int .u32 0]) 4 32 Tryd.underlying24 hi hz hs hby rfl (by omega) v n (vcs F n) h x m c (vcs G m) (by rw [vcs_length]) hc vcs_one (by unfold maxLen; omega) (by omega) hb
    rw [vcs_cat] at hown
    exact ⟨v', W, hr, hown, hg, (Below.refl base w).grown hg hb fun k hk => (h.lt k hk).1⟩

/-- A block that is full of versions. -/
def VB (w : World) (g n : Nat) (F : Nat → Ver) : Prop := ∃ cur : Array Value, w.heap[g]? = some (.cells cur 33 (0, 0)) ∧ cur.toList = vcs F n
theorem VB.at {w : World} {g n i : Nat} {F : Nat → Ver} (h : VB w g n F) (hi : i < n) : VAt w g (i * 4) (F i) := by
  obtain ⟨cur, hh, e⟩ := h
  exact vat_of_row (m := n) hh (by rw [e, List.take_of_length_le (by rw [vcs_length]; omega)]) hi
theorem VB.soft {w : World} {g n : Nat} {F : Nat → Ver} (h : VB w g n F) (j : Nat) : w.frozen? ⟨g, j, none⟩ = false := by
  obtain ⟨cur, hh, e⟩ := h
  exact frozen_of_row w g j _ _ hh
theorem VB.lt {w : World} {g n : Nat} {F : Nat → Ver} (h : VB w g n F) : g < w.heap.size := by
  obtain ⟨cur, hh, e⟩ := h
  exact (Array.getElem?_eq_some_iff.1 hh).1
theorem VB.keep {w w' : World} {g n : Nat} {F : Nat → Ver} (h : VB w g n F) (hb : Below w.heap.size w w') : VB w' g n F := by
  have hl := h.lt
  obtain ⟨cur, hh, e⟩ := h
  exact ⟨cur, by rw [hb.block g hl]; exact hh, e⟩
theorem VB.congr {w : World} {g n : Nat} {F G : Nat → Ver} (h : VB w g n F) (e : ∀ i, i < n → F i = G i) : VB w g n G := by
  obtain ⟨cur, hh, e'⟩ := h
  exact ⟨cur, hh, by rw [e', vcs_congr e]⟩
theorem VB.vs {w : World} {g n : Nat} {F : Nat → Ver} (h : VB w g n F) (hf : ∀ i, (F i).fits) : Vs w (some ⟨g, 0, none⟩) n F :=
  ⟨hf, fun _ => ⟨g, 0, rfl, fun i hi => by rw [Nat.zero_add]; exact h.at hi⟩⟩
/-- One of them is written anew. -/
theorem VB.put {w : World} {g n k : Nat} {F : Nat → Ver} (h : VB w g n F) (hk : k < n) (v : Ver) :
    VB ((((w.setCell ⟨g, k * 4, none⟩ (.int .i64 v.id)).setCell ⟨g, k * 4 + 1, none⟩ (.bool v.mr)).setCell ⟨g, k * 4 + 2, none⟩ (.int .i64 v.sz)).setCell ⟨g, k * 4 + 3, none⟩ (.int .u32 (v.sm : Int))) g n (upd F k v) := by
  obtain ⟨cur, hh, e⟩ := h
  have h1 := heap_setCell_same _ g (k * 4) _ _ (.int .i64 v.id) hh
  have h2 := heap_setCell_same _ g (k * 4 + 1) _ _ (.bool v.mr) h1
  have h3 := heap_setCell_same _ g (k * 4 + 2) _ _ (.int .i64 v.sz) h2
  have h4 := heap_setCell_same _ g (k * 4 + 3) _ _ (.int .u32 (v.sm : Int)) h3
  refine ⟨_, h4, ?_⟩
  have hl : cur.toList.length = n * 4 := by rw [e, vcs_length]
  refine vcs_ext (by simp only [Array.toList_setIfInBounds, List.length_set]; exact hl) fun i hi r hr => ?_
  simp only [Array.toList_setIfInBounds, List.getElem?_set, List.length_set, hl]
  by_cases ei : i = k
  · subst ei
    rw [upd_at]
    match r, hr with
    | 0, _ => rw [if_neg (by omega), if_neg (by omega), if_neg (by omega), if_pos (by omega), if_pos (by omega)]; rfl
    | 1, _ => rw [if_neg (by omega), if_neg (by omega), if_pos rfl, if_pos (by omega)]; rfl
    | 2, _ => rw [if_neg (by omega), if_pos rfl, if_pos (by omega)]; rfl
    | 3, _ => rw [if_pos rfl, if_pos (by omega)]; rfl
  · rw [upd_ne _ _ ei, if_neg (by omega), if_neg (by omega), if_neg (by omega), if_neg (by omega), e, vcs_at hi r hr]

def zeroV : Ver := ⟨0, false, 0, 0⟩
theorem zeroV_fits : zeroV.fits := ⟨by decide, by decide, by decide, by decide, by decide⟩
/-- make([]api.Version, n). -/
theorem makeV (w : World) (n : Nat) (hn : n ≤ 1000000) : ∃ W, Sem.run Tryd.prog (Instr.makeSlice 24 (.int .i64 (n : Int)) (.int .i64 (n : Int))) w = .ok (.slice (some ⟨w.heap.size, 0, none⟩) n n) W ∧ VB W w.heap.size n (fun _ => zeroV) ∧ Below w.heap.size w W := by
  obtain ⟨i, hi, hzz⟩ := Option.map_eq_some_iff.1 infoV
  simp only [Prod.mk.injEq] at hzz
  obtain ⟨hz, hs, hby⟩ := hzz
  obtain ⟨W, hr, ho, hg⟩ := run_make_full (P := Tryd.prog) w w.heap.size 24 33 i (.agg #[.int .i64 0, .bool false, .int .i64 0, .int .u32 0]) 4 Tryd.underlying24 hi hz hs .i64 .i64 n (by rw [hby]; omega) (by unfold maxLen; omega) (Nat.le_refl _)
  refine ⟨W, hr, ?_, (Below.refl _ _).grown hg (Nat.le_refl _) (fun k hk => by cases hk)⟩
  rcases ho.2 with ⟨e, _⟩ | ⟨g, cap, cur, e, _, hh, _, _, hsz, ht⟩
  · cases e
  · injection e with e1 e2 e3
    injection e1 with e1
    injection e1 with e1
    subst e1; subst e3
    refine ⟨cur, hh, ?_⟩
    rw [← List.take_of_length_le (l := cur.toList) (i := n * 4) (by rw [Array.length_toList, hsz]; exact Nat.le_refl _), ht]
    refine vcs_ext (by rw [Array.length_toList, size_madeCells]) fun i hi r hr => ?_
    have hlt : i * 4 + r < n * 4 := by omega
    have hm : (i * 4 + r) % 4 = r := by omega
    simp only [madeCells, Value.cells, Array.toList_map, Array.toList_range, List.getElem?_map, List.getElem?_range hlt, Option.map_some]
    show some (#[Value.int .i64 0, .bool false, .int .i64 0, .int .u32 0][(i * 4 + r) % 4]!) = _
    rw [hm]
    match r, hr with
    | 0, _ => rfl
    | 1, _ => rfl
    | 2, _ => rfl
    | 3, _ => rfl

theorem run_copy_any {P : Program} (w : World) (dT sT ty elem : TypeId) (sz g o dLen dCap : Nat) (a : Addr) (sLen sCap : Nat) (cur : Array Value) (t : TypeId) (cs : List Value)
    (hu : P.underlying dT = some (.slice elem)) (hs : (P.info? elem).map (·.size) = some sz)
    (hg : w.heap[g]? = some (.cells cur t (0, 0))) (hn : cs.length = Nat.min sLen dLen * sz)
    (hsrc : ∀ j v, cs[j]? = some v → w.cell? (a.add j) = some v) (hfit : o + cs.length ≤ cur.size) (h1 : ∀ v ∈ cs, v.oneCell' = true) :
    (Builtin.copy_ #[dT, sT] ty #[.slice (some ⟨g, o, none⟩) dLen dCap, .slice (some a) sLen sCap]).run P w =
      .ok (goInt (Nat.min sLen dLen)) (w.setRow g (cur.toList.take o ++ cs ++ cur.toList.drop (o + cs.length)).toArray) := by
  have hl := run_loadCells_list (P := P) w a cs hsrc
  have hst := run_storeCells_at P g o t cs 0 cur w hg (by simpa using hfit) h1
  cases hq : P.info? elem with
  | none => simp [hq] at hs
  | some i =>
    have hi : i.size = sz := by simpa [hq] using hs
    simp [Builtin.copy_, run_underlying hu, Builtin.lenOf, Builtin.firstCells, sizeOf, typeInfo, hq, hi, ← hn, hl, hst]
/-- m of G's, from o on. -/
def spl (F : Nat → Ver) (o m : Nat) (G : Nat → Ver) : Nat → Ver := fun i => if o ≤ i ∧ i < o + m then G (i - o) else F i
theorem below_setRow {w : World} {base g : Nat} (cs : Array Value) (hb : base ≤ g) : Below base w (w.setRow g cs) := by
  refine ⟨rfl, rfl, rfl, by simp [World.setRow], fun k hk => ?_⟩
  show (w.heap.modify g _)[k]? = _
  rw [Array.getElem?_modify, if_neg (by omega)]
/-- copy. -/
theorem copyV {w : World} {base g n o dl dc m c : Nat} {F G : Nat → Ver} {a : Option Addr} (h : VB w g n F) (hbase : base ≤ g) (r : Vs w a m G) (hm : 0 < m) (hd : m ≤ dl) (hfit : o + m ≤ n) :
    ∃ W, Sem.run Tryd.prog (Builtin.copy_ #[24, 24] 3 #[.slice (some ⟨g, o * 4, none⟩) dl dc, .slice a m c]) w = .ok (goInt m) W ∧ VB W g n (spl F o m G) ∧ Below base w W := by
  obtain ⟨cur, hh, e⟩ := h
  obtain ⟨b, oo, rfl, hv⟩ := r.lies hm
  have hl : cur.toList.length = n * 4 := by rw [e, vcs_length]
  have hl' : cur.size = n * 4 := by rw [← Array.length_toList]; exact hl
  have hr := run_copy_any (P := Tryd.prog) w 24 24 3 33 4 g (o * 4) dl dc ⟨b, oo, none⟩ m c cur 33 (vcs G m) Tryd.underlying24 (by kernel_rfl) hh (by rw [vcs_length, show Nat.min m dl = m from Nat.min_eq_left hd]) (fun j u hu => by rw [add_plain]; exact Vs.cells hv j u hu) (by rw [vcs_length, hl']; omega) vcs_one
  rw [show Nat.min m dl = m from Nat.min_eq_left hd] at hr
  refine ⟨_, hr, ⟨_, setRow_heap w g cur _ _ _ hh, ?_⟩, below_setRow _ hbase⟩
  show cur.toList.take (o * 4) ++ vcs G m ++ cur.toList.drop (o * 4 + (vcs G m).length) = _
  rw [vcs_length, e]
  refine vcs_ext (by simp only [List.length_append, List.length_take, List.length_drop, vcs_length]; omega) fun i hi q hq => ?_
  unfold spl
  by_cases h1 : i < o
  · rw [if_neg (by omega), List.append_assoc, List.getElem?_append_left (by rw [List.length_take, vcs_length]; omega), List.getElem?_take, if_pos (by omega), vcs_at hi q hq]
  · by_cases h2 : i < o + m
    · rw [if_pos ⟨by omega, h2⟩, List.append_assoc, List.getElem?_append_right (by rw [List.length_take, vcs_length]; omega), List.length_take, vcs_length, List.getElem?_append_left (by rw [vcs_length]; omega),
        show i * 4 + q - min (o * 4) (n * 4) = (i - o) * 4 + q by omega, vcs_at (by omega) q hq]
    · rw [if_neg (by omega), List.getElem?_append_right (by rw [List.length_append, List.length_take, vcs_length, vcs_length]; omega), List.getElem?_drop, List.length_append, List.length_take, vcs_length, vcs_length,
        show o * 4 + m * 4 + (i * 4 + q - (min (o * 4) (n * 4) + m * 4)) = i * 4 + q by omega, vcs_at hi q hq]
/-- copy of nothing. -/
theorem copy_none {w : World} {dl dc c : Nat} {d a : Option Addr} :
    Sem.run Tryd.prog (Builtin.copy_ #[24, 24] 3 #[.slice d dl dc, .slice a 0 c]) w = .ok (goInt 0) w := by
  obtain ⟨i, hi, _⟩ := Option.map_eq_some_iff.1 infoV
  have hl : ∀ (x : Addr), (loadCells x 0).run Tryd.prog w = .ok #[] w := fun x => by simpa using run_loadCells_list (P := Tryd.prog) w x [] (by simp)
  have hu := run_underlying (P := Tryd.prog) (w := w) Tryd.underlying24
  cases d <;> cases a <;> simp [Builtin.copy_, hu, Builtin.lenOf, Builtin.firstCells, sizeOf, typeInfo, hi, storeCells, hl]

/-- v[t:] -/
theorem sliceV_l (a : Option Addr) (n c t : Nat) (ht : t ≤ n) (hc : n ≤ c) (w' : World) :
    Sem.run Tryd.prog (Instr.slice 24 (.slice a n c) (some (.int .i64 (t : Int))) none none) w' = .ok (.slice (if c = t then a else a.map (·.add (t * 4))) (n - t) (c - t)) w' := by
  rw [run_slice_l w' 24 a n c Tryd.underlying24 .i64 (t : Int) (by omega) (by omega)]
  have e : (sizeOf (Tryd.prog.elem 24)).run Tryd.prog w' = .ok 4 w' := by kernel_rfl
  rw [e]
  show Result.ok (sliced a _ _ c 4) w' = _
  unfold sliced
  rw [show ((t : Int)).toNat = t by omega]
theorem sliceV_h (a : Option Addr) (n c m : Nat) (hm : m ≤ n) (hc : n ≤ c) (w' : World) :
    Sem.run Tryd.prog (Instr.slice 24 (.slice a n c) none (some (.int .i64 (m : Int))) none) w' = .ok (.slice (if c = 0 then a else a.map (·.add (0 * 4))) m c) w' := by
  rw [run_slice_h w' 24 a n c Tryd.underlying24 .i64 (m : Int) (by omega) (by omega)]
  have e : (sizeOf (Tryd.prog.elem 24)).run Tryd.prog w' = .ok 4 w' := by kernel_rfl
  rw [e]
  show Result.ok (sliced a _ _ c 4) w' = _
  unfold sliced
  rw [show ((m : Int)).toNat = m by omega, Nat.sub_zero, Nat.sub_zero]
theorem Vs.cut {w : World} {a : Option Addr} {n c : Nat} {F : Nat → Ver} (h : Vs w a n F) (t m : Nat) (hm : t + m ≤ n) (hc : n ≤ c) : Vs w (if c = t then a else a.map (·.add (t * 4))) m (fun i => F (t + i)) := by
  refine ⟨fun i => h.ft _, fun h0 => ?_⟩
  obtain ⟨b, o, rfl, hv⟩ := h.lies (by omega)
  refine ⟨b, o + t * 4, ?_, fun i hi => ?_⟩
  · rw [if_neg (by omega)]; simp [add_plain]
  · have := hv (t + i) (by omega)
    rw [show o + t * 4 + i * 4 = o + (t + i) * 4 by omega]; exact this
end Go.Proofs.YtfgngecenbopnaaDoor
