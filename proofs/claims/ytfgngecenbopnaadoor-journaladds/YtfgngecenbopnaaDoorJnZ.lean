/-
  Rows of numbers that are appended to, beside rows of versions (law JournalAdds).
-/
import Derived.Test.YtfgngecenbopnaaDoorJnL
namespace Go.Proofs.YtfgngecenbopnaaDoor
open Go.RowKit Crc
set_option linter.unusedVariables false

theorem infoI : (Tryd.prog.info? 3).map (fun i => (i.zero, i.size, i.bytes)) = some (some (.int .i64 0), 1, 8) := by kernel_rfl
/-- The numbers L 0 .. L (n - 1). -/
def nums (L : Nat → Int) (n : Nat) : List Value := (List.range n).map fun i => .int .i64 (L i)
theorem nums_length (L : Nat → Int) (n : Nat) : (nums L n).length = n := by unfold nums; simp
theorem nums_at {L : Nat → Int} {n i : Nat} (hi : i < n) : (nums L n)[i]? = some (.int .i64 (L i)) := by unfold nums; simp [hi]
theorem nums_congr {L M : Nat → Int} {n : Nat} (h : ∀ i, i < n → L i = M i) : nums L n = nums M n := by
  unfold nums
  exact List.map_congr_left fun i hi => by rw [h i (List.mem_range.1 hi)]
def catI (n : Nat) (L M : Nat → Int) : Nat → Int := fun j => if j < n then L j else M (j - n)
theorem nums_cat (n m : Nat) (L M : Nat → Int) : nums L n ++ nums M m = nums (catI n L M) (n + m) := by
  apply List.ext_getElem?
  intro i
  by_cases h : i < n
  · rw [List.getElem?_append_left (by rw [nums_length]; exact h), nums_at h, nums_at (by omega)]; unfold catI; rw [if_pos h]
  · rw [List.getElem?_append_right (by rw [nums_length]; omega), nums_length]
    by_cases h2 : i < n + m
    · rw [nums_at (by omega), nums_at h2]; unfold catI; rw [if_neg h]
    · rw [List.getElem?_eq_none (by rw [nums_length]; omega), List.getElem?_eq_none (by rw [nums_length]; omega)]
/-- A slice that begins at a holds the n numbers. -/
def IR (w : World) (a : Option Addr) (n : Nat) (L : Nat → Int) : Prop := 0 < n → ∃ b o, a = some ⟨b, o, none⟩ ∧ ∀ i, i < n → w.cell? ⟨b, o + i, none⟩ = some (.int .i64 (L i))
theorem IR.keep {w w' : World} {a : Option Addr} {n : Nat} {L : Nat → Int} (h : IR w a n L) (hb : Below w.heap.size w w') : IR w' a n L := fun h0 => by
  obtain ⟨b, o, e, hc⟩ := h h0
  exact ⟨b, o, e, fun i hi => (hb.cell (p := ⟨b, o + i, none⟩) (block_lt_of_cell (hc i hi))).trans (hc i hi)⟩
/-- A row of numbers of one's own. -/
def IOwn (w : World) (base : Nat) (v : Value) (n : Nat) (L : Nat → Int) : Prop := w.ownsRow base 3 1 v n (nums L n)
theorem IOwn.start (w : World) (base : Nat) (L : Nat → Int) : IOwn w base (.slice none 0 0) 0 L := ⟨rfl, .inl ⟨rfl, rfl⟩⟩
theorem IOwn.congr {w : World} {base n : Nat} {v : Value} {L M : Nat → Int} (h : IOwn w base v n L) (e : ∀ i, i < n → L i = M i) : IOwn w base v n M := by
  unfold IOwn; rw [← nums_congr e]; exact h
theorem IOwn.keep {w w' : World} {base n : Nat} {v : Value} {L : Nat → Int} (h : IOwn w base v n L) (hb : Below w.heap.size w w') : IOwn w' base v n L := by
  rcases h with ⟨hl, e | ⟨g, cap, cur, e, hg, hh, hr⟩⟩
  · exact ⟨hl, .inl e⟩
  · refine ⟨hl, .inr ⟨g, cap, cur, e, hg, ?_, hr⟩⟩
    have hlt : g < w.heap.size := (Array.getElem?_eq_some_iff.1 hh).1
    rw [hb.block g hlt]; exact hh
theorem IOwn.put {w : World} {base p n j : Nat} {v u : Value} {L : Nat → Int} (h : IOwn w base v n L) (hp : ∀ cur, w.heap[p]? ≠ some (.cells cur 3 (0, 0))) : IOwn (w.setCell ⟨p, j, none⟩ u) base v n L := by
  rcases h with ⟨hl, e | ⟨g, cap, cur, e, hg, hh, hr⟩⟩
  · exact ⟨hl, .inl e⟩
  · refine ⟨hl, .inr ⟨g, cap, cur, e, hg, ?_, hr⟩⟩
    rw [Below.heap_setCell _ _ _ _ (fun q => hp cur (by rw [← show g = p from q]; exact hh))]
    exact hh
theorem IOwn.row {w : World} {base n : Nat} {v : Value} {L : Nat → Int} (h : IOwn w base v n L) :
    ∃ a c, v = .slice a n c ∧ IR w a n L ∧ (a = none → n = 0 ∧ c = 0) ∧ n ≤ c ∧ c ≤ maxLen := by
  rcases h.2 with ⟨rfl, rfl⟩ | ⟨g, cap, cur, rfl, hg, hh, hnc, hm, hsz, ht⟩
  · exact ⟨none, 0, rfl, fun h => absurd h (by omega), fun _ => ⟨rfl, rfl⟩, Nat.le_refl _, by unfold maxLen; omega⟩
  · refine ⟨some ⟨g, 0, none⟩, cap, rfl, fun _ => ⟨g, 0, rfl, fun i hi => ?_⟩, (fun e => by cases e), hnc, hm⟩
    rw [Nat.zero_add, cell_of_row w g _ cur _ _ hh, ← Array.getElem?_toList, ← nums_at hi, ← ht, List.getElem?_take, if_pos (by omega)]
theorem IOwn.grown {w W : World} {base n p : Nat} {v : Value} {L : Nat → Int} {cs : Array Value} {ty : TypeId} (o : IOwn w base v n L) (g : w.grownBy W v.ownBlock) (ht : ty ≠ 3) (h : w.heap[p]? = some (.cells cs ty (0, 0))) : W.heap[p]? = some (.cells cs ty (0, 0)) :=
  (g.block p (Array.getElem?_eq_some_iff.1 h).1 (fun e => by
    rcases o.2 with ⟨rfl, _⟩ | ⟨q, cap, cur, rfl, _, hg, _⟩
    · simp [Value.ownBlock] at e
    · simp [Value.ownBlock] at e
      subst e
      rw [h] at hg
      injection hg with hg
      injection hg with _ hg _
      exact ht hg)).trans h
/-- Any row behind one's own. -/
theorem appendI {w : World} {base n m c : Nat} {v : Value} {L M : Nat → Int} {a : Option Addr} (h : IOwn w base v n L) (r : IR w a m M) (z : a = none → m = 0 ∧ c = 0) (hl : n + m ≤ 1000000) (hb : base ≤ w.heap.size) :
    ∃ v' W, Sem.run Tryd.prog (Builtin.append_ #[27, 27] 27 #[v, .slice a m c]) w = .ok v' W ∧ IOwn W base v' (n + m) (catI n L M) ∧ w.grownBy W v.ownBlock ∧ Below base w W := by
  obtain ⟨i, hi, hzz⟩ := Option.map_eq_some_iff.1 infoI
  simp only [Prod.mk.injEq] at hzz
  obtain ⟨hz, hs, hby⟩ := hzz
  cases a with
  | none =>
    obtain ⟨rfl, rfl⟩ := z rfl
    have hr := run_append_owned_none (P := Tryd.prog) w base 27 27 3 i 1 Tryd.underlying27 hi v n (nums L n) h
    refine ⟨v, w, hr, h.congr (fun i hi => by unfold catI; rw [if_pos hi]), ?_, Below.refl _ _⟩
    exact ⟨rfl, rfl, rfl, Nat.le_refl _, fun _ _ _ => rfl⟩
  | some x =>
    have hc : ∀ j u, (nums M m)[j]? = some u → w.cell? (x.add j) = some u := fun j u hu => by
      have hj : j < m := by rw [← nums_length M m]; exact (List.getElem?_eq_some_iff.1 hu).1
      obtain ⟨b, o, e, hv⟩ := r (by omega)
      injection e with e
      subst e
      rw [nums_at hj] at hu
      rw [add_plain, ← hu]; exact hv j hj
    obtain ⟨v', W, hr, hown, hg, _⟩ := run_append_own (P := Tryd.prog) w base 27 27 3 i (.int .i64 0) 1 8 Tryd.underlying27 hi hz hs hby rfl (by omega) v n (nums L n) h x m c (nums M m) (by rw [nums_length]; omega) hc (fun u hu => by
      unfold nums at hu
      obtain ⟨i, _, rfl⟩ := List.mem_map.1 hu
      rfl) (by unfold maxLen; omega) (by omega) hb
    rw [nums_cat] at hown
    exact ⟨v', W, hr, hown, hg, (Below.refl base w).grown hg hb fun k hk => (h.lt k hk).1⟩
end Go.Proofs.YtfgngecenbopnaaDoor
