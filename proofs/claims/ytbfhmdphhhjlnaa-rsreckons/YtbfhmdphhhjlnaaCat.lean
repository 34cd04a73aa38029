/-
  What bytes.Clone and slices.Concat (of two rows) do: a new row with the bytes of one row, of two rows.
-/
import Derived.Test.YtbfhmdphhhjlnaaMxMul
import Derived.Lib.AppendZeros
namespace Go.Proofs.Ytbfhmdphhhjlnaa
open Go.RowKit Gf
attribute [local go_sem ↓] Go.wp_at_zero Go.wp_at_succ

/-- The cells of a row. -/
def bs (f : Nat → Nat) (n : Nat) : List Value := (List.range n).map fun i => Value.int .u8 ((f i : Nat) : Int)
theorem bs_length (f : Nat → Nat) (n : Nat) : (bs f n).length = n := by unfold bs; simp
theorem bs_at {f : Nat → Nat} {n j : Nat} (hj : j < n) : (bs f n)[j]? = some (.int .u8 ((f j : Nat) : Int)) := by unfold bs; simp [hj]
theorem bs_one {f : Nat → Nat} {n : Nat} : ∀ u ∈ bs f n, u.oneCell' = true := fun v hv => by unfold bs at hv; simp at hv; obtain ⟨_, _, rfl⟩ := hv; rfl
/-- f's first n, then g. -/
def cat (n : Nat) (f g : Nat → Nat) : Nat → Nat := fun j => if j < n then f j else g (j - n)
theorem bs_cat (n m : Nat) (f g : Nat → Nat) : bs f n ++ bs g m = bs (cat n f g) (n + m) := by
  apply List.ext_getElem?
  intro j
  by_cases h1 : j < n
  · rw [List.getElem?_append_left (by rw [bs_length]; exact h1), bs_at h1, bs_at (by omega)]; unfold cat; rw [if_pos h1]
  · rw [List.getElem?_append_right (by rw [bs_length]; omega), bs_length]
    by_cases h2 : j < n + m
    · rw [bs_at (by omega), bs_at h2]; unfold cat; rw [if_neg h1]
    · rw [List.getElem?_eq_none (by rw [bs_length]; omega), List.getElem?_eq_none (by rw [bs_length]; omega)]

theorem add_plain (b o j : Nat) : (⟨b, o, none⟩ : Addr).add j = ⟨b, o + j, none⟩ := by unfold Addr.add; split <;> simp_all

theorem Below.ofGrown {base n : Nat} {w W : World} {e : TypeId} {size : Nat} {v : Value} {xs : List Value} (h : w.ownsRow base e size v n xs) (g : w.grownBy W v.ownBlock) (hb : base ≤ w.heap.size) : Below base w W :=
  (Below.refl base w).grown g hb fun k hk => (h.lt k hk).1

theorem appendB {w : World} {base n m c : Nat} {v : Value} {f g : Nat → Nat} {a : Option Addr} (h : w.ownsRow base 5 1 v n (bs f n)) (r : Row w a m g) (hm : 1 ≤ m) (hl : n + m ≤ 140737488355328) (hb : base ≤ w.heap.size) :
    ∃ v' W, Sem.run Try.prog (Builtin.append_ #[30, 30] 30 #[v, .slice a m c]) w = .ok v' W ∧ W.ownsRow base 5 1 v' (n + m) (bs (cat n f g) (n + m)) ∧ w.grownBy W v.ownBlock ∧ Below base w W := by
  obtain ⟨i, hi, hzz⟩ := Option.map_eq_some_iff.1 info5
  simp only [Prod.mk.injEq] at hzz
  obtain ⟨hz, hs, hby⟩ := hzz
  obtain ⟨b, o, rfl, hc⟩ := r.lies (by omega)
  obtain ⟨v', W, hr, hown, hg, _⟩ := run_append_own (P := Try.prog) w base 30 30 5 i (.int .u8 0) 1 1 Try.underlying30 hi hz hs hby rfl (by omega) v n (bs f n) h ⟨b, o, none⟩ m c (bs g m) (by rw [bs_length]; omega)
    (fun j u hu => by
      have hj : j < m := by rw [← bs_length g m]; exact (List.getElem?_eq_some_iff.1 hu).1
      rw [bs_at hj] at hu; injection hu with hu
      rw [add_plain, hc j hj, hu]) bs_one (by unfold maxLen; omega) (by omega) hb
  rw [bs_cat] at hown
  exact ⟨v', W, hr, hown, hg, Below.ofGrown h hg hb⟩

theorem ownB_row {w : World} {base n : Nat} {v : Value} {f : Nat → Nat} (h : w.ownsRow base 5 1 v n (bs f n)) (hn : 1 ≤ n) (hf : ∀ i, f i < 256) :
    ∃ g c, v = .slice (some ⟨g, 0, none⟩) n c ∧ base ≤ g ∧ n ≤ c ∧ Row w (some ⟨g, 0, none⟩) n f := by
  rcases h.2 with ⟨_, e⟩ | ⟨g, cap, cur, e, hg, _, hnc, _⟩
  · omega
  · subst e
    exact ⟨g, cap, rfl, hg, hnc, hf, fun _ => ⟨g, 0, rfl, fun j hj => by rw [Nat.zero_add, h.cellAt j (by omega), bs_at hj]⟩⟩

theorem cat_lt {n : Nat} {f g : Nat → Nat} (hf : ∀ i, f i < 256) (hg : ∀ i, g i < 256) (i : Nat) : cat n f g i < 256 := by
  unfold cat; split; exact hf _; exact hg _

theorem eql_nil (w : World) (a : Addr) (l c : Nat) : Sem.run Try.prog (binOp .eql 30 (.slice (some a) l c) (.slice none 0 0)) w = .ok (.bool false) w := by
  simp [binOp, run_equal_slice_nil (P := Try.prog) w 30 5 (some a) l c Try.underlying30]

set_option maxRecDepth 100000 in
theorem clone_any (a : Option Addr) (n c : Nat) (f : Nat → Nat) (w : World) (h : Row w a n f) (hn : 1 ≤ n) (hl : n ≤ 140737488355328) :
    Calls Try.prog 65 #[.slice a n c] w fun e w' => ∃ g c', e = .returned (.slice (some ⟨g, 0, none⟩) n c') ∧ w.heap.size ≤ g ∧ n ≤ c' ∧ Row w' (some ⟨g, 0, none⟩) n f ∧ Below w.heap.size w w' := by
  obtain ⟨W, hW⟩ : ∃ W, W = w.alloc (.cells #[] 5) := ⟨_, rfl⟩
  have hb : Below w.heap.size w W := by rw [hW]; exact (Below.refl _ _).alloc (Nat.le_refl _) _
  have own : W.ownsRow w.heap.size 5 1 (.slice (some ⟨w.heap.size, 0, none⟩) 0 0) 0 (bs f 0) := by rw [hW]; exact World.ownsRow_lit (e := 5) (size := 1) w #[] 0 (Nat.le_refl _) (by unfold maxLen; omega) (by simp)
  obtain ⟨v, W2, hr, own2, _, hb2⟩ := appendB (c := c) own (h.keep hb) hn (by omega) (by have := hb.size; omega)
  rw [Nat.zero_add] at own2
  have lf := h.lt
  obtain ⟨g, c', rfl, hg, hnc, hrow⟩ := ownB_row own2 hn (cat_lt lf lf)
  have HA : Hid (Sem.run Try.prog (Builtin.append_ #[30, 30] 30 #[.slice (some ⟨w.heap.size, 0, none⟩) 0 0, .slice a n c]) W = .ok (.slice (some ⟨g, 0, none⟩) n c') W2) := hr
  have HR : Hid (Row W2 (some ⟨g, 0, none⟩) n f) := ⟨lf, fun hn => by
    obtain ⟨b, o, e, hc⟩ := hrow.lies hn
    exact ⟨b, o, e, fun i hi => by rw [hc i hi]; unfold cat; rw [if_neg (by omega), Nat.sub_zero]⟩⟩
  have HB : Hid (Below w.heap.size w W2) := hb.trans hb2
  obtain ⟨b, o, rfl, _⟩ := h.lies (by omega)
  clear hr hrow own own2 hb hb2 h lf
  have q0 := eql_nil w ⟨b, o, none⟩ n c
  go_enter Try.func65, Try.ntmps65
  go_wp2_with (at_builtin; rw [← hW]; refine wpList_append_ran (by rfl) _ _ 30 (by rfl) _ _ _ _ (by rfl) (by rfl) HA.out ?_)
  go_wp2
  go_ret
  exact ⟨g, c', rfl, hg, hnc, HR.out, HB.out⟩

set_option maxRecDepth 100000 in
theorem grow_nil (n : Nat) (w : World) (hn : 1 ≤ n) (hl : n ≤ 140737488355328) :
    Calls Try.prog 71 #[.slice none 0 0, .int .i64 n] w fun e w' => ∃ g c, e = .returned (.slice (some ⟨g, 0, none⟩) 0 c) ∧ w'.ownsRow w.heap.size 5 1 (.slice (some ⟨g, 0, none⟩) 0 c) 0 [] ∧ Below w.heap.size w w' := by
  obtain ⟨i, hi, hzz⟩ := Option.map_eq_some_iff.1 info5
  simp only [Prod.mk.injEq] at hzz
  obtain ⟨hz, hs, hby⟩ := hzz
  have hrun := Lib.run_append_nil_zeros (P := Try.prog) w 30 3 30 5 i (.int .u8 0) .i64 .i64 Try.underlying30 Try.underlying3 hi hz n (by omega) (by omega) (by omega) (by rw [hby]; omega)
  have hge := grownCap_ge w n 0 5
  have hle := grownCap_le_maxLen w n 0 5 (by unfold maxLen; omega)
  obtain ⟨cap, hcap⟩ : ∃ cap, grownCap w n 0 5 = cap := ⟨_, rfl⟩
  rw [hcap] at hrun hge hle
  obtain ⟨W, hW⟩ : ∃ W, W = w.drew.alloc (.cells (Builtin.zeroCells (Value.int .u8 0).cells n ++ Builtin.zeroCells (Value.int .u8 0).cells (cap - n)) 5) := ⟨_, rfl⟩
  rw [← hW] at hrun
  have HO : Hid (W.ownsRow w.heap.size 5 1 (.slice (some ⟨w.heap.size, 0, none⟩) 0 cap) 0 []) := by
    refine ⟨by simp, .inr ⟨w.heap.size, cap, Builtin.zeroCells (Value.int .u8 0).cells n ++ Builtin.zeroCells (Value.int .u8 0).cells (cap - n), rfl, Nat.le_refl _, ?_, by omega, hle, ?_, by simp⟩⟩
    · rw [hW]; exact heap_alloc_new w.drew _
    · rw [Array.size_append, size_zeroCells, size_zeroCells]; simp [Value.cells]; omega
  have HB : Hid (Below w.heap.size w W) := by rw [hW]; exact (Below.refl _ _).drew.alloc (Nat.le_refl _) _
  have HA : Hid (Sem.run Try.prog (Builtin.append_ #[30, 3] 30 #[.slice none 0 0, .int .i64 n]) w = .ok (.slice (some ⟨w.heap.size, 0, none⟩) n cap) W) := hrun
  clear hrun hW hcap hz hs hby hi
  go_enter Try.func71, Try.ntmps71
  go_wp2_with (at_builtin; refine Lib.wpList_append_run _ (by rfl) _ _ 30 3 (by rfl) _ _ (by rfl) (by rfl) _ _ HA.out ?_)
  go_wp2
  go_ret
  exact ⟨_, _, rfl, HO.out, HB.out⟩
end Go.Proofs.Ytbfhmdphhhjlnaa
