/-
  What Journal, Back, Room of layer 7 answer.
-/
import Derived.Test.YtfgngecenbopnaaDoorJnH
namespace Go.Proofs.YtfgngecenbopnaaDoor
open Go.RowKit Crc
attribute [local go_sem ↓] Go.wp_at_zero Go.wp_at_succ
set_option linter.unusedVariables false

/-- v is a journal of n versions in w. -/
def Jn (w : World) (v : Value) (t : Int) (s : ByteArray) (n : Nat) (F : Nat → Ver) : Prop :=
  ∃ a c, v = jv t s (.slice a n c) ∧ Vs w a n F ∧ (a = none → n = 0 ∧ c = 0) ∧ n ≤ c
theorem Jn.keep {w w' : World} {v : Value} {t : Int} {s : ByteArray} {n : Nat} {F : Nat → Ver} (h : Jn w v t s n F) (hb : Below w.heap.size w w') : Jn w' v t s n F := by
  obtain ⟨a, c, e, hv, z, hc⟩ := h
  exact ⟨a, c, e, hv.keep hb, z, hc⟩
theorem VOwn.grown {w W : World} {base n p : Nat} {v : Value} {F : Nat → Ver} {cs : Array Value} {ty : TypeId} (o : VOwn w base v n F) (g : w.grownBy W v.ownBlock) (ht : ty ≠ 33) (h : w.heap[p]? = some (.cells cs ty (0, 0))) : W.heap[p]? = some (.cells cs ty (0, 0)) :=
  (g.block p (Array.getElem?_eq_some_iff.1 h).1 (fun e => by
    rcases o.2 with ⟨rfl, _⟩ | ⟨q, cap, cur, rfl, _, hg, _⟩
    · simp [Value.ownBlock] at e
    · simp [Value.ownBlock] at e
      subst e
      rw [hg] at h
      injection h with h
      injection h with _ h _
      exact ht h.symm)).trans h
theorem VOwn.put {w : World} {base p n j : Nat} {v u : Value} {F : Nat → Ver} (h : VOwn w base v n F) (hp : ∀ cur, w.heap[p]? ≠ some (.cells cur 33 (0, 0))) : VOwn (w.setCell ⟨p, j, none⟩ u) base v n F := by
  rcases h with ⟨hl, e | ⟨g, cap, cur, e, hg, hh, hr⟩⟩
  · exact ⟨hl, .inl e⟩
  · refine ⟨hl, .inr ⟨g, cap, cur, e, hg, ?_, hr⟩⟩
    rw [Below.heap_setCell _ _ _ _ (fun q => hp cur (by rw [← show g = p from q]; exact hh))]
    exact hh
theorem catV_zero (F G : Nat → Ver) : catV 0 F G = G := funext fun j => by unfold catV; rw [if_neg (by omega), Nat.sub_zero]

set_option maxRecDepth 100000 in
set_option maxHeartbeats 1000000 in
theorem journal_any (t : Int) (s : ByteArray) (a : Option Addr) (n c : Nat) (F : Nat → Ver) (w : World) (h : Vs w a n F) (z : a = none → n = 0 ∧ c = 0) (hn : n ≤ 1000) :
    Calls Tryd.prog 11 #[jv t s (.slice a n c)] w fun e w' => ∃ v, e = .returned v ∧ Jn w' v t s n F ∧ Below w.heap.size w w' := by
  obtain ⟨W, hbx, hj, hb⟩ := box_jn w 41 t s (.slice a n c)
  obtain ⟨W2, hW2⟩ : ∃ W2, W.alloc (.cells #[.int .i64 0, .string noS, .slice none 0 0] 26) = W2 := ⟨_, rfl⟩
  have b2 : Below W.heap.size W W2 := by rw [← hW2]; exact bal _ _
  have hd2 : JB W2 W.heap.size 0 noS (.slice none 0 0) 26 := by rw [← hW2]; exact heap_alloc_new _ _
  have bD : Below W2.heap.size W2 W2.drew := (Below.refl _ _).drew
  obtain ⟨v3, W3, hr3, o3, g3, b3⟩ := appendV (c := c) (VOwn.start W2.drew W2.heap.size F) (h.keep (hop hb (hop b2 bD))) z (by omega) (Nat.le_refl _)
  rw [Nat.zero_add, catV_zero] at o3
  obtain ⟨a3, c3, rfl, _, z3, hc3, _⟩ := o3.vs h.ft
  have b23 : Below W2.heap.size W2 W3 := bD.trans b3
  have hd3 : JB W3 W.heap.size 0 noS (.slice none 0 0) 26 := hd2.keep b23
  obtain ⟨d0, d1, d2⟩ := hd3.at
  have f3 : ∀ j, W3.frozen? ⟨W.heap.size, j, none⟩ = false := hd3.soft
  have HS : Hid (∀ X, Below W.heap.size W X → X.cell? ⟨w.heap.size, 0, none⟩ = some (.int .i64 t) ∧ X.cell? ⟨w.heap.size, 1, none⟩ = some (.string s) ∧ X.cell? ⟨w.heap.size, 2, none⟩ = some (.slice a n c)) := fun X hX => by
    have := hj.keep hX
    exact ⟨this.c0, this.c1, this.c2⟩
  have bW3 : Below W.heap.size W W3 := hop b2 b23
  have e0 := HS.out W2.drew (hop b2 bD)
  have e1 := HS.out W3 bW3
  have e2 := HS.out _ (below3 bW3 (Nat.le_refl _) (.int .i64 t) (.string s) (.slice a3 n c3))
  have HB : Hid (Below w.heap.size w (((W3.setCell ⟨W.heap.size, 0, none⟩ (.int .i64 t)).setCell ⟨W.heap.size, 1, none⟩ (.string s)).setCell ⟨W.heap.size, 2, none⟩ (.slice a3 n c3))) := hop hb (below3 bW3 (Nat.le_refl _) _ _ _)
  have HO : Hid (VOwn (((W3.setCell ⟨W.heap.size, 0, none⟩ (.int .i64 t)).setCell ⟨W.heap.size, 1, none⟩ (.string s)).setCell ⟨W.heap.size, 2, none⟩ (.slice a3 n c3)) W2.heap.size (.slice a3 n c3) n F) := by
    have q : ∀ (X : World) (x0 x1 x2 : Value), X.heap[W.heap.size]? = some (.cells #[x0, x1, x2] 26 (0, 0)) → ∀ cur, X.heap[W.heap.size]? ≠ some (.cells cur 33 (0, 0)) := fun X x0 x1 x2 hX cur hY => by
      rw [hX] at hY
      injection hY with hY
      injection hY with _ hY _
      cases hY
    have k1 := heap_setCell_same _ W.heap.size 0 _ _ (.int .i64 t) hd3
    have k2 := heap_setCell_same _ W.heap.size 1 _ _ (.string s) k1
    exact ((o3.put (q _ _ _ _ hd3)).put (q _ _ _ _ k1)).put (q _ _ _ _ k2)
  have HF : Hid (∀ i, (F i).fits) := h.ft
  clear h hb hj b2 hd2 bD o3 g3 b3 b23 hd3 bW3
  unfold jv noS at *
  have HA : Hid (Sem.run Tryd.prog (Builtin.append_ #[24, 24] 24 #[.slice none 0 0, .slice a n c]) W2.drew = .ok (.slice a3 n c3) W3) := hr3
  clear hr3
  obtain ⟨y0, y1, y2⟩ := e0
  go_enter Tryd.func11, Tryd.ntmps11
  go_wp2_with fail
  go_region_held3 (fun X => X.cell? ⟨w.heap.size, 0, none⟩ = some (.int .i64 t) ∧ X.cell? ⟨w.heap.size, 1, none⟩ = some (.string s) ∧ X.cell? ⟨w.heap.size, 2, none⟩ = some (.slice a n c))
    (first | exact ⟨y0, y1, y2⟩ | exact e1 | exact e2)
    (first | refine step_append_ran (by rfl) _ _ 24 (by rfl) _ _ _ _ (by rfl) (by rfl) HA.out ?_)
  go_wp2
  refine bodyPost_ret (v := jv t s (.slice a3 n c3)) (by simp [results, Tryd.results11, go_sem, jv, *]) rfl ⟨_, rfl, ?_, HB.out⟩
  obtain ⟨a4, c4, e4, vs4, z4, hc4, _⟩ := HO.out.vs HF.out
  injection e4 with e5 e6 e7
  subst e5; subst e7
  exact ⟨_, _, rfl, vs4, z4, hc4⟩

set_option maxRecDepth 100000 in
set_option maxHeartbeats 1000000 in
theorem back_any (t : Int) (s : ByteArray) (a : Option Addr) (n c : Nat) (F : Nat → Ver) (w : World) (h : Vs w a n F) (z : a = none → n = 0 ∧ c = 0) (hn : n ≤ 1000) :
    Calls Tryd.prog 14 #[jv t s (.slice a n c)] w fun e w' => ∃ v, e = .returned v ∧ Jn w' v t s n F ∧ Below w.heap.size w w' := by
  obtain ⟨W, hbx, hj, hb⟩ := box_jn w 26 t s (.slice a n c)
  obtain ⟨W2, hW2⟩ : ∃ W2, W.alloc (.cells #[.int .i64 0, .string noS, .slice none 0 0] 41) = W2 := ⟨_, rfl⟩
  have b2 : Below W.heap.size W W2 := by rw [← hW2]; exact bal _ _
  have hd2 : JB W2 W.heap.size 0 noS (.slice none 0 0) 41 := by rw [← hW2]; exact heap_alloc_new _ _
  have bD : Below W2.heap.size W2 W2.drew := (Below.refl _ _).drew
  obtain ⟨v3, W3, hr3, o3, g3, b3⟩ := appendV (c := c) (VOwn.start W2.drew W2.heap.size F) (h.keep (hop hb (hop b2 bD))) z (by omega) (Nat.le_refl _)
  rw [Nat.zero_add, catV_zero] at o3
  obtain ⟨a3, c3, rfl, _, z3, hc3, _⟩ := o3.vs h.ft
  have b23 : Below W2.heap.size W2 W3 := bD.trans b3
  have hd3 : JB W3 W.heap.size 0 noS (.slice none 0 0) 41 := hd2.keep b23
  obtain ⟨d0, d1, d2⟩ := hd3.at
  have f3 : ∀ j, W3.frozen? ⟨W.heap.size, j, none⟩ = false := hd3.soft
  have HS : Hid (∀ X, Below W.heap.size W X → X.cell? ⟨w.heap.size, 0, none⟩ = some (.int .i64 t) ∧ X.cell? ⟨w.heap.size, 1, none⟩ = some (.string s) ∧ X.cell? ⟨w.heap.size, 2, none⟩ = some (.slice a n c)) := fun X hX => by
    have := hj.keep hX
    exact ⟨this.c0, this.c1, this.c2⟩
  have bW3 : Below W.heap.size W W3 := hop b2 b23
  have e0 := HS.out W2.drew (hop b2 bD)
  have e1 := HS.out W3 bW3
  have e2 := HS.out _ (below3 bW3 (Nat.le_refl _) (.int .i64 t) (.string s) (.slice a3 n c3))
  have HB : Hid (Below w.heap.size w (((W3.setCell ⟨W.heap.size, 0, none⟩ (.int .i64 t)).setCell ⟨W.heap.size, 1, none⟩ (.string s)).setCell ⟨W.heap.size, 2, none⟩ (.slice a3 n c3))) := hop hb (below3 bW3 (Nat.le_refl _) _ _ _)
  have HO : Hid (VOwn (((W3.setCell ⟨W.heap.size, 0, none⟩ (.int .i64 t)).setCell ⟨W.heap.size, 1, none⟩ (.string s)).setCell ⟨W.heap.size, 2, none⟩ (.slice a3 n c3)) W2.heap.size (.slice a3 n c3) n F) := by
    have q : ∀ (X : World) (x0 x1 x2 : Value), X.heap[W.heap.size]? = some (.cells #[x0, x1, x2] 41 (0, 0)) → ∀ cur, X.heap[W.heap.size]? ≠ some (.cells cur 33 (0, 0)) := fun X x0 x1 x2 hX cur hY => by
      rw [hX] at hY
      injection hY with hY
      injection hY with _ hY _
      cases hY
    have k1 := heap_setCell_same _ W.heap.size 0 _ _ (.int .i64 t) hd3
    have k2 := heap_setCell_same _ W.heap.size 1 _ _ (.string s) k1
    exact ((o3.put (q _ _ _ _ hd3)).put (q _ _ _ _ k1)).put (q _ _ _ _ k2)
  have HF : Hid (∀ i, (F i).fits) := h.ft
  clear h hb hj b2 hd2 bD o3 g3 b3 b23 hd3 bW3
  unfold jv noS at *
  have HA : Hid (Sem.run Tryd.prog (Builtin.append_ #[24, 24] 24 #[.slice none 0 0, .slice a n c]) W2.drew = .ok (.slice a3 n c3) W3) := hr3
  clear hr3
  obtain ⟨y0, y1, y2⟩ := e0
  go_enter Tryd.func14, Tryd.ntmps14
  go_wp2_with fail
  go_region_held3 (fun X => X.cell? ⟨w.heap.size, 0, none⟩ = some (.int .i64 t) ∧ X.cell? ⟨w.heap.size, 1, none⟩ = some (.string s) ∧ X.cell? ⟨w.heap.size, 2, none⟩ = some (.slice a n c))
    (first | exact ⟨y0, y1, y2⟩ | exact e1 | exact e2)
    (first | refine step_append_ran (by rfl) _ _ 24 (by rfl) _ _ _ _ (by rfl) (by rfl) HA.out ?_)
  go_wp2
  refine bodyPost_ret (v := jv t s (.slice a3 n c3)) (by simp [results, Tryd.results14, go_sem, jv, *]) rfl ⟨_, rfl, ?_, HB.out⟩
  obtain ⟨a4, c4, e4, vs4, z4, hc4, _⟩ := HO.out.vs HF.out
  injection e4 with e5 e6 e7
  subst e5; subst e7
  exact ⟨_, _, rfl, vs4, z4, hc4⟩

end Go.Proofs.YtfgngecenbopnaaDoor
