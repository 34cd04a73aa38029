/-
  A Writer in memory, and what shard.Writer.take does to it.
-/
import Derived.Test.YtjbdncgmpccedaaDoorShA
import Derived.Lib.AppendStr
import Derived.Deep.RegionLaw
namespace Go.Proofs.YtjbdncgmpccedaaDoor
open Go.RowKit Crc
attribute [local go_sem ↓] Go.wp_at_zero Go.wp_at_succ
set_option linter.unusedVariables false

/-- A Writer's five fields. -/
def WrO (v : Value) (B L R s : Nat) : Obj := .cells #[v, .int .i64 (B : Int), .int .i64 (L : Int), .int .i64 (R : Int), .int .u32 (s : Int)] 56
/-- They lie in block p. -/
def WrAt (w : World) (p : Nat) (v : Value) (B L R s : Nat) : Prop := w.heap[p]? = some (WrO v B L R s)
theorem WrAt.cells {w : World} {p : Nat} {v : Value} {B L R s : Nat} (h : WrAt w p v B L R s) :
    w.cell? ⟨p, 0, none⟩ = some v ∧ w.cell? ⟨p, 1, none⟩ = some (.int .i64 (B : Int)) ∧ w.cell? ⟨p, 2, none⟩ = some (.int .i64 (L : Int)) ∧ w.cell? ⟨p, 3, none⟩ = some (.int .i64 (R : Int)) ∧ w.cell? ⟨p, 4, none⟩ = some (.int .u32 (s : Int)) :=
  ⟨cell_of_row w p 0 _ _ _ h, cell_of_row w p 1 _ _ _ h, cell_of_row w p 2 _ _ _ h, cell_of_row w p 3 _ _ _ h, cell_of_row w p 4 _ _ _ h⟩
theorem WrAt.soft {w : World} {p : Nat} {v : Value} {B L R s : Nat} (h : WrAt w p v B L R s) (j : Nat) : w.frozen? ⟨p, j, none⟩ = false := frozen_of_row w p j _ _ h
theorem WrAt.lt {w : World} {p : Nat} {v : Value} {B L R s : Nat} (h : WrAt w p v B L R s) : p < w.heap.size := (Array.getElem?_eq_some_iff.1 h).1
theorem WrAt.keep {w w' : World} {p : Nat} {v : Value} {B L R s : Nat} (h : WrAt w p v B L R s) (hb : Below w.heap.size w w') : WrAt w' p v B L R s := (hb.block p h.lt).trans h
theorem WrAt.put0 {w : World} {p : Nat} {v : Value} {B L R s : Nat} (h : WrAt w p v B L R s) (v' : Value) : WrAt (w.setCell ⟨p, 0, none⟩ v') p v' B L R s := heap_setCell_same w p 0 _ _ v' h
theorem WrAt.put2 {w : World} {p : Nat} {v : Value} {B L R s : Nat} (h : WrAt w p v B L R s) (x : Nat) : WrAt (w.setCell ⟨p, 2, none⟩ (.int .i64 (x : Int))) p v B x R s := heap_setCell_same w p 2 _ _ _ h
theorem WrAt.put3 {w : World} {p : Nat} {v : Value} {B L R s : Nat} (h : WrAt w p v B L R s) (x : Nat) : WrAt (w.setCell ⟨p, 3, none⟩ (.int .i64 (x : Int))) p v B L x s := heap_setCell_same w p 3 _ _ _ h
theorem WrAt.put4 {w : World} {p : Nat} {v : Value} {B L R s : Nat} (h : WrAt w p v B L R s) (x : Nat) : WrAt (w.setCell ⟨p, 4, none⟩ (.int .u32 (x : Int))) p v B L R x := heap_setCell_same w p 4 _ _ _ h
/-- The Writer's block is none of the row's. -/
theorem WrAt.apart {w : World} {p base n : Nat} {v u : Value} {B L R s : Nat} {f : Nat → Nat} (h : WrAt w p u B L R s) (o : Own w base v n f) : v.ownBlock ≠ some p := fun e => by
  rcases o.2 with ⟨rfl, _⟩ | ⟨g, cap, cur, rfl, _, hg, _⟩
  · simp [Value.ownBlock] at e
  · simp [Value.ownBlock] at e
    subst e
    unfold WrAt WrO at h
    rw [hg] at h
    injection h with h
    injection h with _ h _
    cases h
theorem Own.put {w : World} {p base n j : Nat} {v u x : Value} {B L R s : Nat} {f : Nat → Nat} (o : Own w base v n f) (h : WrAt w p u B L R s) : Own (w.setCell ⟨p, j, none⟩ x) base v n f := by
  have ha := h.apart o
  rcases o with ⟨hl, e | ⟨g, cap, cur, e, hg, hh, hr⟩⟩
  · exact ⟨hl, .inl e⟩
  · refine ⟨hl, .inr ⟨g, cap, cur, e, hg, ?_, hr⟩⟩
    subst e
    rw [heap_setCell_other _ _ _ _ (fun q => ha (by simp [Value.ownBlock, q]))]
    exact hh
theorem WrAt.grown {w W : World} {p base n : Nat} {v u : Value} {B L R s : Nat} {f : Nat → Nat} (h : WrAt w p u B L R s) (o : Own w base v n f) (g : w.grownBy W v.ownBlock) : WrAt W p u B L R s :=
  (g.block p h.lt (fun e => h.apart o e.symm)).trans h
theorem appendG {w : World} {base n m c : Nat} {v : Value} {f g : Nat → Nat} {a : Option Addr} (h : Own w base v n f) (r : Row w a m g) (z : a = none → m = 0 ∧ c = 0) (hl : n + m ≤ 140737488355328) (hb : base ≤ w.heap.size) :
    ∃ v' W, Sem.run Tryd.prog (Builtin.append_ #[24, 24] 24 #[v, .slice a m c]) w = .ok v' W ∧ Own W base v' (n + m) (cat n f g) ∧ Below base w W ∧ w.grownBy W v.ownBlock := by
  cases a with
  | none =>
    obtain ⟨rfl, rfl⟩ := z rfl
    obtain ⟨i, hi, _⟩ := Option.map_eq_some_iff.1 info5
    exact ⟨v, w, run_append_owned_none (P := Tryd.prog) w base 24 24 5 i 1 Tryd.underlying24 hi v n (bs f n) h, h.congr (fun i hi => by unfold cat; rw [if_pos hi]), Below.refl _ _, ⟨rfl, rfl, rfl, Nat.le_refl _, fun _ _ _ => rfl⟩⟩
  | some x =>
    obtain ⟨v', W, hr, ho, hg, hbl⟩ := appendB (c := c) h r (fun _ => ⟨x, rfl⟩) hl hb
    exact ⟨v', W, hr, ho, hbl, hg⟩

set_option maxRecDepth 100000 in
set_option maxHeartbeats 1000000 in
theorem take_open (w0 w : World) (p n B L R s : Nat) (v : Value) (F g : Nat → Nat) (a : Option Addr) (m c : Nat) (T : HalfT w0) (h : Row w0 a m g) (z : a = none → m = 0 ∧ c = 0) (hb : Below w0.heap.size w0 w) (hp : w0.heap.size ≤ p)
    (hw : WrAt w p v B L R s) (ho : Own w w0.heap.size v n F) (hn : n + m ≤ 1000000) (hn1 : 1 ≤ n) (hs : s < 4294967296) (hR : m < R) (hL : m < L) (hR2 : R ≤ 1000000) (hL2 : L ≤ 1000000) :
    Calls Tryd.prog 25 #[.pointer (some ⟨p, 0, none⟩), .slice a m c] w fun e w' => e = .returned (.tuple #[]) ∧ Below w0.heap.size w0 w' ∧ ∃ v', WrAt w' p v' B (L - m) (R - m) (more s m g) ∧ Own w' w0.heap.size v' (n + m) (cat n F g) := by
  obtain ⟨v', W, hr, ho', hbl, hg⟩ := appendG (c := c) ho (h.keep hb) z (by omega) hb.size
  have hw1 : WrAt W p v B L R s := hw.grown ho hg
  obtain ⟨c0, c1, c2, c3, c4⟩ := hw.cells
  obtain ⟨d0, d1, d2, d3, d4⟩ := hw1.cells
  have s0 := hw1.soft 0
  have s2 := hw1.soft 2
  have s3 := hw1.soft 3
  have s4 := hw1.soft 4
  have hw2 := hw1.put0 v'
  have ho2 : Own (W.setCell ⟨p, 0, none⟩ v') w0.heap.size v' (n + m) (cat n F g) := ho'.put hw1
  have hb2 : Below w0.heap.size w0 (W.setCell ⟨p, 0, none⟩ v') := (hb.trans hbl).setCell (p := ⟨p, _, none⟩) hp _
  have cM := more_any s a m c g (W.setCell ⟨p, 0, none⟩ v') (T.keep hb2) (h.keep hb2) hs (by unfold maxLen; omega)
  have hw5 := ((hw2.put4 (more s m g)).put3 (R - m)).put2 (L - m)
  have ho5 := ((ho2.put (j := 4) (x := .int .u32 ((more s m g : Nat) : Int)) hw2).put (j := 3) (x := .int .i64 ((R - m : Nat) : Int)) (hw2.put4 (more s m g))).put (j := 2) (x := .int .i64 ((L - m : Nat) : Int)) ((hw2.put4 (more s m g)).put3 (R - m))
  have hb5 := ((hb2.setCell (p := ⟨p, 4, none⟩) hp (.int .u32 ((more s m g : Nat) : Int))).setCell (p := ⟨p, 3, none⟩) hp (.int .i64 ((R - m : Nat) : Int))).setCell (p := ⟨p, 2, none⟩) hp (.int .i64 ((L - m : Nat) : Int))
  have HW : Hid (WrAt _ p v' B (L - m) (R - m) (more s m g)) := hw5
  have HO : Hid (Own _ w0.heap.size v' (n + m) (cat n F g)) := ho5
  have HB : Hid (Below w0.heap.size w0 _) := hb5
  have HA : Hid (Sem.run Tryd.prog (Builtin.append_ #[24, 24] 24 #[v, .slice a m c]) w = .ok v' W) := hr
  obtain ⟨gb, cb, rfl, hgb, hncb, hcbm, mB⟩ := ho.made hn1
  obtain ⟨gb', cb', rfl, hgb', hncb', hcbm', mB'⟩ := ho'.made (by omega)
  clear mB mB'
  clear hw2 ho2 hb2 hw5 ho5 hb5 hr ho' hbl hg hw1 hw ho hb h T z
  have eR : (R : Int) - (m : Int) = ((R - m : Nat) : Int) := by omega
  have eL : (L : Int) - (m : Int) = ((L - m : Nat) : Int) := by omega
  have rp : 0 < R - m := by omega
  have lp : 0 < L - m := by omega
  have rl : R - m ≤ 1000000 := by omega
  have ll : L - m ≤ 1000000 := by omega
  have iR : (0 : Int) ≤ (R : Int) - (m : Int) := by omega
  have iL : (0 : Int) ≤ (L : Int) - (m : Int) := by omega
  have iR2 : (R : Int) - (m : Int) ≤ 1000000 := by omega
  have iL2 : (L : Int) - (m : Int) ≤ 1000000 := by omega
  generalize R - m = R' at *
  generalize L - m = L' at *
  have g1 : ((R' : Int) == 0) = false := by simp; omega
  have g2 : ((L' : Int) == 0) = false := by simp; omega
  generalize more s m g = s' at *
  go_enter Tryd.func25, Tryd.ntmps25
  go_wp2_with (at_builtin; refine wpList_append_ran (by rfl) _ _ 24 (by rfl) _ _ _ _ (by rfl) (by rfl) HA.out ?_)
  go_at_call 32
  refine cM.mono ?_
  rintro e w' ⟨rfl, rfl⟩
  go_wp2
  go_end0
  exact ⟨rfl, HB.out, _, HW.out, HO.out⟩

set_option maxRecDepth 100000 in
set_option maxHeartbeats 1000000 in
theorem take_close (w0 w : World) (p n B L R s : Nat) (v : Value) (F g : Nat → Nat) (a : Option Addr) (m c : Nat) (T : HalfT w0) (h : Row w0 a m g) (z : a = none → m = 0 ∧ c = 0) (hb : Below w0.heap.size w0 w) (hp : w0.heap.size ≤ p)
    (hw : WrAt w p v B L R s) (ho : Own w w0.heap.size v n F) (hn : n + m ≤ 1000000) (hn1 : 1 ≤ n) (hs : s < 4294967296) (hR : m ≤ R) (hL : m ≤ L) (hz : m = R ∨ m = L) (hB : B ≤ 1000000) (hR2 : R ≤ 1000000) (hL2 : L ≤ 1000000) :
    Calls Tryd.prog 25 #[.pointer (some ⟨p, 0, none⟩), .slice a m c] w fun e w' => e = .returned (.tuple #[]) ∧ Below w0.heap.size w0 w' ∧ ∃ v', WrAt w' p v' B (L - m) B 0 ∧ Own w' w0.heap.size v' (n + m + 4) (cat (n + m) (cat n F g) (by4 (more s m g))) := by
  obtain ⟨v', W, hr, ho', hbl, hg⟩ := appendG (c := c) ho (h.keep hb) z (by omega) hb.size
  have hw1 : WrAt W p v B L R s := hw.grown ho hg
  obtain ⟨c0, c1, c2, c3, c4⟩ := hw.cells
  obtain ⟨d0, d1, d2, d3, d4⟩ := hw1.cells
  have s0 := hw1.soft 0
  have s2 := hw1.soft 2
  have s3 := hw1.soft 3
  have s4 := hw1.soft 4
  have hw2 := hw1.put0 v'
  have ho2 : Own (W.setCell ⟨p, 0, none⟩ v') w0.heap.size v' (n + m) (cat n F g) := ho'.put hw1
  have hb2 : Below w0.heap.size w0 (W.setCell ⟨p, 0, none⟩ v') := (hb.trans hbl).setCell (p := ⟨p, _, none⟩) hp _
  have cM := more_any s a m c g (W.setCell ⟨p, 0, none⟩ v') (T.keep hb2) (h.keep hb2) hs (by unfold maxLen; omega)
  have hw5 := ((hw2.put4 (more s m g)).put3 (R - m)).put2 (L - m)
  have ho5 := ((ho2.put (j := 4) (x := .int .u32 ((more s m g : Nat) : Int)) hw2).put (j := 3) (x := .int .i64 ((R - m : Nat) : Int)) (hw2.put4 (more s m g))).put (j := 2) (x := .int .i64 ((L - m : Nat) : Int)) ((hw2.put4 (more s m g)).put3 (R - m))
  have hb5 := ((hb2.setCell (p := ⟨p, 4, none⟩) hp (.int .u32 ((more s m g : Nat) : Int))).setCell (p := ⟨p, 3, none⟩) hp (.int .i64 ((R - m : Nat) : Int))).setCell (p := ⟨p, 2, none⟩) hp (.int .i64 ((L - m : Nat) : Int))
  obtain ⟨gb, cb, rfl, hgb, hncb, hcbm, mB⟩ := ho.made hn1
  obtain ⟨gb', cb', rfl, hgb', hncb', hcbm', mB'⟩ := ho'.made (by omega)
  have ls : more s m g < 4294967296 := more_lt hs h.lt
  obtain ⟨W5, hW5⟩ : ∃ W5, W5 = (((W.setCell ⟨p, 0, none⟩ (.slice (some ⟨gb', 0, none⟩) (n + m) cb')).setCell ⟨p, 4, none⟩ (.int .u32 ((more s m g : Nat) : Int))).setCell ⟨p, 3, none⟩ (.int .i64 ((R - m : Nat) : Int))).setCell ⟨p, 2, none⟩ (.int .i64 ((L - m : Nat) : Int)) := ⟨_, rfl⟩
  rw [← hW5] at hw5 ho5 hb5
  have K : Hid (Calls Tryd.prog 30 #[.int .u32 ((more s m g : Nat) : Int)] W5.drew fun e w' => ∃ gq g6 c6 W6, e = .returned (.slice (some ⟨gq, 0, none⟩) 4 4) ∧ Sem.run Tryd.prog (Builtin.append_ #[24, 24] 24 #[.slice (some ⟨gb', 0, none⟩) (n + m) cb', .slice (some ⟨gq, 0, none⟩) 4 4]) w' = .ok (.slice (some ⟨g6, 0, none⟩) (n + m + 4) c6) W6 ∧
      w'.cell? ⟨p, 0, none⟩ = some (.slice (some ⟨gb', 0, none⟩) (n + m) cb') ∧ W6.cell? ⟨p, 0, none⟩ = some (.slice (some ⟨gb', 0, none⟩) (n + m) cb') ∧ W6.cell? ⟨p, 1, none⟩ = some (.int .i64 (B : Int)) ∧ W6.cell? ⟨p, 3, none⟩ = some (.int .i64 ((R - m : Nat) : Int)) ∧ W6.cell? ⟨p, 4, none⟩ = some (.int .u32 ((more s m g : Nat) : Int)) ∧
      W6.frozen? ⟨p, 0, none⟩ = false ∧ W6.frozen? ⟨p, 3, none⟩ = false ∧ W6.frozen? ⟨p, 4, none⟩ = false ∧
      WrAt (((W6.setCell ⟨p, 0, none⟩ (.slice (some ⟨g6, 0, none⟩) (n + m + 4) c6)).setCell ⟨p, 4, none⟩ (.int .u32 0)).setCell ⟨p, 3, none⟩ (.int .i64 (B : Int))) p (.slice (some ⟨g6, 0, none⟩) (n + m + 4) c6) B (L - m) B 0 ∧
      Own (((W6.setCell ⟨p, 0, none⟩ (.slice (some ⟨g6, 0, none⟩) (n + m + 4) c6)).setCell ⟨p, 4, none⟩ (.int .u32 0)).setCell ⟨p, 3, none⟩ (.int .i64 (B : Int))) w0.heap.size (.slice (some ⟨g6, 0, none⟩) (n + m + 4) c6) (n + m + 4) (cat (n + m) (cat n F g) (by4 (more s m g))) ∧
      Below w0.heap.size w0 (((W6.setCell ⟨p, 0, none⟩ (.slice (some ⟨g6, 0, none⟩) (n + m + 4) c6)).setCell ⟨p, 4, none⟩ (.int .u32 0)).setCell ⟨p, 3, none⟩ (.int .i64 (B : Int)))) := by
    refine (bytes_any (more s m g) W5.drew ls).mono ?_
    rintro e w6 ⟨rfl, m4, b6⟩
    have b56 : Below W5.heap.size W5 w6 := (Below.refl _ _).drew.trans b6
    have hw6 := hw5.keep b56
    have ho6 := ho5.keep b56
    have hb6 : Below w0.heap.size w0 w6 := hb5.trans (b56.mono hb5.size)
    obtain ⟨v7, W7, hr7, ho7, hbl7, hg7⟩ := appendG (c := 4) ho6 (m4.row (by4_lt _)) (fun e => by cases e) (by omega) hb6.size
    obtain ⟨g7, c7, rfl, _, _, _, _⟩ := ho7.made (by omega)
    have hw7 := hw6.grown ho6 hg7
    obtain ⟨q0, q1, q2, q3, q4⟩ := hw7.cells
    have hb7 := hb6.trans hbl7
    have hw8 := hw7.put0 (.slice (some ⟨g7, 0, none⟩) (n + m + 4) c7)
    have ho8 := ho7.put (j := 0) (x := .slice (some ⟨g7, 0, none⟩) (n + m + 4) c7) hw7
    have ho9 := ho8.put (j := 4) (x := .int .u32 0) hw8
    exact ⟨_, _, _, W7, rfl, hr7, hw6.cells.1, q0, q1, q3, q4, hw7.soft 0, hw7.soft 3, hw7.soft 4, (hw8.put4 0).put3 B, ho9.put (j := 3) (x := .int .i64 (B : Int)) (hw8.put4 0),
      ((hb7.setCell (p := ⟨p, 0, none⟩) hp _).setCell (p := ⟨p, 4, none⟩) hp _).setCell (p := ⟨p, 3, none⟩) hp _⟩
  obtain ⟨q0, q1, q2, q3, q4⟩ := hw5.cells
  have HA : Hid (Sem.run Tryd.prog (Builtin.append_ #[24, 24] 24 #[.slice (some ⟨gb, 0, none⟩) n cb, .slice a m c]) w = .ok (.slice (some ⟨gb', 0, none⟩) (n + m) cb') W) := hr
  clear hw2 ho2 hb2 hw5 ho5 hb5 hr ho' hbl hg hw1 hw ho hb h T z mB mB'
  have eR : (R : Int) - (m : Int) = ((R - m : Nat) : Int) := by omega
  have eL : (L : Int) - (m : Int) = ((L - m : Nat) : Int) := by omega
  have rl : R - m ≤ 1000000 := by omega
  have ll : L - m ≤ 1000000 := by omega
  have iR : (0 : Int) ≤ (R : Int) - (m : Int) := by omega
  have iL : (0 : Int) ≤ (L : Int) - (m : Int) := by omega
  have iR2 : (R : Int) - (m : Int) ≤ 1000000 := by omega
  have iL2 : (L : Int) - (m : Int) ≤ 1000000 := by omega
  have hz' : Hid (R - m = 0 ∨ R - m ≠ 0 ∧ L - m = 0) := by unfold Hid; omega
  have HW5 : Hid _ := hW5
  clear hz hW5
  generalize R - m = R' at *
  generalize L - m = L' at *
  generalize more s m g = s' at *
  go_enter Tryd.func25, Tryd.ntmps25
  go_wp2_with (at_builtin; refine wpList_append_ran (by rfl) _ _ 24 (by rfl) _ _ _ _ (by rfl) (by rfl) HA.out ?_)
  go_at_call 32
  refine cM.mono ?_
  rintro e w' ⟨rfl, rfl⟩
  rcases hz'.out with zR | ⟨zR, zL⟩
  · have g1 : ((R' : Int) == 0) = true := by simp; omega
    clear zR hz'
    go_wp2
    rw [← HW5.out]
    clear HW5 HA cM
    go_region_law (first | refine step_append_ran (by rfl) _ _ 24 (by rfl) _ _ _ _ (by rfl) (by rfl) y1 ?_ | (go_simp; go_at_call 30; refine K.out.mono ?_; rintro e w6 ⟨gq, g6, c6, W6, rfl, y1, y2, y3, y4, y5, y6, y7, y8, y9, y10, y11, y12⟩))
    all_goals
      go_wp2
      go_end0
      exact ⟨rfl, y12, _, y10, y11⟩
  · have g1 : ((R' : Int) == 0) = false := by simp; omega
    have g2 : ((L' : Int) == 0) = true := by simp; omega
    clear zR zL hz'
    go_wp2
    rw [← HW5.out]
    clear HW5 HA cM
    go_region_law (first | refine step_append_ran (by rfl) _ _ 24 (by rfl) _ _ _ _ (by rfl) (by rfl) y1 ?_ | (go_simp; go_at_call 30; refine K.out.mono ?_; rintro e w6 ⟨gq, g6, c6, W6, rfl, y1, y2, y3, y4, y5, y6, y7, y8, y9, y10, y11, y12⟩))
    all_goals
      go_wp2
      go_end0
      exact ⟨rfl, y12, _, y10, y11⟩
end Go.Proofs.YtjbdncgmpccedaaDoor
