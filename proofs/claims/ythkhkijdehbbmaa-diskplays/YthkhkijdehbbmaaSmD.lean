/-
  A row of bytes is copied; a file is put into the program's disk, and taken out.
-/
import Derived.Test.YthkhkijdehbbmaaSmC
set_option maxRecDepth 100000
namespace Go.Proofs.Ythkhkijdehbbmaa
open Go.RowKit Dk Nm
attribute [local go_sem ↓] Go.wp_at_zero Go.wp_at_succ
set_option linter.unusedVariables false

theorem PB.as {w : World} {x y : Fv} (h : PB w x) (h1 : y.bv = x.bv) (h2 : y.b = x.b) : PB w y := by
  obtain ⟨p, bv, s, b⟩ := y
  dsimp only at h1 h2
  subst h1; subst h2
  exact ⟨h.n, h.c, h.l, h.z, h.r⟩
/-- What a copy is. -/
def ClEnd (b : ByteArray) (w : World) (e : Ending) (w' : World) : Prop :=
  ∃ bv : Option Addr × Nat × Nat, e = .returned (.slice bv.1 bv.2.1 bv.2.2) ∧ (∀ p s, PB w' ⟨p, bv, s, b⟩) ∧ (∀ x, bv.1 = some x → w.heap.size ≤ x.block) ∧ Below w.heap.size w w'
set_option maxHeartbeats 2000000 in
theorem clone_any (a : Option Addr) (n c : Nat) (b : ByteArray) (f : Nat → Nat) (w : World) (r : Row w a n f) (hf : ∀ i, f i < 256) (hs : str f n = b) (hn : n = b.size) (z : a = none → n = 0 ∧ c = 0) (hl : n ≤ 1073741824) :
    Calls Try.prog 35 #[.slice a n c] w (ClEnd b w) := by
  cases a with
  | none =>
    obtain ⟨e0, e1⟩ := z rfl
    subst e1
    have hb : b.size = 0 := by omega
    have HT : Hid (ClEnd b w (.returned (.slice none 0 0)) w) := ⟨(none, 0, 0), rfl, fun p s => ⟨(by show 0 = b.size; omega), (by show b.size ≤ 0; omega), (by show 0 ≤ maxLen; unfold maxLen; omega), fun _ => rfl, fun h => (by have h' : 0 < b.size := h; omega)⟩, fun x h => (nomatch h), Below.refl _ _⟩
    generalize hPP : ClEnd b w = PP at *
    rw [e0]
    clear r hf hs hn z hl e0 hb hPP
    have qS : (binOp .eql 29 (.slice none 0 0) (.slice none 0 0)).run Try.prog w = .ok (.bool true) w := by kernel_rfl
    go_enter Try.func35, Try.ntmps35
    go_wp2
    exact HT.out
  | some x =>
    obtain ⟨W, hW⟩ : ∃ W, w.alloc (.cells #[] 5) = W := ⟨_, rfl⟩
    have bW : Below w.heap.size w W := by rw [← hW]; exact bal _ _
    have h0 := Own.lit0 w (fun _ => 0)
    rw [hW] at h0
    obtain ⟨v', W', r1, r2, r3⟩ := appendA (c := c) h0 (r.keep bW) z (by omega) bW.size
    rw [Nat.zero_add] at r2
    have hb3 := bW.trans r3
    have HT : Hid (∃ bv : Option Addr × Nat × Nat, v' = .slice bv.1 bv.2.1 bv.2.2 ∧ (∀ p s, PB W' ⟨p, bv, s, b⟩) ∧ (∀ x, bv.1 = some x → w.heap.size ≤ x.block) ∧ Below w.heap.size w W') := by
      have hc : Own W' w.heap.size v' n f := r2.congr fun i hi => by unfold cat; rw [if_neg (by omega), Nat.sub_zero]
      rcases hc.2 with ⟨e1, e2⟩ | ⟨g, cap, cur, e1, hg, hh, hnc, hm, hr⟩
      · refine ⟨(none, 0, 0), e1, fun p s => ⟨(by show 0 = b.size; omega), (by show b.size ≤ 0; omega), (by show 0 ≤ maxLen; unfold maxLen; omega), fun _ => rfl, fun h => (by have h' : 0 < b.size := h; omega)⟩, fun x h => (nomatch h), hb3⟩
      · refine ⟨(some ⟨g, 0, none⟩, n, cap), e1, fun p s => ⟨hn, (by show b.size ≤ cap; omega), hm, fun h => (nomatch h), fun h => ⟨f, hf, ?_, ?_⟩⟩, fun x h => (by injection h with h; rw [← h]; exact hg), hb3⟩
        · show Own W' 0 (.slice (some ⟨g, 0, none⟩) n cap) b.size f
          rw [← hn]
          exact ⟨hc.1, .inr ⟨g, cap, cur, rfl, Nat.zero_le _, hh, hnc, hm, hr⟩⟩
        · show str f b.size = b
          rw [← hn]; exact hs
    have HR : Hid (Sem.run Try.prog (Builtin.append_ #[29, 29] 29 #[.slice (some ⟨w.heap.size, 0, none⟩) 0 0, .slice (some x) n c]) W = .ok v' W') := r1
    have HC : Hid (∀ v w', (∃ bv : Option Addr × Nat × Nat, v = .slice bv.1 bv.2.1 bv.2.2 ∧ (∀ p s, PB w' ⟨p, bv, s, b⟩) ∧ (∀ x, bv.1 = some x → w.heap.size ≤ x.block) ∧ Below w.heap.size w w') → ClEnd b w (.returned v) w') := fun v w' h => by
      obtain ⟨bv, e, r⟩ := h
      exact ⟨bv, by rw [e], r⟩
    generalize hPP : ClEnd b w = PP at *
    clear r hf hs hn z hl r1 r2 r3 hb3 h0 bW hPP
    have qS : (binOp .eql 29 (.slice (some x) n c) (.slice none 0 0)).run Try.prog w = .ok (.bool false) w := Lib.run_eql_slice_nil w 29 5 (some x) n c 0 0 Try.underlying29
    go_enter Try.func35, Try.ntmps35
    go_wp2_with (at_builtin; refine wpList_append_ran (by rfl) _ _ 29 (by rfl) _ _ _ _ (by rfl) (by rfl) HR.out ?_)
    exact HC.out _ _ HT.out

theorem aps_mid {A M B : List Fv} {f : Fv} (h : (A ++ M ++ B).Pairwise Aps) (hf : ∀ y ∈ A ++ B, Aps y f) : (A ++ f :: B).Pairwise Aps := by
  have sy : ∀ x y, Aps x y → Aps y x := fun x y k a b e => k b a e.symm
  obtain ⟨h1, h2, h3⟩ := List.pairwise_append.1 h
  obtain ⟨h4, h5, h6⟩ := List.pairwise_append.1 h1
  refine List.pairwise_append.2 ⟨h4, List.pairwise_cons.2 ⟨fun y hy => sy _ _ (hf y (List.mem_append_right _ hy)), h2⟩, fun x hx y hy => ?_⟩
  rcases List.mem_cons.1 hy with rfl | hy
  · exact hf x (List.mem_append_left _ hx)
  · exact h3 x (List.mem_append_left _ hx) y hy
theorem turned_upd {w w' : World} {b : Nat} (h : w.mapTurned w' b) : Upd (fun k => k = b) w w' := by
  have g := h.grown
  exact ⟨g.os, g.tape, g.output, g.size, fun i hi hm => g.block i hi (fun e => hm (by injection e))⟩
theorem fld0 (w : World) (a : Option Addr) (n c : Nat) (b : Bool) : (Instr.field 74 (.agg #[.slice a n c, .bool b]) 0).run Try.prog w = .ok (.slice a n c) w := by kernel_rfl
theorem fld1 (w : World) (a : Option Addr) (n c : Nat) (b : Bool) : (Instr.field 74 (.agg #[.slice a n c, .bool b]) 1).run Try.prog w = .ok (.bool b) w := by kernel_rfl
/-- What is left when a file was put. -/
def PutEnd (p m : Nat) (V : List Fv) (q : Option Nat) (s : St) (F : Int) (w : World) (e : Ending) (w' : World) : Prop :=
  e = .returned (.tuple #[]) ∧ PX w' p m V q { s with fs := V.map fl } F ∧ Upd (fun k => k = p ∨ k = m) w w'
set_option maxHeartbeats 4000000 in
theorem put_any (p m : Nat) (V : List Fv) (q : Option Nat) (s : St) (F : Int) (x : ByteArray) (f : Fv) (A M B : List Fv) (w : World) (h : PX w p m V q s F) (P : Part V x A M B) (hf : f.path = x) (hb : PB w f) (hs : f.b.size ≤ 262144) (hx : x.size ≤ 600)
    (ha : ∀ y ∈ A ++ B, Aps y f) (hl : (A ++ f :: B).length ≤ 4096) :
    Calls Try.prog 34 #[.pointer (some ⟨p, 0, none⟩), .string x, vl f] w (PutEnd p m (A ++ f :: B) q s F w) := by
  have hml : x.size ≤ maxLen := by unfold maxLen; omega
  obtain ⟨⟨ba, bn, bc⟩, hbv⟩ : ∃ y : Option Addr × Nat × Nat, f.bv = y := ⟨_, rfl⟩
  have hvl : vl f = .agg #[.slice ba bn bc, .bool f.sure] := by unfold vl; rw [hbv]
  obtain ⟨⟨ta, tn, tc⟩, htv⟩ : ∃ y : Option Addr × Nat × Nat, (top M).bv = y := ⟨_, rfl⟩
  have htl : vl (top M) = .agg #[.slice ta tn tc, .bool (top M).sure] := by unfold vl; rw [htv]
  have hbn : bn = f.b.size := by have := hb.n; rw [hbv] at this; exact this
  have htn : tn = (top M).b.size := by have := (h.topB P).n; rw [htv] at this; exact this
  have hts := h.topS P
  have hus := h.used_le
  -- used
  have hU : (used s.fs : Int) + ((bn : Int) - (tn : Int)) = ((used ((A ++ f :: B).map fl) : Nat) : Int) := by
    have h1 := P.used
    rw [← h.f] at h1
    have h2 := used_mid (A := A) (B := B) f
    have h3 : used (M.map fl) = (top M).b.size := by
      rcases P.m with ⟨_, e⟩ | ⟨_, g, e, _⟩
      · subst e; rfl
      · subst e; rfl
    omega
  obtain ⟨W, hW⟩ : ∃ W, w.alloc (.cells #[.slice ba bn bc, .bool f.sure] 74) = W := ⟨_, rfl⟩
  have bW : Below w.heap.size w W := by rw [← hW]; exact bal _ _
  have bx0 : W.cell? ⟨w.heap.size, 0, none⟩ = some (.slice ba bn bc) := by rw [← hW]; simp
  have bx1 : W.cell? ⟨w.heap.size, 1, none⟩ = some (.bool f.sure) := by rw [← hW]; simp
  have hXE : PX W p m V q s F := h.keep bW
  have c0 := hXE.c0
  have c1 := hXE.c1
  have f1 := hXE.soft 1
  have lk := ((hXE.drewN 1).look P hml).2
  rw [htl] at lk
  have lk : (Instr.lookup 69 (.map (some m)) (.string x) false).run Try.prog W.drew = .ok (.agg #[.slice ta tn tc, .bool (top M).sure]) W.drew := lk
  have fd := fld0 W.drew ta tn tc (top M).sure
  obtain ⟨U, hUU⟩ : ∃ U : Nat, used ((A ++ f :: B).map fl) = U := ⟨_, rfl⟩
  obtain ⟨u0, hu0⟩ : ∃ u0 : Nat, used s.fs = u0 := ⟨_, rfl⟩
  rw [hUU] at hU
  rw [hu0] at hU c1 hus
  have w1 : IntKind.i64.wrap ((bn : Int) - (tn : Int)) = (bn : Int) - (tn : Int) := by rw [IntKind.wrap_i64]; omega
  have w2 : IntKind.i64.wrap ((u0 : Int) + ((bn : Int) - (tn : Int))) = ((U : Nat) : Int) := by rw [hU, IntKind.wrap_i64]; omega
  obtain ⟨ts, hts'⟩ : ∃ ts, (top M).sure = ts := ⟨_, rfl⟩
  rw [hts'] at lk fd
  have hpm := h.ne
  obtain ⟨E1, hE1⟩ : ∃ E1, (W.setCell ⟨p, 1, none⟩ (.int .i64 ((U : Nat) : Int))).drew = E1 := ⟨_, rfl⟩
  have hU1 : Upd (fun k => k = p) w E1 := by rw [← hE1]; exact (Upd.put (M := fun k => k = p) (Upd.of bW) (p := ⟨p, 1, none⟩) (.inl rfl) _).drew
  have hown : E1.drew.ownsMap Try.prog 9 RF m V.length (DM V) := map_upd (M := fun k => k = p) h.m hU1.drew (fun e => hpm e.symm)
  have hvn := h.n
  obtain ⟨W3, hr, ho3, ht3⟩ := hown.store lawS Try.underlying69 (by unfold maxLen; omega) (keyS hml) (RF_mk f)
  rw [P.put hf] at ho3
  rw [hvl] at hr
  have hU3 : Upd (fun k => k = p ∨ k = m) w W3 := (hU1.drew.mono fun k _ e => .inl e).trans ((turned_upd ht3).mono fun k _ e => .inr e)
  have hX3 : PX W3 p m (A ++ f :: B) q { s with fs := (A ++ f :: B).map fl } F := by
    have hmem : ∀ y ∈ A ++ B, y ∈ V := fun y hy => by
      rw [P.v]
      rcases List.mem_append.1 hy with k | k
      · exact List.mem_append_left _ (List.mem_append_left _ k)
      · exact List.mem_append_right _ k
    have hin : ∀ y ∈ A ++ f :: B, y = f ∨ y ∈ V := fun y hy => by
      rcases List.mem_append.1 hy with k | k
      · exact .inr (hmem y (List.mem_append_left _ k))
      · rcases List.mem_cons.1 k with rfl | k
        · exact .inl rfl
        · exact .inr (hmem y (List.mem_append_right _ k))
    have hnb : ∀ g cur, w.heap[g]? = some (.cells cur 5 (0, 0)) → ¬ (g = p ∨ g = m) := fun g cur e k => by
      rcases k with rfl | rfl
      · rw [h.o] at e
        injection e with e
        injection e with _ e _
        cases e
      · obtain ⟨es, clock, hbb, _⟩ := h.m
        rw [hbb] at e
        injection e with e
        cases e
    refine ⟨?_, ?_, fun y hy => ?_, rfl, ⟨?_, fun g hg => ?_, fun g hg => ?_, h.wf.m0, h.wf.m1, h.wf.b0, h.wf.b1⟩, P.riseP h.r hf, aps_mid (by rw [← P.v]; exact h.d) ha, h.F0, h.F1⟩
    · have e1 : W3.heap[p]? = E1.heap[p]? := (turned_upd ht3).block p (Nat.lt_of_lt_of_le h.lt hU1.size) (fun e => hpm e)
      rw [e1, ← hE1]
      have := heap_setCell_same W p 1 _ _ (.int .i64 ((U : Nat) : Int)) hXE.o
      show (W.setCell ⟨p, 1, none⟩ (.int .i64 ((U : Nat) : Int))).heap[p]? = _
      rw [this]
      show some (Obj.cells #[_, .int .i64 ((U : Nat) : Int), _, _, _, _] _) = _
      rw [← hUU]
    · have := tight ho3
      rw [dm_size] at this
      exact this
    · rcases hin y hy with rfl | k
      · exact hb.upd hU3 hnb
      · exact (h.b y k).upd hU3 hnb
    · show ((A ++ f :: B).map fl).length ≤ 4096
      rw [List.length_map]; exact hl
    · obtain ⟨y, hy, rfl⟩ := List.mem_map.1 hg
      rcases hin y hy with rfl | k
      · exact hs
      · exact h.wf.b (fl y) (by rw [h.f]; exact List.mem_map_of_mem k)
    · obtain ⟨y, hy, rfl⟩ := List.mem_map.1 hg
      rcases hin y hy with rfl | k
      · show y.path.size ≤ 600
        rw [hf]; exact hx
      · exact h.wf.p (fl y) (by rw [h.f]; exact List.mem_map_of_mem k)
  have HT : Hid (PutEnd p m (A ++ f :: B) q s F w (.returned (.tuple #[])) W3) := ⟨rfl, hX3, hU3⟩
  obtain ⟨fs, hfs'⟩ : ∃ fs, f.sure = fs := ⟨_, rfl⟩
  rw [hfs'] at bx1 hvl hW hr
  rw [hvl]
  have hlt := h.lt
  have d0 : E1.cell? ⟨p, 0, none⟩ = some (.map (some m)) := by
    rw [← hE1]
    show (W.setCell _ _).cell? _ = _
    rw [cell_other (by decide)]; exact c0
  have hnp : w.heap.size ≠ p := by omega
  have dx0 : E1.cell? ⟨w.heap.size, 0, none⟩ = some (.slice ba bn bc) := by
    rw [← hE1]
    show (W.setCell _ _).cell? _ = _
    rw [World.cell?_setCell_other _ _ _ _ (fun e => hnp (by injection e with e; exact e.symm))]; exact bx0
  have dx1 : E1.cell? ⟨w.heap.size, 1, none⟩ = some (.bool fs) := by
    rw [← hE1]
    show (W.setCell _ _).cell? _ = _
    rw [World.cell?_setCell_other _ _ _ _ (fun e => hnp (by injection e with e; exact e.symm))]; exact bx1
  generalize hPP : PutEnd p m (A ++ f :: B) q s F w = PP at *
  clear hU hbn htn hXE bW hts' htl hvl hml hus hts hUU hu0 h P hf hb hs hx ha hl hbv htv hpm hU1 hown hvn ho3 ht3 hU3 hX3 hfs' hPP hnp
  go_enter Try.func34, Try.ntmps34
  go_wp2_with fail
  go_region
  go_wp2_with fail
  go_region
  go_wp2
  exact bodyPost_end (v := .tuple #[]) (by simp [results, Try.results34, go_sem]) rfl HT.out
set_option maxHeartbeats 4000000 in
theorem drop_any (p m : Nat) (V : List Fv) (q : Option Nat) (s : St) (F : Int) (x : ByteArray) (A M B : List Fv) (w : World) (h : PX w p m V q s F) (P : Part V x A M B) (hx : x.size ≤ maxLen) :
    Calls Try.prog 36 #[.pointer (some ⟨p, 0, none⟩), .string x] w (PutEnd p m (A ++ B) q s F w) := by
  obtain ⟨⟨ta, tn, tc⟩, htv⟩ : ∃ y : Option Addr × Nat × Nat, (top M).bv = y := ⟨_, rfl⟩
  have htl : vl (top M) = .agg #[.slice ta tn tc, .bool (top M).sure] := by unfold vl; rw [htv]
  have htn : tn = (top M).b.size := by have := (h.topB P).n; rw [htv] at this; exact this
  have hts := h.topS P
  have hus := h.used_le
  have hU : (used s.fs : Int) - (tn : Int) = ((used ((A ++ B).map fl) : Nat) : Int) := by
    have h1 := P.used
    rw [← h.f] at h1
    have h3 : used (M.map fl) = (top M).b.size := by
      rcases P.m with ⟨_, e⟩ | ⟨_, g, e, _⟩
      · subst e; rfl
      · subst e; rfl
    omega
  have c0 := h.c0
  have c1 := h.c1
  have f1 := h.soft 1
  have lk := ((h.drewN 1).look P hx).2
  rw [htl] at lk
  have lk : (Instr.lookup 69 (.map (some m)) (.string x) false).run Try.prog w.drew = .ok (.agg #[.slice ta tn tc, .bool (top M).sure]) w.drew := lk
  have fd := fld0 w.drew ta tn tc (top M).sure
  obtain ⟨ts, hts'⟩ : ∃ ts, (top M).sure = ts := ⟨_, rfl⟩
  rw [hts'] at lk fd
  obtain ⟨U, hUU⟩ : ∃ U : Nat, used ((A ++ B).map fl) = U := ⟨_, rfl⟩
  obtain ⟨u0, hu0⟩ : ∃ u0 : Nat, used s.fs = u0 := ⟨_, rfl⟩
  rw [hUU] at hU
  rw [hu0] at hU c1 hus
  have w2 : IntKind.i64.wrap ((u0 : Int) - (tn : Int)) = ((U : Nat) : Int) := by rw [hU, IntKind.wrap_i64]; omega
  have hpm := h.ne
  obtain ⟨E1, hE1⟩ : ∃ E1, (w.setCell ⟨p, 1, none⟩ (.int .i64 ((U : Nat) : Int))).drew = E1 := ⟨_, rfl⟩
  have hU1 : Upd (fun k => k = p) w E1 := by rw [← hE1]; exact (Upd.put (M := fun k => k = p) (Upd.refl _ _) (p := ⟨p, 1, none⟩) (.inl rfl) _).drew
  have hown : E1.ownsMap Try.prog 9 RF m V.length (DM V) := map_upd (M := fun k => k = p) h.m hU1 (fun e => hpm e.symm)
  obtain ⟨W3, hr, ho3, ht3⟩ := hown.drop lawS Try.underlying69 (keyS hx) 0
  rw [P.del] at ho3
  have hU3 : Upd (fun k => k = p ∨ k = m) w W3 := (hU1.mono fun k _ e => .inl e).trans ((turned_upd ht3).mono fun k _ e => .inr e)
  have hX3 : PX W3 p m (A ++ B) q { s with fs := (A ++ B).map fl } F := by
    have hmem : ∀ y ∈ A ++ B, y ∈ V := fun y hy => by
      rw [P.v]
      rcases List.mem_append.1 hy with k | k
      · exact List.mem_append_left _ (List.mem_append_left _ k)
      · exact List.mem_append_right _ k
    have hnb : ∀ g cur, w.heap[g]? = some (.cells cur 5 (0, 0)) → ¬ (g = p ∨ g = m) := fun g cur e k => by
      rcases k with rfl | rfl
      · rw [h.o] at e
        injection e with e
        injection e with _ e _
        cases e
      · obtain ⟨es, clock, hbb, _⟩ := h.m
        rw [hbb] at e
        injection e with e
        cases e
    have hsub : (A ++ B).Sublist V := by
      rw [P.v, List.append_assoc]
      exact List.Sublist.append (List.Sublist.refl _) (List.sublist_append_right _ _)
    have hn := h.n
    refine ⟨?_, ?_, fun y hy => (h.b y (hmem y hy)).upd hU3 hnb, rfl, ⟨?_, fun g hg => ?_, fun g hg => ?_, h.wf.m0, h.wf.m1, h.wf.b0, h.wf.b1⟩, P.riseD h.r, h.d.sublist hsub, h.F0, h.F1⟩
    · have e1 : W3.heap[p]? = E1.heap[p]? := (turned_upd ht3).block p (Nat.lt_of_lt_of_le h.lt hU1.size) (fun e => hpm e)
      rw [e1, ← hE1]
      have := heap_setCell_same w p 1 _ _ (.int .i64 ((U : Nat) : Int)) h.o
      show (w.setCell ⟨p, 1, none⟩ (.int .i64 ((U : Nat) : Int))).heap[p]? = _
      rw [this]
      show some (Obj.cells #[_, .int .i64 ((U : Nat) : Int), _, _, _, _] _) = _
      rw [← hUU]
    · have := tight ho3
      rw [dm_size] at this
      exact this
    · show ((A ++ B).map fl).length ≤ 4096
      rw [List.length_map]; exact Nat.le_trans hsub.length_le hn
    · obtain ⟨y, hy, rfl⟩ := List.mem_map.1 hg
      exact h.wf.b (fl y) (by rw [h.f]; exact List.mem_map_of_mem (hmem y hy))
    · obtain ⟨y, hy, rfl⟩ := List.mem_map.1 hg
      exact h.wf.p (fl y) (by rw [h.f]; exact List.mem_map_of_mem (hmem y hy))
  have HT : Hid (PutEnd p m (A ++ B) q s F w (.returned (.tuple #[])) W3) := ⟨rfl, hX3, hU3⟩
  have d0 : E1.cell? ⟨p, 0, none⟩ = some (.map (some m)) := by
    rw [← hE1]
    show (w.setCell _ _).cell? _ = _
    rw [cell_other (by decide)]; exact c0
  generalize hPP : PutEnd p m (A ++ B) q s F w = PP at *
  clear hU htn hts' htl hus hts hUU hu0 h P hx htv hpm hU1 hown ho3 ht3 hU3 hX3 hPP
  go_enter Try.func36, Try.ntmps36
  go_wp2_with fail
  go_region
  go_wp2
  exact bodyPost_end (v := .tuple #[]) (by simp [results, Try.results36, go_sem]) rfl HT.out
end Go.Proofs.Ythkhkijdehbbmaa
