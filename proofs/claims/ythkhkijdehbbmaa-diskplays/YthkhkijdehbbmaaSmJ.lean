/-
  New, NewFuse, Set, Ops, Room, Used, Offline, Fail, Wipe of the program's disk.
-/
import Derived.Test.YthkhkijdehbbmaaSmI
set_option maxRecDepth 100000
namespace Go.Proofs.Ythkhkijdehbbmaa
open Go.RowKit
open _root_.Go.Proofs.Ythkhkijdehbbmaa.Nm _root_.Go.Proofs.Ythkhkijdehbbmaa.Dk
attribute [local go_sem ↓] Go.wp_at_zero Go.wp_at_succ
set_option linter.unusedVariables false

def z0 : Fz := ⟨0, 0, false⟩
theorem newfuse_any (w : World) : Calls Try.prog 10 #[] w fun e w' => e = .returned (.pointer (some ⟨w.heap.size, 0, none⟩)) ∧ FZ w' (some w.heap.size) (some z0) ∧ Below w.heap.size w w' := by
  have HF : Hid (FZ (w.alloc (.cells #[.int .i64 0, .int .i64 0] 68)) (some w.heap.size) (some z0)) := ⟨heap_alloc_new _ _, rfl⟩
  go_enter Try.func10, Try.ntmps10
  go_wp2
  go_ret
  exact ⟨rfl, HF.out, bal _ _⟩
theorem newPX (w : World) (q : Option Nat) (mo : Int) (h0 : 0 ≤ mo) (h1 : mo ≤ 4194304) : PX ((w.alloc (.map #[] 0)).alloc (.cells #[.map (some w.heap.size), .int .i64 0, .int .i64 mo, .pointer (q.map fun k => ⟨k, 0, none⟩), .bool false, .int .i64 0] 71)) (w.alloc (.map #[] 0)).heap.size w.heap.size [] q ⟨[], mo, false, 0⟩ 0 := by
  refine ⟨heap_alloc_new _ _, ?_, fun x hx => absurd hx (List.not_mem_nil), rfl, ⟨Nat.zero_le _, fun f hf => absurd hf (List.not_mem_nil), fun f hf => absurd hf (List.not_mem_nil), h0, h1, Int.le_refl _, (by show (0 : Int) ≤ 9223372036854775807; decide)⟩, List.Pairwise.nil, List.Pairwise.nil, rfl, ⟨by decide, by decide⟩⟩
  exact (World.ownsMap_made w Try.prog 9 RF).alloc _
set_option maxHeartbeats 2000000 in
theorem new_any (mo : Int) (q : Option Nat) (w : World) (hm0 : -9223372036854775808 ≤ mo) (hm1 : mo ≤ 9223372036854775807) :
    Calls Try.prog 11 #[.int .i64 mo, .pointer (q.map fun k => ⟨k, 0, none⟩)] w fun e w' => e = .returned (.pointer (some ⟨w.heap.size + 1, 0, none⟩)) ∧ PX w' (w.heap.size + 1) w.heap.size [] q (newSt mo) 0 ∧ Below w.heap.size w w' := by
  obtain ⟨r, hr⟩ : ∃ r, (q.map fun k => (⟨k, 0, none⟩ : Addr)) = r := ⟨_, rfl⟩
  have hsz : (w.alloc (.map #[] 0)).heap.size = w.heap.size + 1 := by simp
  have hmm := @run_makeMap Try.prog
  have K : ∀ mm : Int, 0 ≤ mm → mm ≤ 4194304 → newSt mo = ⟨[], mm, false, 0⟩ → Hid (PX ((w.alloc (.map #[] 0)).alloc (.cells #[.map (some w.heap.size), .int .i64 0, .int .i64 mm, .pointer r, .bool false, .int .i64 0] 71)) (w.heap.size + 1) w.heap.size [] q (newSt mo) 0) := fun mm h0 h1 e => by
    have := newPX w q mm h0 h1
    rw [hsz, hr] at this
    unfold Hid
    rw [e]; exact this
  have HB : ∀ v, Hid (Below w.heap.size w ((w.alloc (.map #[] 0)).alloc (.cells v 71))) := fun v => (bal _ _).alloc (by simp) _
  rw [hr]
  by_cases h0 : mo < 0
  · have HK := K 0 (Int.le_refl _) (by decide) (by unfold newSt; rw [if_pos (.inl h0)])
    clear K hr
    go_enter Try.func11, Try.ntmps11
    go_wp2
    go_ret
    exact ⟨by simp, HK.out, (HB _).out⟩
  · have d0 : decide (mo < 0) = false := decide_eq_false h0
    by_cases h1 : 4194304 < mo
    · have HK := K 0 (Int.le_refl _) (by decide) (by unfold newSt; rw [if_pos (.inr h1)])
      have d1 : decide (4194304 < mo) = true := decide_eq_true h1
      clear K hr
      go_enter Try.func11, Try.ntmps11
      go_wp2
      go_ret
      exact ⟨by simp, HK.out, (HB _).out⟩
    · have HK := K mo (by omega) (by omega) (by unfold newSt; rw [if_neg (by omega)])
      have d1 : decide (4194304 < mo) = false := decide_eq_false h1
      clear K hr
      go_enter Try.func11, Try.ntmps11
      go_wp2
      go_ret
      exact ⟨by simp, HK.out, (HB _).out⟩
theorem used_pany (p m : Nat) (V : List Fv) (q : Option Nat) (s : St) (F : Int) (w : World) (h : PX w p m V q s F) :
    Calls Try.prog 31 #[.pointer (some ⟨p, 0, none⟩)] w fun e w' => e = .returned (.int .i64 ((used s.fs : Nat) : Int)) ∧ w' = w := by
  have c1 := h.c1
  obtain ⟨u, hu⟩ : ∃ u : Nat, used s.fs = u := ⟨_, rfl⟩
  rw [hu] at c1 ⊢
  clear h hu
  go_enter Try.func31, Try.ntmps31
  go_wp2
  go_ret
  exact ⟨rfl, rfl⟩
theorem room_pany (p m : Nat) (V : List Fv) (q : Option Nat) (s : St) (F : Int) (w : World) (h : PX w p m V q s F) :
    Calls Try.prog 33 #[.pointer (some ⟨p, 0, none⟩)] w fun e w' => e = .returned (.int .i64 (s.most - ((used s.fs : Nat) : Int))) ∧ ∃ n, w' = w.drewN n := by
  have c1 := h.c1
  have c2 := h.c2
  have hu := h.used_le
  have m0 := h.wf.m0
  have m1 := h.wf.m1
  obtain ⟨u, hu'⟩ : ∃ u : Nat, used s.fs = u := ⟨_, rfl⟩
  obtain ⟨mo, hm⟩ : ∃ mo, s.most = mo := ⟨_, rfl⟩
  rw [hu'] at c1 hu ⊢
  rw [hm] at c2 m0 m1 ⊢
  have wz : IntKind.i64.wrap (mo - (u : Int)) = mo - (u : Int) := by rw [IntKind.wrap_i64]; omega
  clear h hu' hm
  go_enter Try.func33, Try.ntmps33
  go_wp2_with fail
  go_quiet (fail)
  go_wp2
  go_ret
  exact ⟨rfl, nq, rfl⟩
theorem ops_any (k : Nat) (z : Fz) (w : World) (hz : FZ w (some k) (some z)) :
    Calls Try.prog 23 #[.pointer (some ⟨k, 0, none⟩)] w fun e w' => e = .returned (.int .i64 z.done) ∧ w' = w := by
  obtain ⟨zn, zd, zb⟩ := z
  have z1 := cell_of_row w k 1 _ _ _ hz.1
  simp only [List.getElem?_toArray, List.getElem?_cons_zero, List.getElem?_cons_succ] at z1
  dsimp only at z1 ⊢
  clear hz
  go_enter Try.func23, Try.ntmps23
  go_wp2
  go_ret
  exact ⟨rfl, rfl⟩
theorem set_pany (k : Nat) (z : Fz) (n : Int) (w : World) (hz : FZ w (some k) (some z)) :
    Calls Try.prog 21 #[.pointer (some ⟨k, 0, none⟩), .int .i64 n] w fun e w' => e = .returned (.tuple #[]) ∧ FZ w' (some k) (some ⟨n, 0, false⟩) ∧ Upd (fun j => j = k) w w' := by
  obtain ⟨zn, zd, zb⟩ := z
  have ho := hz.1
  dsimp only at ho
  have z0 := cell_of_row w k 0 _ _ _ ho
  have z1 := cell_of_row w k 1 _ _ _ ho
  have zf : ∀ j, w.frozen? ⟨k, j, none⟩ = false := fun j => frozen_of_row w k j _ _ ho
  simp only [List.getElem?_toArray, List.getElem?_cons_zero, List.getElem?_cons_succ] at z0 z1
  obtain ⟨w3, hw3⟩ : ∃ w3, (w.setCell ⟨k, 0, none⟩ (.int .i64 n)).setCell ⟨k, 1, none⟩ (.int .i64 0) = w3 := ⟨_, rfl⟩
  have HF : Hid (FZ w3 (some k) (some ⟨n, 0, false⟩) ∧ Upd (fun j => j = k) w w3) := by
    rw [← hw3]
    refine ⟨⟨two_set (cs := #[]) ho _ _, ?_⟩, two_upd _ _⟩
    show false = decide (0 < n ∧ n ≤ 0)
    rw [decide_eq_false (by omega)]
  clear hz ho
  go_enter Try.func21, Try.ntmps21
  go_wp2
  exact bodyPost_end (v := .tuple #[]) (by simp [results, Try.results21, go_sem]) rfl ⟨rfl, HF.out.1, HF.out.2⟩
theorem set_nil (n : Int) (w : World) : Calls Try.prog 21 #[.pointer none, .int .i64 n] w fun e w' => e = .returned (.tuple #[]) ∧ w' = w := by
  go_enter Try.func21, Try.ntmps21
  go_wp2
  exact bodyPost_end (v := .tuple #[]) (by simp [results, Try.results21, go_sem]) rfl ⟨rfl, rfl⟩
theorem p_only {w : World} {p m : Nat} {V : List Fv} {q : Option Nat} {s : St} {F : Int} (h : PX w p m V q s F) : (∀ k, k = p → ∀ cur T, w.heap[k]? = some (.cells cur T (0, 0)) → T ≠ 5) ∧ ¬ m = p := by
  refine ⟨fun k hk cur T e => ?_, fun e => h.ne e.symm⟩
  subst hk
  rw [h.o] at e
  injection e with e
  injection e with _ e _
  subst e; decide
theorem offline_any (p m : Nat) (V : List Fv) (q : Option Nat) (s : St) (F : Int) (b : Bool) (w : World) (h : PX w p m V q s F) :
    Calls Try.prog 19 #[.pointer (some ⟨p, 0, none⟩), .bool b] w fun e w' => e = .returned (.tuple #[]) ∧ PX w' p m V q { s with off := b } F ∧ Upd (fun k => k = p) w w' := by
  have c4 := h.c4
  have f4 := h.soft 4
  obtain ⟨w3, hw3⟩ : ∃ w3, w.setCell ⟨p, 4, none⟩ (.bool b) = w3 := ⟨_, rfl⟩
  have u : Upd (fun k => k = p) w w3 := by rw [← hw3]; exact Upd.put (M := fun k => k = p) (Upd.refl _ _) (p := ⟨p, 4, none⟩) (.inl rfl) _
  have HF : Hid (PX w3 p m V q { s with off := b } F ∧ Upd (fun k => k = p) w w3) := by
    refine ⟨h.turn u (p_only h).1 (p_only h).2 ?_ rfl ⟨h.wf.n, h.wf.b, h.wf.p, h.wf.m0, h.wf.m1, h.wf.b0, h.wf.b1⟩ h.F0 h.F1, u⟩
    rw [← hw3, heap_setCell_same w p 4 _ _ (.bool b) h.o]; rfl
  obtain ⟨ob, hob⟩ : ∃ ob, s.off = ob := ⟨_, rfl⟩
  rw [hob] at c4
  clear h u hob
  go_enter Try.func19, Try.ntmps19
  go_wp2
  exact bodyPost_end (v := .tuple #[]) (by simp [results, Try.results19, go_sem]) rfl ⟨rfl, HF.out.1, HF.out.2⟩
theorem fail_any (p m : Nat) (V : List Fv) (q : Option Nat) (s : St) (F n : Int) (w : World) (h : PX w p m V q s F) (h0 : -9223372036854775808 ≤ n) (h1 : n ≤ 9223372036854775807) :
    Calls Try.prog 18 #[.pointer (some ⟨p, 0, none⟩), .int .i64 n] w fun e w' => e = .returned (.tuple #[]) ∧ PX w' p m V q { s with bad := max n 0 } n ∧ Upd (fun k => k = p) w w' := by
  have c4 := h.c5
  have f4 := h.soft 5
  obtain ⟨w3, hw3⟩ : ∃ w3, w.setCell ⟨p, 5, none⟩ (.int .i64 n) = w3 := ⟨_, rfl⟩
  have u : Upd (fun k => k = p) w w3 := by rw [← hw3]; exact Upd.put (M := fun k => k = p) (Upd.refl _ _) (p := ⟨p, 5, none⟩) (.inl rfl) _
  have HF : Hid (PX w3 p m V q { s with bad := max n 0 } n ∧ Upd (fun k => k = p) w w3) := by
    refine ⟨h.turn u (p_only h).1 (p_only h).2 ?_ rfl ⟨h.wf.n, h.wf.b, h.wf.p, h.wf.m0, h.wf.m1, (by show 0 ≤ max n 0; omega), (by show max n 0 ≤ _; omega)⟩ rfl ⟨h0, h1⟩, u⟩
    rw [← hw3, heap_setCell_same w p 5 _ _ (.int .i64 n) h.o]; rfl
  clear h u
  go_enter Try.func18, Try.ntmps18
  go_wp2
  exact bodyPost_end (v := .tuple #[]) (by simp [results, Try.results18, go_sem]) rfl ⟨rfl, HF.out.1, HF.out.2⟩
/-- All entries are cleared. -/
theorem clear_map {w : World} {b n : Nat} {D : DataW Value} (h : w.ownsMap Try.prog 9 RF b n D) (ty : TypeId) : ∃ w', (Builtin.clear_ #[69] ty #[.map (some b)]).run Try.prog w = .ok (.tuple #[]) w' ∧ w'.ownsMap Try.prog 9 RF b 0 (.map []) ∧ w.mapTurned w' b := by
  obtain ⟨es, clock, hb, F, hs, rfl⟩ := h
  refine ⟨Go.ChangeMaps.setBlock w b (.map #[] clock), by simp [Builtin.clear_, run_underlying Try.underlying69, MapKept.run_getObj_map hb, MapKept.run_setObj_map _ hb, Result.andThen, Go.ChangeMaps.setBlock], ⟨#[], clock, Go.ChangeMaps.heap_setBlock_same hb _, ⟨by simp, Go.MapKept.stamped_empty clock, by simp⟩, Nat.le_refl _, rfl⟩, ⟨es, clock, #[], clock, hb, rfl⟩⟩
set_option maxHeartbeats 2000000 in
theorem wipe_any (p m : Nat) (V : List Fv) (q : Option Nat) (s : St) (F : Int) (w : World) (h : PX w p m V q s F) :
    Calls Try.prog 45 #[.pointer (some ⟨p, 0, none⟩)] w fun e w' => e = .returned (.tuple #[]) ∧ PX w' p m [] q { s with fs := [] } F ∧ Upd (fun k => k = p ∨ k = m) w w' := by
  obtain ⟨w1, hr, ho1, ht1⟩ := clear_map h.m 0
  have hpm := h.ne
  have u1 := turned_upd ht1
  have o1 : w1.heap[p]? = _ := (u1.block p h.lt (fun e => hpm e)).trans h.o
  have c0 := h.c0
  have d0 := cell_of_row w1 p 0 _ _ _ o1
  have d1 := cell_of_row w1 p 1 _ _ _ o1
  have f1 := frozen_of_row w1 p 1 _ _ o1
  obtain ⟨w3, hw3⟩ : ∃ w3, w1.setCell ⟨p, 1, none⟩ (.int .i64 0) = w3 := ⟨_, rfl⟩
  have HF : Hid (PX w3 p m [] q { s with fs := [] } F ∧ Upd (fun k => k = p ∨ k = m) w w3) := by
    have u3 : Upd (fun k => k = p) w1 w3 := by rw [← hw3]; exact Upd.put (M := fun k => k = p) (Upd.refl _ _) (p := ⟨p, 1, none⟩) (.inl rfl) _
    refine ⟨⟨?_, map_upd ho1 u3 (fun e => hpm e.symm), fun x hx => absurd hx (List.not_mem_nil), rfl, ⟨Nat.zero_le _, fun f hf => absurd hf (List.not_mem_nil), fun f hf => absurd hf (List.not_mem_nil), h.wf.m0, h.wf.m1, h.wf.b0, h.wf.b1⟩, List.Pairwise.nil, List.Pairwise.nil, h.F0, h.F1⟩, (u1.mono fun k _ e => .inr e).trans (u3.mono fun k _ e => .inl e)⟩
    rw [← hw3, heap_setCell_same w1 p 1 _ _ (.int .i64 0) o1]; rfl
  simp only [List.getElem?_toArray, List.getElem?_cons_zero, List.getElem?_cons_succ] at d0 d1
  obtain ⟨u0, hu0⟩ : ∃ u0 : Nat, used s.fs = u0 := ⟨_, rfl⟩
  rw [hu0] at d1
  clear h u1 o1 ho1 ht1 hpm hu0
  go_enter Try.func45, Try.ntmps45
  go_wp2
  exact bodyPost_end (v := .tuple #[]) (by simp [results, Try.results45, go_sem]) rfl ⟨rfl, HF.out.1, HF.out.2⟩
end Go.Proofs.Ythkhkijdehbbmaa
