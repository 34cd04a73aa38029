/-
  The pair: Does, Same.
-/
import Derived.Test.YtebngmgdciahiaaGreatDoorArXh
import Derived.Test.YtebngmgdciahiaaGreatDoorArP
set_option maxRecDepth 100000
namespace Go.Proofs.YtebngmgdciahiaaGreatDoor
open Go.RowKit Crc
open _root_.Go.Proofs.YtebngmgdciahiaaGreatDoor.Nm _root_.Go.Proofs.YtebngmgdciahiaaGreatDoor.Dk
attribute [local go_sem ↓] Go.wp_at_zero Go.wp_at_succ
set_option linter.unusedVariables false
/-- Where all of a pair lies. -/
structure Pd (w0 : World) (R : Rg) (pp ab vb kq kg N gd gcap gv vcap : Nat) : Prop where
  c : ∀ (w : World) (q g : Option Nat) (S T : Nat → St) (z z2 : Option Fz), Ar w0 w R q g S T z z2 → w.cell? ⟨pp, 0, none⟩ = some (.pointer (some ⟨ab, 0, none⟩)) ∧ w.cell? ⟨pp, 1, none⟩ = some (.slice (some ⟨gd, 0, none⟩) N gcap) ∧ w.cell? ⟨pp, 2, none⟩ = some (.pointer (some ⟨kq, 0, none⟩)) ∧ w.cell? ⟨pp, 3, none⟩ = some (.pointer (some ⟨vb, 0, none⟩)) ∧ w.cell? ⟨pp, 4, none⟩ = some (.pointer (some ⟨kg, 0, none⟩)) ∧ w.cell? ⟨vb, 4, none⟩ = some (.slice (some ⟨gv, 0, none⟩) N vcap) ∧ ∀ i, i < N → w.cell? ⟨gd, i, none⟩ = some (.pointer (some ⟨(R.P i).p, 0, none⟩)) ∧ w.cell? ⟨gv, i, none⟩ = some (.pointer (some ⟨(R.P i).d, 0, none⟩))
  n : R.n = N
theorem pd_fix (w0 : World) {R : Rg} {pp ab vb kq kg k m bl : Nat} (p : Ps R pp ab vb kq kg (k + m)) (v : Vs R vb k m bl) (hN : R.n = k + m) : ∃ gd gcap gv vcap, Pd w0 R pp ab vb kq kg (k + m) gd gcap gv vcap := by
  obtain ⟨gd, cap, cur, h1, h2, h3, h4⟩ := p.ex
  obtain ⟨c, gv, vcap, curv, v1, v2, v3, v4⟩ := v.ex
  refine ⟨gd, cap, gv, vcap, fun w q g S T z z2 h => ⟨?_, ?_, ?_, ?_, ?_, ?_, fun i hi => ⟨?_, ?_⟩⟩, hN⟩
  · simpa [pv] using cell_of_row w pp 0 _ _ _ (h.kept h1)
  · simpa [pv] using cell_of_row w pp 1 _ _ _ (h.kept h1)
  · simpa [pv] using cell_of_row w pp 2 _ _ _ (h.kept h1)
  · simpa [pv] using cell_of_row w pp 3 _ _ _ (h.kept h1)
  · simpa [pv] using cell_of_row w pp 4 _ _ _ (h.kept h1)
  · simpa using cell_of_row w vb 4 _ _ _ (h.kept v1)
  · rw [cell_of_row w gd i _ _ _ (h.kept h2), h3 i hi]; rfl
  · rw [cell_of_row w gv i _ _ _ (h.kept v2), v3 i hi]; rfl
theorem Ar.less {w0 w : World} {R : Rg} {q g : Option Nat} {S T : Nat → St} {z z2 : Option Fz} {k : Nat} {o : Obj} (h : Ar w0 w (R.more k o) q g S T z z2) (hk : R.K k = none) : Ar w0 w R q g S T z z2 := by
  obtain ⟨y, hy⟩ := h.ex
  have hne : ∀ k' o', R.K k' = some o' → (R.more k o).K k' = some o' := fun k' o' e => by
    have hn : k' ≠ k := fun e2 => by rw [e2, hk] at e; cases e
    show up R.K k (some o) k' = _
    rw [up_of _ _ hn]; exact e
  exact ⟨h.fz, h.zs, h.b, h.q0, h.g0, fun k' o' e => h.kp k' o' (hne k' o' e), y, hy.al, hy.sp, hy.vl, fun i hi k' o' e => hy.vk i hi k' o' (hne k' o' e)⟩
theorem Ar.fresh {w0 w : World} {R : Rg} {q g : Option Nat} {S T : Nat → St} {z z2 : Option Fz} (h : Ar w0 w R q g S T z z2) : R.K w.heap.size = none := by
  cases e : R.K w.heap.size with
  | none => rfl
  | some o => exact absurd (h.kb _ _ e) (Nat.lt_irrefl _)
theorem more_at (R : Rg) (k : Nat) (o : Obj) : (R.more k o).K k = some o := up_at R.K k (some o)
theorem kT_hit : kT 31 := ⟨by decide, by decide, by decide, by decide, by decide, by decide⟩
/-- What an act on both leaves. -/
def DEnd (w0 : World) (R : Rg) (kq kg : Nat) (zz : Fz) (w' : World) : Prop := ∃ S' zz', Hid (Ar w0 w' R (some kq) (some kg) S' S' (some zz') (some zz') ∧ ∀ j, ZN j (some zz) → ZN (j + 1) (some zz'))
theorem bend {w0 w' : World} {R : Rg} {kq kg i : Nat} {S : Nat → St} {zz : Fz} {e : Ending} {j : Nat} (hz : ZN j (some zz)) (h : BEnd w0 ⟨R, i, S, S⟩ (R.P i).p (R.P i).m (R.P i).d (some kq) (some kg) (some zz) e w') : e = .returned (.bool true) ∧ DEnd w0 R kq kg zz w' := by
  obtain ⟨h1, s', z', hp, hz'⟩ := h
  obtain ⟨y, rfl, _⟩ := hz' j hz
  exact ⟨h1, _, y, hp.2.2, hz'⟩
set_option maxHeartbeats 8000000 in
theorem does_no {w0 w : World} {R : Rg} {S : Nat → St} {zz : Fz} {pp ab vb kq kg N gd gcap gv vcap : Nat} (h : Ar w0 w R (some kq) (some kg) S S (some zz) (some zz)) (P : Pd w0 R pp ab vb kq kg N gd gcap gv vcap) (at_ dv n : Int) (x y : ByteArray) (va : Option Addr) (vn vc : Nat) (ha : at_ < 0 ∨ (N : Int) ≤ at_) :
    Calls Tryz.prog 17 #[.pointer (some ⟨pp, 0, none⟩), .agg #[.int .i64 at_, .int .i64 dv, .int .i64 n, .string x, .string y, .slice va vn vc]] w fun e w' => e = .returned (.bool true) ∧ Below w.heap.size w w' := by
  obtain ⟨w1, hw1⟩ : ∃ w1, w.alloc (.cells #[.int .i64 at_, .int .i64 dv, .int .i64 n, .string x, .string y, .slice va vn vc] 31) = w1 := ⟨_, rfl⟩
  have b1 : Below w.heap.size w w1 := by rw [← hw1]; exact bal _ _
  have hs : w1.heap[w.heap.size]? = some (.cells #[.int .i64 at_, .int .i64 dv, .int .i64 n, .string x, .string y, .slice va vn vc] 31 (0, 0)) := by rw [← hw1]; exact heap_alloc_new _ _
  obtain ⟨bx, hbx⟩ : ∃ bx, w.heap.size = bx := ⟨_, rfl⟩
  have c0 := cell_of_row w1 w.heap.size 0 _ _ _ hs
  simp only [List.getElem?_toArray, List.getElem?_cons_zero] at c0
  rw [hbx] at c0
  have c1 := (P.c _ _ _ _ _ _ _ (h.keep b1)).2.1
  have HW1 : Hid (w.alloc (.cells #[.int .i64 at_, .int .i64 dv, .int .i64 n, .string x, .string y, .slice va vn vc] 31) = w1 ∧ w.heap.size = bx ∧ Below w.heap.size w w1) := ⟨hw1, hbx, b1⟩
  clear h P hs hw1 hbx b1
  by_cases h0 : at_ < 0
  · have g0 : decide (at_ < 0) = true := decide_eq_true h0
    clear ha h0
    go_enter Tryz.func17, Tryz.ntmps17
    go_wp2_with fail
    rw [HW1.out.1, HW1.out.2.1]
    go_quiet (fail)
    go_wp2
    go_ret
    exact ⟨rfl, HW1.out.2.2.trans ((bdn' _ _).mono HW1.out.2.2.size)⟩
  · have g0 : decide (at_ < 0) = false := decide_eq_false h0
    have g1 : decide ((N : Int) ≤ at_) = true := decide_eq_true (by omega)
    clear ha h0
    go_enter Tryz.func17, Tryz.ntmps17
    go_wp2_with fail
    rw [HW1.out.1, HW1.out.2.1]
    go_quiet (fail)
    go_wp2
    go_ret
    exact ⟨rfl, HW1.out.2.2.trans ((bdn' _ _).mono HW1.out.2.2.size)⟩
set_option maxHeartbeats 8000000 in
theorem does_yes {w0 w : World} {R : Rg} {S : Nat → St} {zz : Fz} {pp ab vb kq kg N gd gcap gv vcap j i : Nat} (h : Ar w0 w R (some kq) (some kg) S S (some zz) (some zz)) (P : Pd w0 R pp ab vb kq kg N gd gcap gv vcap) (hz : ZN j (some zz)) (hj : j ≤ 900000) (dv n : Int) (x y : ByteArray) (va : Option Addr) (vn vc : Nat) (b : ByteArray) (ha : i < N) (hx : x.size ≤ maxLen) (hy : y.size ≤ 1000) (hi : Inp w0 va vn vc b) (hvn : vn ≤ maxLen) (hn0 : -9223372036854775808 ≤ n) (hn1 : n ≤ 9223372036854775807) (hN : N ≤ 1000) :
    Calls Tryz.prog 17 #[.pointer (some ⟨pp, 0, none⟩), .agg #[.int .i64 (i : Int), .int .i64 dv, .int .i64 n, .string x, .string y, .slice va vn vc]] w fun e w' => e = .returned (.bool true) ∧ DEnd w0 R kq kg zz w' := by
  obtain ⟨w1, hw1⟩ : ∃ w1, w.alloc (.cells #[.int .i64 (i : Int), .int .i64 dv, .int .i64 n, .string x, .string y, .slice va vn vc] 31) = w1 := ⟨_, rfl⟩
  have b1 : Below w.heap.size w w1 := by rw [← hw1]; exact bal _ _
  have hs : w1.heap[w.heap.size]? = some (.cells #[.int .i64 (i : Int), .int .i64 dv, .int .i64 n, .string x, .string y, .slice va vn vc] 31 (0, 0)) := by rw [← hw1]; exact heap_alloc_new _ _
  obtain ⟨bx, hbx⟩ : ∃ bx, w.heap.size = bx := ⟨_, rfl⟩
  have hfr : R.K bx = none := by rw [← hbx]; exact h.fresh
  rw [hbx] at hs
  have c0 := cell_of_row w1 bx 0 _ _ _ hs
  simp only [List.getElem?_toArray, List.getElem?_cons_zero] at c0
  have hA := h.keep b1
  have q1 := (P.c _ _ _ _ _ _ _ hA).2.1
  have HB : Hid (∀ nq : Nat, (w1.drewN nq).drew.cell? ⟨pp, 1, none⟩ = some (.slice (some ⟨gd, 0, none⟩) N gcap) ∧ (w1.drewN nq).drew.cell? ⟨pp, 2, none⟩ = some (.pointer (some ⟨kq, 0, none⟩)) ∧ (w1.drewN nq).drew.cell? ⟨pp, 3, none⟩ = some (.pointer (some ⟨vb, 0, none⟩)) ∧ (w1.drewN nq).drew.cell? ⟨vb, 4, none⟩ = some (.slice (some ⟨gv, 0, none⟩) N vcap) ∧ (w1.drewN nq).drew.cell? ⟨gd, i, none⟩ = some (.pointer (some ⟨(R.P i).p, 0, none⟩)) ∧ (w1.drewN nq).drew.cell? ⟨gv, i, none⟩ = some (.pointer (some ⟨(R.P i).d, 0, none⟩)) ∧ (w1.drewN nq).drew.cell? ⟨bx, 0, none⟩ = some (.int .i64 (i : Int)) ∧ (w1.drewN nq).drew.cell? ⟨bx, 1, none⟩ = some (.int .i64 dv) ∧ (w1.drewN nq).drew.cell? ⟨bx, 2, none⟩ = some (.int .i64 n) ∧ (w1.drewN nq).drew.cell? ⟨bx, 3, none⟩ = some (.string x) ∧ (w1.drewN nq).drew.cell? ⟨bx, 4, none⟩ = some (.string y) ∧ (w1.drewN nq).drew.cell? ⟨bx, 5, none⟩ = some (.slice va vn vc)) := fun nq => by
    have bn := (bdn' w1 nq).trans ((Below.refl _ _).drew)
    have hs2 := (bn.block bx (Array.getElem?_eq_some_iff.1 hs).1).trans hs
    have d0 := cell_of_row _ bx 0 _ _ _ hs2
    have d1 := cell_of_row _ bx 1 _ _ _ hs2
    have d2 := cell_of_row _ bx 2 _ _ _ hs2
    have d3 := cell_of_row _ bx 3 _ _ _ hs2
    have d4 := cell_of_row _ bx 4 _ _ _ hs2
    have d5 := cell_of_row _ bx 5 _ _ _ hs2
    simp only [List.getElem?_toArray, List.getElem?_cons_zero, List.getElem?_cons_succ] at d0 d1 d2 d3 d4 d5
    have f := P.c _ _ _ _ _ _ _ (hA.keep bn)
    exact ⟨f.2.1, f.2.2.1, f.2.2.2.1, f.2.2.2.2.2.1, (f.2.2.2.2.2.2 i ha).1, (f.2.2.2.2.2.2 i ha).2, d0, d1, d2, d3, d4, d5⟩
  have hR : i < R.n := by rw [P.n]; exact ha
  have HK : Hid (∀ nq : Nat, Calls Tryz.prog 39 #[.pointer (some ⟨(R.P i).p, 0, none⟩), .pointer (some ⟨kq, 0, none⟩), .pointer (some ⟨(R.P i).d, 0, none⟩), .agg #[.int .i64 dv, .int .i64 n, .string x, .string y, .slice va vn vc]] (w1.drewN nq).drew fun e w' => e = .returned (.bool true) ∧ (w'.cell? ⟨pp, 1, none⟩ = some (.slice (some ⟨gd, 0, none⟩) N gcap) ∧ w'.cell? ⟨pp, 2, none⟩ = some (.pointer (some ⟨kq, 0, none⟩)) ∧ w'.cell? ⟨pp, 3, none⟩ = some (.pointer (some ⟨vb, 0, none⟩)) ∧ w'.cell? ⟨vb, 4, none⟩ = some (.slice (some ⟨gv, 0, none⟩) N vcap) ∧ w'.cell? ⟨gd, i, none⟩ = some (.pointer (some ⟨(R.P i).p, 0, none⟩)) ∧ w'.cell? ⟨gv, i, none⟩ = some (.pointer (some ⟨(R.P i).d, 0, none⟩)) ∧ w'.cell? ⟨bx, 0, none⟩ = some (.int .i64 (i : Int)) ∧ w'.cell? ⟨bx, 1, none⟩ = some (.int .i64 dv) ∧ w'.cell? ⟨bx, 2, none⟩ = some (.int .i64 n) ∧ w'.cell? ⟨bx, 3, none⟩ = some (.string x) ∧ w'.cell? ⟨bx, 4, none⟩ = some (.string y) ∧ w'.cell? ⟨bx, 5, none⟩ = some (.slice va vn vc)) ∧ Hid (DEnd w0 R kq kg zz w')) := fun nq => by
    have bn := (bdn' w1 nq).trans ((Below.refl _ _).drew)
    have hs2 := (bn.block bx (Array.getElem?_eq_some_iff.1 hs).1).trans hs
    have hM := (hA.keep bn).more hs2 (kO_of kT_hit).1 (kO_of kT_hit).2
    refine (bo_any w0 _ _ _ _ _ kq kg _ zz dv n x y va vn vc b (hM.pr (i := i) hR) (zn_zb hz (by omega)) hx hy hi hvn hn0 hn1).mono fun e w' r => ?_
    obtain ⟨r1, S', zz', r2⟩ := bend hz r
    have hk' := r2.out.1.kept (more_at R bx _)
    have d0 := cell_of_row _ bx 0 _ _ _ hk'
    have d1 := cell_of_row _ bx 1 _ _ _ hk'
    have d2 := cell_of_row _ bx 2 _ _ _ hk'
    have d3 := cell_of_row _ bx 3 _ _ _ hk'
    have d4 := cell_of_row _ bx 4 _ _ _ hk'
    have d5 := cell_of_row _ bx 5 _ _ _ hk'
    simp only [List.getElem?_toArray, List.getElem?_cons_zero, List.getElem?_cons_succ] at d0 d1 d2 d3 d4 d5
    have hl := r2.out.1.less hfr
    have f := P.c _ _ _ _ _ _ _ hl
    exact ⟨r1, ⟨f.2.1, f.2.2.1, f.2.2.2.1, f.2.2.2.2.2.1, (f.2.2.2.2.2.2 i ha).1, (f.2.2.2.2.2.2 i ha).2, d0, d1, d2, d3, d4, d5⟩, S', zz', hl, r2.out.2⟩
  have HW1 : Hid (w.alloc (.cells #[.int .i64 (i : Int), .int .i64 dv, .int .i64 n, .string x, .string y, .slice va vn vc] 31) = w1 ∧ w.heap.size = bx) := ⟨hw1, hbx⟩
  have g0 : decide ((i : Int) < 0) = false := decide_eq_false (by omega)
  have g1 : decide ((N : Int) ≤ (i : Int)) = false := decide_eq_false (by omega)
  have ij : (i : Int) < (N : Int) := by omega
  clear h hA P hs hw1 hbx b1 hfr hz hj hi hvn hn0 hn1 hx hy hR
  go_enter Tryz.func17, Tryz.ntmps17
  go_wp2_with fail
  rw [HW1.out.1, HW1.out.2]
  go_quiet (fail)
  have hb9 := HB.out nq
  have hk9 := HK.out nq
  obtain ⟨wq, hwq⟩ : ∃ wq, w1.drewN nq = wq := ⟨_, rfl⟩
  rw [hwq] at hb9 hk9 ⊢
  have HS9 : Hid (wq.drew.cell? ⟨pp, 1, none⟩ = some (.slice (some ⟨gd, 0, none⟩) N gcap) ∧ wq.drew.cell? ⟨pp, 2, none⟩ = some (.pointer (some ⟨kq, 0, none⟩)) ∧ wq.drew.cell? ⟨pp, 3, none⟩ = some (.pointer (some ⟨vb, 0, none⟩)) ∧ wq.drew.cell? ⟨vb, 4, none⟩ = some (.slice (some ⟨gv, 0, none⟩) N vcap) ∧ wq.drew.cell? ⟨gd, i, none⟩ = some (.pointer (some ⟨(R.P i).p, 0, none⟩)) ∧ wq.drew.cell? ⟨gv, i, none⟩ = some (.pointer (some ⟨(R.P i).d, 0, none⟩)) ∧ wq.drew.cell? ⟨bx, 0, none⟩ = some (.int .i64 (i : Int)) ∧ wq.drew.cell? ⟨bx, 1, none⟩ = some (.int .i64 dv) ∧ wq.drew.cell? ⟨bx, 2, none⟩ = some (.int .i64 n) ∧ wq.drew.cell? ⟨bx, 3, none⟩ = some (.string x) ∧ wq.drew.cell? ⟨bx, 4, none⟩ = some (.string y) ∧ wq.drew.cell? ⟨bx, 5, none⟩ = some (.slice va vn vc)) := hb9
  have K : Hid (Calls Tryz.prog 39 #[.pointer (some ⟨(R.P i).p, 0, none⟩), .pointer (some ⟨kq, 0, none⟩), .pointer (some ⟨(R.P i).d, 0, none⟩), .agg #[.int .i64 dv, .int .i64 n, .string x, .string y, .slice va vn vc]] wq.drew fun e w' => e = .returned (.bool true) ∧ (w'.cell? ⟨pp, 1, none⟩ = some (.slice (some ⟨gd, 0, none⟩) N gcap) ∧ w'.cell? ⟨pp, 2, none⟩ = some (.pointer (some ⟨kq, 0, none⟩)) ∧ w'.cell? ⟨pp, 3, none⟩ = some (.pointer (some ⟨vb, 0, none⟩)) ∧ w'.cell? ⟨vb, 4, none⟩ = some (.slice (some ⟨gv, 0, none⟩) N vcap) ∧ w'.cell? ⟨gd, i, none⟩ = some (.pointer (some ⟨(R.P i).p, 0, none⟩)) ∧ w'.cell? ⟨gv, i, none⟩ = some (.pointer (some ⟨(R.P i).d, 0, none⟩)) ∧ w'.cell? ⟨bx, 0, none⟩ = some (.int .i64 (i : Int)) ∧ w'.cell? ⟨bx, 1, none⟩ = some (.int .i64 dv) ∧ w'.cell? ⟨bx, 2, none⟩ = some (.int .i64 n) ∧ w'.cell? ⟨bx, 3, none⟩ = some (.string x) ∧ w'.cell? ⟨bx, 4, none⟩ = some (.string y) ∧ w'.cell? ⟨bx, 5, none⟩ = some (.slice va vn vc)) ∧ Hid (DEnd w0 R kq kg zz w')) := hk9
  clear HB HK hb9 hk9 hwq c0 q1
  go_wp2_with fail
  go_region_held3 (fun Y => Y.cell? ⟨pp, 1, none⟩ = some (.slice (some ⟨gd, 0, none⟩) N gcap) ∧ Y.cell? ⟨pp, 2, none⟩ = some (.pointer (some ⟨kq, 0, none⟩)) ∧ Y.cell? ⟨pp, 3, none⟩ = some (.pointer (some ⟨vb, 0, none⟩)) ∧ Y.cell? ⟨vb, 4, none⟩ = some (.slice (some ⟨gv, 0, none⟩) N vcap) ∧ Y.cell? ⟨gd, i, none⟩ = some (.pointer (some ⟨(R.P i).p, 0, none⟩)) ∧ Y.cell? ⟨gv, i, none⟩ = some (.pointer (some ⟨(R.P i).d, 0, none⟩)) ∧ Y.cell? ⟨bx, 0, none⟩ = some (.int .i64 (i : Int)) ∧ Y.cell? ⟨bx, 1, none⟩ = some (.int .i64 dv) ∧ Y.cell? ⟨bx, 2, none⟩ = some (.int .i64 n) ∧ Y.cell? ⟨bx, 3, none⟩ = some (.string x) ∧ Y.cell? ⟨bx, 4, none⟩ = some (.string y) ∧ Y.cell? ⟨bx, 5, none⟩ = some (.slice va vn vc))
    (first | with_reducible exact HS9.out | with_reducible exact p1)
    (first
      | (go_at_call 39; with_reducible refine K.out.mono ?_; rintro e w8 ⟨rfl, p1, HE⟩))
  clear K HS9 p1
  go_wp2
  go_ret
  exact ⟨rfl, HE.out⟩
end Go.Proofs.YtebngmgdciahiaaGreatDoor
