/-
  What the document's Encode answers.
-/
import Derived.Test.YtigjhdcinaefbaaDoorJnF
import Derived.Test.YtigjhdcinaefbaaDoorJnRm
import Derived.Test.YtigjhdcinaefbaaDoorCrcRef
import Derived.Test.YtigjhdcinaefbaaDoorLaid4
import Derived.Deep.DeepCutAuto
import Derived.Deep.RegionLaw
namespace Go.Proofs.YtigjhdcinaefbaaDoor
open Go.RowKit Crc
attribute [local go_sem ↓] Go.wp_at_zero Go.wp_at_succ
set_option linter.unusedVariables false

/-- Bytes behind a row that has no room: a new row. -/
theorem appendN {w : World} {base n m c' : Nat} {f g : Nat → Nat} {x y : Addr} (hx : ∀ i, i < n → w.cell? (x.add i) = some (.int .u8 ((f i : Nat) : Int))) (hy : ∀ i, i < m → w.cell? (y.add i) = some (.int .u8 ((g i : Nat) : Int))) (hm : 0 < m) (hl : n + m ≤ 1000000) (hb : base ≤ w.heap.size) :
    ∃ v' W, Sem.run Tryd.prog (Builtin.append_ #[27, 27] 27 #[.slice (some x) n n, .slice (some y) m c']) w = .ok v' W ∧ Own W base v' (n + m) (cat n f g) ∧ Below w.heap.size w W := by
  obtain ⟨i, hi, hzz⟩ := Option.map_eq_some_iff.1 info5
  simp only [Prod.mk.injEq] at hzz
  obtain ⟨hz, hs, hby⟩ := hzz
  have hr := run_append_grow (P := Tryd.prog) w 27 27 5 i (.int .u8 0) Tryd.underlying27 hi hz x n n (bs f n) (by rw [bs_length, hs, Nat.mul_one])
    (fun j u hu => by
      have hj : j < n := by rw [← bs_length f n]; exact (List.getElem?_eq_some_iff.1 hu).1
      rw [bs_at hj] at hu; injection hu with hu
      rw [hx j hj, hu]) y m c' (bs g m) (by rw [bs_length, hs, Nat.mul_one])
    (fun j u hu => by
      have hj : j < m := by rw [← bs_length g m]; exact (List.getElem?_eq_some_iff.1 hu).1
      rw [bs_at hj] at hu; injection hu with hu
      rw [hy j hj, hu]) (by omega) (by omega) (growslice_fits (by omega) (by rw [hby]; omega))
  have hge := grownCap_ge w (n + m) n 5
  have hcm : grownCap w (n + m) n 5 ≤ maxLen := grownCap_le_maxLen w (n + m) n 5 (by unfold maxLen; omega)
  refine ⟨_, _, hr, ⟨by rw [bs_length, Nat.mul_one], .inr ⟨w.heap.size, _, _, rfl, hb, heap_alloc_new w.drew _, hge, hcm, ?_, ?_⟩⟩, ?_⟩
  · simp [bs_length, Builtin.zeroCells, Value.cells]
    omega
  · rw [← bs_cat]
    simp only [Nat.mul_one, Array.toList_append]
    exact List.take_left' (by simp [bs_length])
  · exact (Below.refl _ _).drew.trans (bal w.drew _)

set_option maxRecDepth 100000 in
theorem rencode_bad (t : Int) (s : ByteArray) (a : Option Addr) (n c : Nat) (F : Nat → Ver) (w : World) (h : Vs w a n F) (hs : s.size ≤ maxLen) (hn : n ≤ maxLen) (hm : mayJ t s.size n F = false) :
    Calls Tryd.prog 13 #[jv t s (.slice a n c)] w fun e w' => e = .returned (.tuple #[.slice none 0 0, .int .i64 1]) ∧ Below w.heap.size w w' := by
  obtain ⟨W, hbx, hj, hb⟩ := box_jn w 24 t s (.slice a n c)
  have cM := rmay_any t s a n c F W (h.keep hb) hs hn
  rw [hm] at cM
  have HB : Hid (Below w.heap.size w W) := hb
  obtain ⟨c0, c1, c2⟩ := hj
  clear h hb hm hs hn
  unfold jv at *
  go_enter Tryd.func13, Tryd.ntmps13
  go_wp2_with fail
  go_at_call 15
  refine cM.mono ?_
  rintro e w1 ⟨rfl, b1⟩
  clear cM
  go_wp2
  go_ret2
  exact ⟨rfl, hop HB.out b1⟩

theorem step_append_ran2 {P : Program} {w : World} {ops : Array Oper} {o : Oper} {a : Act} {K : Act → World → Prop} {Q : Exit → Act → World → Prop} {E : Prop} (hgd : o.guard = none) (s x : Operand) (t t' : TypeId)
    (ho : o.op = .call { callee := .builtin .append, args := #[s, x], argTypes := #[t, t'] }) (u v r : Value) (w' : World) (hs : a.eval s = u) (hx : a.eval x = v)
    (hr : Sem.run P (Builtin.append_ #[t, t'] o.type #[u, v]) w = .ok r w') (h : K (a.put o.dst r) w') :
    if Region.wanted o (yielded ops a.tmps) = true then Oper.wp P o a w K Q else E := by
  have hw : Region.wanted o (yielded ops a.tmps) = true := by simp [Region.wanted, hgd]
  rw [if_pos hw]
  unfold Oper.wp execOp
  simp only [ho, resolve, invoke, builtin, Sem.run_bind, Sem.run_pure, Result.andThen_ok, List.map_toArray, List.map_cons, List.map_nil, hs, hx, hr]
  exact h
/-- The bytes so far, and the version that is on its way. -/
structure St (w1 : World) (B pv : Nat) (x : Ver) (X : World) (v : Value) (m : Nat) (F : Nat → Nat) : Prop where
  own : Own X B v m F
  be : Below B w1 X
  ver : VerB X pv x
theorem St.call {w1 X X' : World} {B pv m : Nat} {x : Ver} {v : Value} {F : Nat → Nat} (h : St w1 B pv x X v m F) (hB : B ≤ w1.heap.size) (hb : Below X.heap.size X X') : St w1 B pv x X' v m F :=
  ⟨h.own.keep hb, h.be.trans (hb.mono (Nat.le_trans hB h.be.size)), (hb.block pv (Array.getElem?_eq_some_iff.1 h.ver).1).trans h.ver⟩
theorem St.cells {w1 X : World} {B pv m : Nat} {x : Ver} {v : Value} {F : Nat → Nat} (h : St w1 B pv x X v m F) : X.cell? ⟨pv, 0, none⟩ = some (.int .i64 x.id) ∧ X.cell? ⟨pv, 2, none⟩ = some (.int .i64 x.sz) ∧ X.cell? ⟨pv, 3, none⟩ = some (.int .u32 (x.sm : Int)) :=
  ⟨h.ver.at.c0, h.ver.at.c2, h.ver.at.c3⟩
theorem St.app {w1 X : World} {B pv n m c : Nat} {x : Ver} {v : Value} {F g : Nat → Nat} {a : Option Addr} (h : St w1 B pv x X v n F) (hB : B ≤ w1.heap.size) (r : Row X a m g) (z : a = none → m = 0 ∧ c = 0) (hl : n + m ≤ 1000000) (hm : 0 < m) :
    ∃ q k W, Sem.run Tryd.prog (Builtin.append_ #[27, 27] 27 #[v, .slice a m c]) X = .ok (.slice (some ⟨q, 0, none⟩) (n + m) k) W ∧ St w1 B pv x W (.slice (some ⟨q, 0, none⟩) (n + m) k) (n + m) (cat n F g) ∧ X.grownBy W v.ownBlock := by
  obtain ⟨v', W, hr, ho, hb, hgr⟩ := appendG (c := c) h.own r z (by omega) (Nat.le_trans hB h.be.size)
  obtain ⟨q, k, rfl, _⟩ := ho.made (by omega)
  exact ⟨q, k, W, hr, ⟨ho, h.be.trans hb, h.ver.still (h.own.still hgr)⟩, hgr⟩
/-- A row in a block that is not the one's that is appended to. -/
theorem Row.grown {X W : World} {v : Value} {p m : Nat} {g : Nat → Nat} (r : Row X (some ⟨p, 0, none⟩) m g) (hg : X.grownBy W v.ownBlock) (hp : v.ownBlock ≠ some p) : Row W (some ⟨p, 0, none⟩) m g := by
  refine ⟨r.lt, fun h0 => ?_⟩
  obtain ⟨b, o, e, hc⟩ := r.lies h0
  injection e with e
  injection e with e1 e2
  subst e1; subst e2
  refine ⟨p, 0, rfl, fun i hi => ?_⟩
  have := hc i hi
  have hl := block_lt_of_cell this
  rw [← this]
  unfold World.cell?
  dsimp only
  rw [hg.block p hl (Ne.symm hp)]
theorem Own.newer {X : World} {B m p : Nat} {v : Value} {F : Nat → Nat} (h : Own X B v m F) (hp : X.heap.size ≤ p) : v.ownBlock ≠ some p := fun e => by
  have := (World.ownsRow.lt h p e).2
  omega
set_option maxRecDepth 100000 in
theorem little_st {w1 : World} {B pv : Nat} {x : Ver} (z : Nat) (hz : z < 4294967296) (hB : B ≤ w1.heap.size) (X : World) (v : Value) (m : Nat) (F : Nat → Nat) (h : St w1 B pv x X v m F) :
    Calls Tryd.prog 34 #[.int .i64 (z : Int), .int .i64 4] X fun e X' => ∃ q k, e = .returned (.slice (some ⟨q, 0, none⟩) 4 k) ∧ Row X' (some ⟨q, 0, none⟩) 4 (by4 z) ∧ St w1 B pv x X' v m F ∧ Below X.heap.size X X' := by
  refine (little_any z 4 X (by omega) (by omega)).mono ?_
  rintro e X' ⟨v', rfl, ho, hb⟩
  obtain ⟨q, k, rfl, _, _, _, r⟩ := ho.row (by omega) (by4_lt _)
  exact ⟨q, k, rfl, r, h.call hB hb, hb⟩
set_option maxRecDepth 100000 in
theorem bytes_st {w1 : World} {B pv : Nat} {x : Ver} (z : Nat) (hz : z < 4294967296) (hB : B ≤ w1.heap.size) (X : World) (v : Value) (m : Nat) (F : Nat → Nat) (h : St w1 B pv x X v m F) :
    Calls Tryd.prog 35 #[.int .u32 (z : Int)] X fun e X' => ∃ q k, e = .returned (.slice (some ⟨q, 0, none⟩) 4 k) ∧ Row X' (some ⟨q, 0, none⟩) 4 (by4 z) ∧ St w1 B pv x X' v m F ∧ Below X.heap.size X X' := by
  refine (rbytes_any z X hz).mono ?_
  rintro e X' ⟨v', rfl, ho, hb⟩
  obtain ⟨q, k, rfl, _, _, _, r⟩ := ho.row (by omega) (by4_lt _)
  exact ⟨q, k, rfl, r, h.call hB hb, hb⟩
end Go.Proofs.YtigjhdcinaefbaaDoor
