/-
  The document's NewArray; Make.
-/
import Derived.Test.YtebngmgdciahiaaGreatDoorArF
import Derived.Test.YtebngmgdciahiaaGreatDoorRzF
set_option maxRecDepth 100000
namespace Go.Proofs.YtebngmgdciahiaaGreatDoor
open Go.RowKit Crc
open _root_.Go.Proofs.YtebngmgdciahiaaGreatDoor.Nm _root_.Go.Proofs.YtebngmgdciahiaaGreatDoor.Dk
attribute [local go_sem ↓] Go.wp_at_zero Go.wp_at_succ
set_option linter.unusedVariables false

def pv (p : Nat) : Value := .pointer (some ⟨p, 0, none⟩)
/-- The document's array's own block. -/
def vxO (k m bl c g cap : Nat) : Obj := .cells #[.int .i64 (k : Int), .int .i64 (m : Int), .int .i64 (bl : Int), .pointer (some ⟨c, 0, none⟩), .slice (some ⟨g, 0, none⟩) (k + m) cap] 80 (0, 0)
set_option maxHeartbeats 8000000 in
theorem rnew_any (w : World) (k m : Nat) (bl : Int) (v : Option Addr) (c : Nat) (k1 : 1 ≤ k) (m1 : 1 ≤ m) (hkm : k + m ≤ 255) :
    Calls Tryz.prog 30 #[.agg #[.int .i64 (k : Int), .int .i64 (m : Int), .int .i64 bl], .slice v (k + m) c] w fun e w' => Below w.heap.size w w' ∧ ((16 ≤ bl ∧ bl ≤ 4096 ∧ ∃ b p, e = .returned (.tuple #[.pointer (some ⟨b, 0, none⟩), .int .i64 0]) ∧ w.heap.size ≤ b ∧ w'.heap[b]? = some (.cells #[.int .i64 (k : Int), .int .i64 (m : Int), .int .i64 bl, .pointer (some ⟨p, 0, none⟩), .slice v (k + m) c] 80 (0, 0))) ∨ (¬ (16 ≤ bl ∧ bl ≤ 4096) ∧ e = .returned (.tuple #[.pointer none, .int .i64 1]))) := by
  obtain ⟨w1, hw1⟩ : ∃ w1, w.alloc (.cells #[.int .i64 (k : Int), .int .i64 (m : Int), .int .i64 bl] 23) = w1 := ⟨_, rfl⟩
  have bw1 : Below w.heap.size w w1 := by rw [← hw1]; exact bal _ _
  have hs : w1.heap[w.heap.size]? = some (.cells #[.int .i64 (k : Int), .int .i64 (m : Int), .int .i64 bl] 23 (0, 0)) := by rw [← hw1]; exact heap_alloc_new _ _
  have cR := Rz.refnew_yes k m w1 k1 m1 hkm
  have HW1 : Hid (w.alloc (.cells #[.int .i64 (k : Int), .int .i64 (m : Int), .int .i64 bl] 23) = w1) := hw1
  have HS : Hid (w1.heap[w.heap.size]? = some (.cells #[.int .i64 (k : Int), .int .i64 (m : Int), .int .i64 bl] 23 (0, 0)) ∧ Below w.heap.size w w1) := ⟨hs, bw1⟩
  have c0 := cell_of_row w1 w.heap.size 0 _ _ _ hs
  have c1 := cell_of_row w1 w.heap.size 1 _ _ _ hs
  simp only [List.getElem?_toArray, List.getElem?_cons_zero, List.getElem?_cons_succ] at c0 c1
  obtain ⟨n, hnn⟩ : ∃ n, k + m = n := ⟨_, rfl⟩
  have wz : IntKind.i64.wrap ((k : Int) + (m : Int)) = (n : Int) := by rw [IntKind.wrap_i64]; omega
  rw [hnn] at cR ⊢
  clear hw1 bw1 hs k1 m1 hkm hnn
  go_enter Tryz.func30, Tryz.ntmps30
  go_wp2_with fail
  rw [HW1.out]
  go_at_call 51
  refine cR.mono ?_
  rintro e w2 ⟨p, SS, rfl, hp, hcode, b2⟩
  have h2s := (b2.block w.heap.size (Array.getElem?_eq_some_iff.1 HS.out.1).1).trans HS.out.1
  have c2 := cell_of_row w2 w.heap.size 2 _ _ _ h2s
  have c0 := cell_of_row w2 w.heap.size 0 _ _ _ h2s
  have c1 := cell_of_row w2 w.heap.size 1 _ _ _ h2s
  simp only [List.getElem?_toArray, List.getElem?_cons_zero, List.getElem?_cons_succ] at c0 c1 c2
  have H2 : Hid (Below w.heap.size w w2) := HS.out.2.trans (b2.mono HS.out.2.size)
  clear cR hp hcode b2 h2s
  by_cases h0 : bl < 16
  · have g1 : decide (bl < 16) = true := decide_eq_true h0
    have HG : Hid (¬ (16 ≤ bl ∧ bl ≤ 4096)) := fun e => by omega
    clear h0
    go_wp2
    go_ret2
    exact ⟨H2.out, .inr ⟨HG.out, rfl⟩⟩
  · have g1 : decide (bl < 16) = false := decide_eq_false h0
    by_cases h4 : 4096 < bl
    · have g2 : decide (4096 < bl) = true := decide_eq_true h4
      have HG : Hid (¬ (16 ≤ bl ∧ bl ≤ 4096)) := fun e => by omega
      clear h0 h4
      go_wp2
      go_ret2
      exact ⟨H2.out, .inr ⟨HG.out, rfl⟩⟩
    · have g2 : decide (4096 < bl) = false := decide_eq_false h4
      have HG : Hid (16 ≤ bl ∧ bl ≤ 4096) := ⟨by omega, by omega⟩
      have HA : Hid (Below w2.heap.size w2 (w2.alloc (.cells #[.int .i64 (k : Int), .int .i64 (m : Int), .int .i64 bl, .pointer (some ⟨p, 0, none⟩), .slice v n c] 80))) := bal _ _
      clear h0 h4
      go_wp2
      go_ret2
      refine ⟨H2.out.trans (HA.out.mono H2.out.size), .inl ⟨HG.out.1, HG.out.2, w2.heap.size, p, rfl, H2.out.size, heap_alloc_new _ _⟩⟩
theorem infoP : (Tryz.prog.info? 61).map (fun i => (i.zero, i.size, i.bytes)) = some (some (.pointer none), 1, 8) := by kernel_rfl
theorem infoQ : (Tryz.prog.info? 71).map (fun i => (i.zero, i.size, i.bytes)) = some (some (.pointer none), 1, 8) := by kernel_rfl
theorem kT_p : kT 61 := ⟨by decide, by decide, by decide, by decide, by decide, by decide⟩
theorem kT_q : kT 71 := ⟨by decide, by decide, by decide, by decide, by decide, by decide⟩
theorem kT_pair : kT 42 := ⟨by decide, by decide, by decide, by decide, by decide, by decide⟩
def pairO (A D F V G : Value) : Obj := .cells #[A, D, F, V, G] 42 (0, 0)
/-- Make's loop, j disks made. -/
structure MkW (W0 wm w : World) (sb pp kq kg : Nat) (k m : Nat) (bl mo : Int) (j : Nat) (P : Nat → Pc) (vD vl vm : Value) : Prop where
  ar : Ar W0 w ⟨j, P, fun _ => none⟩ (some kq) (some kg) (fun _ => newSt mo) (fun _ => newSt mo) (some z0) (some z0)
  pair : w.heap[pp]? = some (pairO (.pointer none) vD (pv kq) (.pointer none) (pv kg))
  sh : w.heap[sb]? = some (.cells #[.int .i64 (k : Int), .int .i64 (m : Int), .int .i64 bl] 23 (0, 0))
  oD : VOwn 61 w wm.heap.size vD ((List.range j).map fun i => pv (P i).p)
  ol : VOwn 82 w wm.heap.size vl ((List.range j).map fun i => dkv (P i).p)
  om : VOwn 71 w wm.heap.size vm ((List.range j).map fun i => pv (P i).d)
  bw : Below wm.heap.size wm w
  pl : wm.heap.size ≤ pp
  W : W0.heap.size ≤ wm.heap.size
theorem range_up {P : Nat → Pc} {j : Nat} {x : Pc} (f : Pc → Value) : ((List.range j).map fun i => f (P i)) ++ [f x] = (List.range (j + 1)).map fun i => f (up P j x i) := by
  rw [List.range_succ, List.map_append, List.map_singleton, up_at]
  congr 1
  apply List.map_congr_left
  intro i hi
  rw [up_of _ _ (by have := List.mem_range.1 hi; omega)]
theorem range_len (j : Nat) (f : Nat → Value) : ((List.range j).map f).length = j := by rw [List.length_map, List.length_range]
/-- A disk more, append by append. -/
theorem mk_step {W0 wm wr : World} {sb pp kq kg k m : Nat} {bl mo : Int} {j : Nat} {P : Nat → Pc} {vD vl vm : Value} (h : MkW W0 wm wr sb pp kq kg k m bl mo j P vD vl vm) (hj : j ≤ 500) {w5 : World} (b5 : Below wr.heap.size wr w5) (px : PX w5 (wr.heap.size + 1) wr.heap.size [] (some kq) (newSt mo) 0) :
    w5.cell? ⟨pp, 1, none⟩ = some vD ∧ ∃ da dn dc W5, Sem.run Tryz.prog (Builtin.append_ #[37, 37] 37 #[vD, .slice (some ⟨w5.heap.size, 0, none⟩) 1 1]) (w5.alloc (.cells #[.pointer (some ⟨wr.heap.size + 1, 0, none⟩)] 61)) = .ok (.slice da dn dc) W5 ∧ W5.cell? ⟨pp, 1, none⟩ = some vD ∧ W5.frozen? ⟨pp, 1, none⟩ = false ∧
      ∃ w6, W5.setCell ⟨pp, 1, none⟩ (.slice da dn dc) = w6 ∧ ∃ vl' W6, Sem.run Tryz.prog (Builtin.append_ #[68, 68] 68 #[vl, .slice (some ⟨w6.heap.size, 0, none⟩) 1 1]) (w6.alloc (.cells #[.iface 61 (.pointer (some ⟨wr.heap.size + 1, 0, none⟩))] 82)) = .ok vl' W6 ∧ W6.cell? ⟨pp, 4, none⟩ = some (.pointer (some ⟨kg, 0, none⟩)) ∧
      ∀ w7, Below W6.heap.size W6 w7 → DX w7 W6.heap.size none 0 [] (some kg) (newSt mo) → ∃ vm' W7, Sem.run Tryz.prog (Builtin.append_ #[69, 69] 69 #[vm, .slice (some ⟨w7.heap.size, 0, none⟩) 1 1]) (w7.alloc (.cells #[.pointer (some ⟨W6.heap.size, 0, none⟩)] 71)) = .ok vm' W7 ∧
        MkW W0 wm W7 sb pp kq kg k m bl mo (j + 1) (up P j ⟨wr.heap.size + 1, wr.heap.size, W6.heap.size⟩) (.slice da dn dc) vl' vm' := by
  have hK : ∀ (P' : Nat → Pc) (k : Nat) (o : Obj), (Rg.K ⟨j, P', fun _ => none⟩) k = some o → k < wm.heap.size := fun P' k o e => by cases e
  have hlt : ∀ i, i < j → (P i).p < wr.heap.size ∧ (P i).m < wr.heap.size ∧ (P i).d < wr.heap.size := fun i hi => h.ar.lts (R := ⟨j, P, fun _ => none⟩) hi
  have p5 := (b5.block pp (Array.getElem?_eq_some_iff.1 h.pair).1).trans h.pair
  have s5 := (b5.block sb (Array.getElem?_eq_some_iff.1 h.sh).1).trans h.sh
  have bw5 : Below wm.heap.size wm w5 := h.bw.trans (b5.mono h.bw.size)
  have a5 := h.ar.keep b5
  obtain ⟨vD', W5, r1, r2, u1⟩ := append1 (S := 37) (E := 61) (zv := .pointer none) (by8 := 8) Tryz.underlying37 infoP rfl (by omega) (h.oD.keep b5) (pv (wr.heap.size + 1)) rfl (by rw [range_len]; omega) bw5.size
  obtain ⟨da, dc, rfl⟩ := r2.form
  obtain ⟨dn, hdn⟩ : ∃ dn, (((List.range j).map fun i => pv (P i).p) ++ [pv (wr.heap.size + 1)]).length = dn := ⟨_, rfl⟩
  rw [hdn] at r1 r2
  have p6 := u1.block p5 (by decide)
  have s6 := u1.block s5 (by decide)
  have a6 := u1.ar h.W a5 kT_p (hK P)
  have x6 := u1.px px kT_p
  have bw6 : Below wm.heap.size wm W5 := u1.below bw5
  have ol6 := u1.vown (h.ol.keep b5) (by decide)
  have om6 := u1.vown (h.om.keep b5) (by decide)
  have u2 : Ud wm.heap.size 42 W5 (W5.setCell ⟨pp, 1, none⟩ (.slice da dn dc)) := Ud.put p6 h.pl _
  have p7 := heap_setCell_same W5 pp 1 _ _ (.slice da dn dc) p6
  obtain ⟨w6, hw6⟩ : ∃ w6, W5.setCell ⟨pp, 1, none⟩ (.slice da dn dc) = w6 := ⟨_, rfl⟩
  have oD7 := u2.vown r2 (by decide)
  have ol7 := u2.vown ol6 (by decide)
  have om7 := u2.vown om6 (by decide)
  have s7 := u2.block s6 (by decide)
  have a7 := u2.ar h.W a6 kT_pair (hK P)
  have x7 := u2.px x6 kT_pair
  have bw7 : Below wm.heap.size wm (W5.setCell ⟨pp, 1, none⟩ (.slice da dn dc)) := u2.below bw6
  rw [hw6] at p7 oD7 ol7 om7 s7 a7 x7 bw7
  obtain ⟨vl', W6, q1, q2, u3⟩ := append1 (S := 68) (E := 82) (zv := .nilIface) (by8 := 16) Tryz.underlying68 infoD rfl (by omega) ol7 (dkv (wr.heap.size + 1)) rfl (by rw [range_len]; omega) bw7.size
  have p8 := u3.block p7 (by decide)
  have s8 := u3.block s7 (by decide)
  have a8 := u3.ar h.W a7 kT_disk (hK P)
  have x8 := u3.px x7 kT_disk
  have bw8 : Below wm.heap.size wm W6 := u3.below bw7
  have oD8 := u3.vown oD7 (by decide)
  have om8 := u3.vown om7 (by decide)
  refine ⟨cell_of_row w5 pp 1 _ _ _ p5, da, dn, dc, W5, r1, cell_of_row W5 pp 1 _ _ _ p6, frozen_of_row W5 pp 1 _ _ p6, w6, hw6, vl', W6, q1, cell_of_row W6 pp 4 _ _ _ p8, fun w7 b7 dx => ?_⟩
  have p9 := (b7.block pp (Array.getElem?_eq_some_iff.1 p8).1).trans p8
  have s9 := (b7.block sb (Array.getElem?_eq_some_iff.1 s8).1).trans s8
  have bw9 : Below wm.heap.size wm w7 := bw8.trans (b7.mono bw8.size)
  obtain ⟨vm', W7, t1, t2, u4⟩ := append1 (S := 69) (E := 71) (zv := .pointer none) (by8 := 8) Tryz.underlying69 infoQ rfl (by omega) (om8.keep b7) (pv W6.heap.size) rfl (by rw [range_len]; omega) bw9.size
  have hsz : wr.heap.size ≤ W6.heap.size := by
    have e1 := b5.size
    have e2 := u1.size
    have e3 := u2.size
    have e4 := u3.size
    rw [hw6] at e3
    omega
  refine ⟨vm', W7, t1, ?_, u4.block p9 (by decide), u4.block s9 (by decide), ?_, ?_, ?_, u4.below bw9, h.pl, h.W⟩
  · exact Ar.add (B := wr.heap.size) (u4.ar h.W (a8.keep b7) kT_q (hK P)) (Nat.le_trans h.W h.bw.size) (by omega) (Nat.le_refl _) hsz hlt (u4.px (x8.keep b7) kT_q) (u4.dx dx kT_q)
  · have := u4.vown (oD8.keep b7) (by decide)
    rw [range_up (P := P) (x := ⟨wr.heap.size + 1, wr.heap.size, W6.heap.size⟩) (fun x => pv x.p)] at this
    exact this
  · have := u4.vown (q2.keep b7) (by decide)
    rw [range_up (P := P) (x := ⟨wr.heap.size + 1, wr.heap.size, W6.heap.size⟩) (fun x => dkv x.p)] at this
    exact this
  · rw [range_up (P := P) (x := ⟨wr.heap.size + 1, wr.heap.size, W6.heap.size⟩) (fun x => pv x.d)] at t2
    exact t2
/-- Blocks that stay from here on. -/
theorem Ar.hold {w0 w : World} {n : Nat} {P : Nat → Pc} {q g : Option Nat} {S T : Nat → St} {z z2 : Option Fz} (h : Ar w0 w ⟨n, P, fun _ => none⟩ q g S T z z2) (s : List Nat) (hs : ∀ k ∈ s, ∃ o, w.heap[k]? = some o ∧ kO o ∧ ∀ cur, o ≠ .cells cur 5 (0, 0)) : Ar w0 w ⟨n, P, fun k => if k ∈ s then w.heap[k]? else none⟩ q g S T z z2 := by
  obtain ⟨y, hy⟩ := h.ex
  have hk : ∀ (k : Nat) (o : Obj), (if k ∈ s then w.heap[k]? else none) = some o → w.heap[k]? = some o ∧ kO o ∧ ∀ cur, o ≠ .cells cur 5 (0, 0) := fun k o e => by
    by_cases hm : k ∈ s
    · rw [if_pos hm] at e
      obtain ⟨o', e1, e2, e3⟩ := hs k hm
      rw [e] at e1
      injection e1 with e1
      subst e1
      exact ⟨e, e2, e3⟩
    · rw [if_neg hm] at e
      cases e
  refine ⟨h.fz, h.zs, h.b, h.q0, h.g0, fun k o e => ⟨(hk k o e).1, (hk k o e).2.1⟩, y, hy.al, hy.sp, hy.vl, fun i hi k o e hb => ?_⟩
  obtain ⟨cur, hc⟩ := (hy.al i hi).px.bk hb
  obtain ⟨k1, _, k3⟩ := hk k o e
  rw [k1] at hc
  injection hc with hc
  exact k3 cur hc
theorem kO_of {cur : Array Value} {T : TypeId} (h : kT T) : kO (.cells cur T (0, 0)) ∧ ∀ cur', Obj.cells cur T (0, 0) ≠ .cells cur' 5 (0, 0) :=
  ⟨⟨cur, T, _, rfl, h.1, h.2.1, h.2.2.1, h.2.2.2.1, h.2.2.2.2.1⟩, fun cur' e => by
    injection e with _ e _
    exact h.2.2.2.2.2 e⟩
theorem kT_arr : kT 100 := ⟨by decide, by decide, by decide, by decide, by decide, by decide⟩
theorem kT_rarr : kT 80 := ⟨by decide, by decide, by decide, by decide, by decide, by decide⟩
end Go.Proofs.YtebngmgdciahiaaGreatDoor
