/-
  Texts of earlier stages, one behind the other: DkG, DkH, DkK, DkI, DkS, DkJ.
-/
import Derived.Test.YtebngmgdciahiaaGreatDoorG1
import Derived.Test.YtebngmgdciahiaaGreatDoorByt
set_option maxRecDepth 100000
namespace Go.Proofs.YtebngmgdciahiaaGreatDoor
open Go.RowKit Dk Nm
attribute [local go_sem ↓] Go.wp_at_zero Go.wp_at_succ
set_option linter.unusedVariables false

theorem FOwn.sure {w : World} {base g c j : Nat} {L : List Fv} (h : FOwn w base (.slice (some ⟨g, 0, none⟩) L.length c) L) (hj : j < L.length) :
    FOwn (w.setCell ⟨g, j * 3 + 2, none⟩ (.bool true)) base (.slice (some ⟨g, 0, none⟩) L.length c) (L.set j { L[j]! with sure := true }) := by
  rcases h with ⟨hl, ⟨e, _⟩ | ⟨g', cap, cur, e, hg, hh, hnc, hm, hs, ht⟩⟩
  · cases e
  · injection e with e1 e2 e3
    injection e1 with e1
    injection e1 with e1
    subst e1; subst e3
    refine ⟨fcs_length _, .inr ⟨g, c, _, by rw [List.length_set], hg, heap_setCell_same w g (j * 3 + 2) _ _ (.bool true) hh, by rw [List.length_set]; exact hnc, hm, by rw [Array.size_setIfInBounds]; exact hs, ?_⟩⟩
    have hcl : cur.toList.length = c * 3 := by rw [Array.length_toList]; exact hs
    refine fcs_ext ?_ fun i hi r hr => ?_
    · rw [List.length_take, Array.toList_setIfInBounds, List.length_set, List.length_set, hcl]; omega
    · rw [List.length_set] at hi
      rw [List.getElem?_take, List.length_set, if_pos (by omega), Array.toList_setIfInBounds, List.getElem?_set]
      have hcur : cur.toList[i * 3 + r]? = (cellsF L[i]!)[r]? := by
        rw [← fcs_at L i hi r hr, ← ht, List.getElem?_take, if_pos (by omega)]
      by_cases ei : i = j
      · subst ei
        have e2 : (L.set i { L[i]! with sure := true })[i]! = { L[i]! with sure := true } := by
          rw [getElem!_pos _ i (by rw [List.length_set]; exact hi), List.getElem_set_self]
        rw [e2]
        match r, hr with
        | 0, _ => rw [if_neg (by omega), hcur]; rfl
        | 1, _ => rw [if_neg (by omega), hcur]; rfl
        | 2, _ => rw [if_pos rfl, if_pos (by omega)]; rfl
      · have e2 : (L.set j { L[j]! with sure := true })[i]! = L[i]! := by
          rw [getElem!_pos _ i (by rw [List.length_set]; exact hi), List.getElem_set_ne (fun q => ei q.symm), getElem!_pos L i hi]
        rw [e2, if_neg (by omega), hcur]
/-- The row's own block. -/
theorem DX.block {w : World} {p : Nat} {a : Option Addr} {c : Nat} {L : List Fv} {q : Option Nat} {s : St} (h : DX w p a c L q s) (h0 : 0 < L.length) : ∃ g cur, a = some ⟨g, 0, none⟩ ∧ w.heap[g]? = some (.cells cur 130 (0, 0)) := by
  rcases h.l.2 with ⟨_, e⟩ | ⟨g, cap, cur, e, _, hh, _⟩
  · omega
  · injection e with e1
    exact ⟨g, cur, e1, hh⟩
def setSure (l : List Fl) (j : Nat) : List Fl := l.modify j fun f => { f with sure := true }
theorem sure_map {L : List Fv} {j : Nat} (hj : j < L.length) : (L.set j { L[j]! with sure := true }).map fl = setSure (L.map fl) j := by
  unfold setSure
  apply List.ext_getElem?
  intro i
  rw [List.getElem?_map, List.getElem?_set, List.getElem?_modify, List.getElem?_map]
  by_cases e : j = i
  · subst e
    rw [if_pos rfl, if_pos hj, List.getElem?_eq_getElem hj, getElem!_pos L j hj]
    simp [fl]
  · rw [if_neg e]
    cases L[i]? <;> simp [e]
theorem DX.sure {w : World} {p g : Nat} {c j : Nat} {L : List Fv} {q : Option Nat} {s : St} (h : DX w p (some ⟨g, 0, none⟩) c L q s) (hj : j < L.length) (hpg : p ≠ g) :
    DX (w.setCell ⟨g, j * 3 + 2, none⟩ (.bool true)) p (some ⟨g, 0, none⟩) c (L.set j { L[j]! with sure := true }) q { s with fs := setSure s.fs j } := by
  obtain ⟨g', cur, e, hh⟩ := h.block (by omega)
  injection e with e
  injection e with e
  subst e
  have u : Upd (fun k => k = g) w (w.setCell ⟨g, j * 3 + 2, none⟩ (.bool true)) := Upd.put (M := fun k => k = g) (Upd.refl _ w) (p := ⟨g, j * 3 + 2, none⟩) (.inl rfl) _
  refine ⟨?_, ?_, fun x hx => ?_, ?_, ?_⟩
  · rw [heap_setCell_other _ _ _ _ hpg, List.length_set]; exact h.o
  · have := h.l.sure hj
    rw [List.length_set]; exact this
  · have hb : ∀ y ∈ L, BO (w.setCell ⟨g, j * 3 + 2, none⟩ (.bool true)) y := fun y hy => (h.b y hy).upd u fun g2 cur2 e2 k => by
      subst k
      rw [hh] at e2
      injection e2 with e2
      injection e2 with _ e2 _
      exact absurd e2 (by decide)
    rcases List.mem_or_eq_of_mem_set hx with k | k
    · exact hb x k
    · subst k
      exact hb L[j]! (by rw [getElem!_pos L j hj]; exact List.getElem_mem hj)
  · rw [sure_map hj, ← h.f]
  · have hm : ∀ f ∈ setSure s.fs j, ∃ f' ∈ s.fs, f.b = f'.b ∧ f.path = f'.path := fun f hf => by
      rw [h.f, ← sure_map hj] at hf
      obtain ⟨y, hy, rfl⟩ := List.mem_map.1 hf
      rcases List.mem_or_eq_of_mem_set hy with k | k
      · exact ⟨fl y, by rw [h.f]; exact List.mem_map_of_mem k, rfl, rfl⟩
      · subst k
        exact ⟨fl L[j]!, by rw [h.f]; exact List.mem_map_of_mem (by rw [getElem!_pos L j hj]; exact List.getElem_mem hj), rfl, rfl⟩
    refine ⟨by unfold setSure; rw [List.length_modify]; exact h.wf.n, fun f hf => ?_, fun f hf => ?_, h.wf.m0, h.wf.m1, h.wf.b0, h.wf.b1⟩
    · obtain ⟨f', h1, h2, _⟩ := hm f hf
      rw [h2]; exact h.wf.b f' h1
    · obtain ⟨f', h1, _, h3⟩ := hm f hf
      rw [h3]; exact h.wf.p f' h1
end Go.Proofs.YtebngmgdciahiaaGreatDoor

namespace Go.Proofs.YtebngmgdciahiaaGreatDoor
open Go.RowKit Dk Nm
attribute [local go_sem ↓] Go.wp_at_zero Go.wp_at_succ
set_option linter.unusedVariables false

/-- What Sync answers, and leaves. -/
def synZ (z : Option Fz) (s : St) (x : ByteArray) : Int × St := if (askZ z s [x]).1 ≠ 0 then ((askZ z s [x]).1, (askZ z s [x]).2.2) else if there x s.fs = true then (0, { (askZ z s [x]).2.2 with fs := setSure s.fs (place x s.fs) }) else (6, (askZ z s [x]).2.2)

set_option maxRecDepth 100000 in
set_option maxHeartbeats 4000000 in
theorem sync_any (p : Nat) (a : Option Addr) (c : Nat) (L : List Fv) (q : Option Nat) (s : St) (z : Option Fz) (x : ByteArray) (w : World) (h : DX w p a c L q s) (hz : Zs w q z) (hb : Zb z) (hx : x.size ≤ maxLen) :
    Calls Tryz.prog 37 #[.pointer (some ⟨p, 0, none⟩), .string x] w (OpEnd p a L q (synZ z s x).1 (synZ z s x).2 (askZ z s [x]).2.1 w) := by
  obtain ⟨W, hW⟩ : ∃ W, w.alloc (.cells #[.string x] 9) = W := ⟨_, rfl⟩
  have bW : Below w.heap.size w W := by rw [← hW]; exact (Below.refl _ _).alloc (Nat.le_refl _) _
  have hS : Strs W (some ⟨w.heap.size, 0, none⟩) [x] := by rw [← hW]; exact lit_str w x
  have cA := ask_any p a c L q s z (some ⟨w.heap.size, 0, none⟩) 1 [x] W (h.keep bW) (hz.keep bW) hb hS (by simp)
  have hfs := askZ_fs z s [x]
  have hdl : synZ z s x = synZ z s x := rfl
  conv at hdl => rhs; unfold synZ
  obtain ⟨e0, he0⟩ : ∃ e0, (askZ z s [x]).1 = e0 := ⟨_, rfl⟩
  obtain ⟨s1, hs1⟩ : ∃ s1, (askZ z s [x]).2.2 = s1 := ⟨_, rfl⟩
  obtain ⟨z1, hz1⟩ : ∃ z1, (askZ z s [x]).2.1 = z1 := ⟨_, rfl⟩
  rw [he0, hs1] at hdl
  rw [hs1] at hfs
  rw [hz1]
  obtain ⟨DL, hDL⟩ : ∃ y, synZ z s x = y := ⟨_, rfl⟩
  rw [hDL] at hdl ⊢
  have HDL : Hid (DL = if e0 ≠ 0 then (e0, s1) else if there x s.fs = true then (0, { s1 with fs := setSure s.fs (place x s.fs) }) else (6, s1)) := hdl
  have HBW : Hid (Below w.heap.size w W) := bW
  have cA1 : Calls Tryz.prog 56 #[.pointer (some ⟨p, 0, none⟩), .slice (some ⟨w.heap.size, 0, none⟩) 1 1] W fun e w' => e = .returned (.int .i64 e0) ∧ DX w' p a c L q s1 ∧ Zs w' q z1 ∧ Upd (Mk p q) W w' := by
    refine cA.mono ?_
    rintro e w' ⟨h1, h2, h3, h4⟩
    rw [he0] at h1
    rw [hs1] at h2
    rw [hz1] at h3
    exact ⟨h1, h2, h3, h4⟩
  have HF : Hid (s1.fs = s.fs) := hfs
  have HT : Hid (∀ e w', e = .returned (.int .i64 DL.1) → (∃ a' c' L', DX w' p a' c' L' q DL.2 ∧ Zs w' q z1 ∧ Upd (Mg p q a) w w' ∧ (a' = a ∨ ∀ x, a' = some x → w.heap.size ≤ x.block) ∧ Gw w L L') → OpEnd p a L q DL.1 DL.2 z1 w e w') := fun e w' h1 h2 => ⟨h1, h2⟩
  generalize hPP : OpEnd p a L q DL.1 DL.2 z1 w = PP at *
  clear hPP h hz hb bW hS cA he0 hfs hs1 hz1 hdl hDL
  go_enter Tryz.func37, Tryz.ntmps37
  go_wp2_with fail
  go_at_call 56
  refine cA1.mono ?_
  rintro e w1 ⟨rfl, h1, hz1, u1⟩
  clear cA1 hW
  have HZ1 : Hid (Zs w1 q z1) := hz1
  have HU1 : Hid (Upd (Mg p q a) w w1) := ((Upd.of HBW.out).trans u1).mono fun _ _ k => Mg.of k
  clear hz1 u1
  have HD1 : Hid (DX w1 p a c L q s1) := h1
  by_cases g0 : e0 = 0
  · subst g0
    have cT := at_any p a c L q s1 x w1 h1 hx
    rw [HF.out] at cT
    cases ht : there x s.fs with
    | false =>
      rw [ht] at cT
      have HE : Hid (DL = (6, s1)) := by unfold Hid; rw [HDL.out, if_neg (fun k => k rfl), if_neg (by rw [ht]; decide)]
      clear ht h1
      go_wp2_with fail
      go_at_call 57
      refine cT.mono ?_
      rintro e w2 ⟨rfl, n2, rfl⟩
      clear cT
      go_wp2
      exact HT.out _ _ (by rw [HE.out] <;> rfl) ⟨a, c, L, by rw [HE.out]; exact HD1.out.drewN n2, HZ1.out.keep (bdn' _ _), HU1.out.drewN n2, .inl rfl, Gw.refl _ _⟩
    | true =>
      rw [ht] at cT
      have hlt := there_lt ht
      have HE : Hid (DL = (0, { s1 with fs := setSure s.fs (place x s.fs) })) := by unfold Hid; rw [HDL.out, if_neg (fun k => k rfl), if_pos ht]
      have hfl : s.fs = L.map fl := by rw [← HF.out]; exact h1.f
      obtain ⟨j, hj⟩ : ∃ j, place x s.fs = j := ⟨_, rfl⟩
      rw [hj] at cT hlt HE
      have hjL : j < L.length := by rw [hfl, List.length_map] at hlt; exact hlt
      obtain ⟨g, cur, rfl, hg⟩ := h1.block (by omega)
      have hpg : p ≠ g := fun e => by
        subst e
        have := h1.o
        rw [hg] at this
        injection this with this
        injection this with _ this _
        exact absurd this (by decide)
      have HPG : Hid (p ≠ g) := hpg
      have HJL : Hid (j < L.length) := hjL
      have HQG : Hid (∀ k, q = some k → k ≠ g) := fun k hk e => by
        subst hk; subst e
        have hz := HZ1.out
        cases z1 with
        | none => exact absurd hz (by unfold Zs; exact id)
        | some y =>
          unfold Zs at hz
          dsimp only at hz
          rw [hg] at hz
          injection hz with hz
          injection hz with _ hz _
          exact absurd hz (by decide)
      have fg : ∀ i, w1.frozen? ⟨g, i, none⟩ = false := fun i => frozen_of_row w1 g i _ _ hg
      have c0 := h1.c0
      have ij : (j : Int) < (L.length : Int) := by omega
      have hnn := h1.n
      obtain ⟨hf, _, hlc, _⟩ := h1.rows
      obtain ⟨b, o, eo, hA⟩ := hf (by omega)
      cases eo
      have t2 := (hA j hjL).c2
      rw [Nat.zero_add] at t2
      clear ht h1 hfl hj hlt hg hpg hf hA hlc
      go_wp2_with fail
      go_at_call 57
      refine cT.mono ?_
      rintro e w2 ⟨rfl, n2, rfl⟩
      clear cT
      have HN : Hid (∃ a' c' L', DX ((w1.drewN n2).setCell ⟨g, j * 3 + 2, none⟩ (.bool true)) p a' c' L' q DL.2 ∧ Zs ((w1.drewN n2).setCell ⟨g, j * 3 + 2, none⟩ (.bool true)) q z1 ∧ Upd (Mg p q (some ⟨g, 0, none⟩)) w ((w1.drewN n2).setCell ⟨g, j * 3 + 2, none⟩ (.bool true)) ∧ (a' = some ⟨g, 0, none⟩ ∨ ∀ x, a' = some x → w.heap.size ≤ x.block) ∧ Gw w L L') := by
        refine ⟨some ⟨g, 0, none⟩, c, _, by rw [HE.out]; rw [← HF.out]; exact (HD1.out.drewN n2).sure HJL.out HPG.out, ?_, (HU1.out.drewN n2).put (p := ⟨g, j * 3 + 2, none⟩) (.inl (.inr (.inr ⟨0, rfl⟩))) _, .inl rfl, Gw.put (y := { L[j]! with sure := true }) (j := j) (fun u hu => hu) fun k a e => .inr ⟨L[j]!, by rw [getElem!_pos L j HJL.out]; exact List.getElem_mem _, k, e⟩⟩
        have hz := HZ1.out
        cases hq : q with
        | none =>
          rw [hq] at hz
          cases z1 with
          | none => trivial
          | some y => exact absurd hz (by unfold Zs; exact id)
        | some k =>
          have hkg := HQG.out k hq
          rw [hq] at hz
          cases z1 with
          | none => exact absurd hz (by unfold Zs; exact id)
          | some y =>
            unfold Zs at *
            dsimp only at *
            rw [heap_setCell_other _ _ _ _ hkg]
            exact hz
      go_wp2
      exact HT.out _ _ (by rw [HE.out] <;> rfl) HN.out
  · have g1 : (e0 == 0) = false := by simpa using g0
    have HE : Hid (DL = (e0, s1)) := by unfold Hid; rw [HDL.out, if_pos g0]
    clear h1
    go_wp2
    exact HT.out _ _ (by rw [HE.out] <;> rfl) ⟨a, c, L, by rw [HE.out]; exact HD1.out, HZ1.out, HU1.out, .inl rfl, Gw.refl _ _⟩
end Go.Proofs.YtebngmgdciahiaaGreatDoor

namespace Go.Proofs.YtebngmgdciahiaaGreatDoor
open Go.RowKit Dk Nm
attribute [local go_sem ↓] Go.wp_at_zero Go.wp_at_succ
set_option linter.unusedVariables false

/-- The world behind the store of a file. -/
def putF (w : World) (g o : Nat) (y : Fv) : World := ((w.setCell ⟨g, o, none⟩ (.string y.path)).setCell ⟨g, o + 1, none⟩ (.slice y.bv.1 y.bv.2.1 y.bv.2.2)).setCell ⟨g, o + 2, none⟩ (.bool y.sure)
theorem putF_upd (w : World) (g o : Nat) (y : Fv) : Upd (fun k => k = g) w (putF w g o y) :=
  Upd.put (M := fun k => k = g) (Upd.put (M := fun k => k = g) (Upd.put (M := fun k => k = g) (Upd.refl _ w) (p := ⟨g, o, none⟩) (.inl rfl) _) (p := ⟨g, o + 1, none⟩) (.inl rfl) _) (p := ⟨g, o + 2, none⟩) (.inl rfl) _
theorem FOwn.put {w : World} {base g c j : Nat} {L : List Fv} (h : FOwn w base (.slice (some ⟨g, 0, none⟩) L.length c) L) (hj : j < L.length) (y : Fv) :
    FOwn (putF w g (j * 3) y) base (.slice (some ⟨g, 0, none⟩) L.length c) (L.set j y) := by
  rcases h with ⟨hl, ⟨e, _⟩ | ⟨g', cap, cur, e, hg, hh, hnc, hm, hs, ht⟩⟩
  · cases e
  · injection e with e1 e2 e3
    injection e1 with e1
    injection e1 with e1
    subst e1; subst e3
    have h1 := heap_setCell_same w g (j * 3) _ _ (.string y.path) hh
    have h2 := heap_setCell_same _ g (j * 3 + 1) _ _ (.slice y.bv.1 y.bv.2.1 y.bv.2.2) h1
    have h3 := heap_setCell_same _ g (j * 3 + 2) _ _ (.bool y.sure) h2
    refine ⟨fcs_length _, .inr ⟨g, c, _, by rw [List.length_set], hg, h3, by rw [List.length_set]; exact hnc, hm, by simp only [Array.size_setIfInBounds]; exact hs, ?_⟩⟩
    have hcl : cur.toList.length = c * 3 := by rw [Array.length_toList]; exact hs
    refine fcs_ext ?_ fun i hi r hr => ?_
    · simp only [List.length_take, Array.toList_setIfInBounds, List.length_set, hcl]; omega
    · rw [List.length_set] at hi
      rw [List.getElem?_take, List.length_set, if_pos (by omega)]
      simp only [Array.toList_setIfInBounds, List.getElem?_set, List.length_set, hcl]
      have hcur : cur.toList[i * 3 + r]? = (cellsF L[i]!)[r]? := by
        rw [← fcs_at L i hi r hr, ← ht, List.getElem?_take, if_pos (by omega)]
      by_cases ei : i = j
      · subst ei
        have e2 : (L.set i y)[i]! = y := by
          rw [getElem!_pos _ i (by rw [List.length_set]; exact hi), List.getElem_set_self]
        rw [e2]
        match r, hr with
        | 0, _ => rw [if_neg (by omega), if_neg (by omega), if_pos (by omega), if_pos (by omega)]; rfl
        | 1, _ => rw [if_neg (by omega), if_pos rfl, if_pos (by omega)]; rfl
        | 2, _ => rw [if_pos rfl, if_pos (by omega)]; rfl
      · have e2 : (L.set j y)[i]! = L[i]! := by
          rw [getElem!_pos _ i (by rw [List.length_set]; exact hi), List.getElem_set_ne (fun q => ei q.symm), getElem!_pos L i hi]
        rw [e2, if_neg (by omega), if_neg (by omega), if_neg (by omega), hcur]
/-- A file in its place. -/
theorem DX.put {w : World} {p g : Nat} {c j : Nat} {L : List Fv} {q : Option Nat} {s : St} (h : DX w p (some ⟨g, 0, none⟩) c L q s) (hj : j < L.length) (hpg : p ≠ g) (y : Fv) (hy : BO w y) (hb : y.b.size ≤ 262144) (hp : y.path.size ≤ 600) :
    DX (putF w g (j * 3) y) p (some ⟨g, 0, none⟩) c (L.set j y) q { s with fs := s.fs.set j (fl y) } := by
  obtain ⟨g', cur, e, hh⟩ := h.block (by omega)
  injection e with e
  injection e with e
  subst e
  have u := putF_upd w g (j * 3) y
  have hB : ∀ x, BO w x → BO (putF w g (j * 3) y) x := fun x hx => hx.upd u fun g2 cur2 e2 k => by
    subst k
    rw [hh] at e2
    injection e2 with e2
    injection e2 with _ e2 _
    exact absurd e2 (by decide)
  have hf : s.fs.set j (fl y) = (L.set j y).map fl := by rw [h.f, List.map_set]
  refine ⟨?_, ?_, fun x hx => ?_, hf, ?_⟩
  · show (putF w g (j * 3) y).heap[p]? = _
    unfold putF
    rw [heap_setCell_other _ _ _ _ hpg, heap_setCell_other _ _ _ _ hpg, heap_setCell_other _ _ _ _ hpg, List.length_set]; exact h.o
  · have := h.l.put hj y
    rw [List.length_set]; exact this
  · rcases List.mem_or_eq_of_mem_set hx with k | k
    · exact hB x (h.b x k)
    · subst k; exact hB x hy
  · refine ⟨by show (s.fs.set j (fl y)).length ≤ _; rw [List.length_set]; exact h.wf.n, fun f hm => ?_, fun f hm => ?_, h.wf.m0, h.wf.m1, h.wf.b0, h.wf.b1⟩
    · rcases List.mem_or_eq_of_mem_set hm with k | k
      · exact h.wf.b f k
      · subst k; exact hb
    · rcases List.mem_or_eq_of_mem_set hm with k | k
      · exact h.wf.p f k
      · subst k; exact hp
end Go.Proofs.YtebngmgdciahiaaGreatDoor

namespace Go.Proofs.YtebngmgdciahiaaGreatDoor
open Go.RowKit Dk Nm
attribute [local go_sem ↓] Go.wp_at_zero Go.wp_at_succ
set_option linter.unusedVariables false

def newSt (m : Int) : St := ⟨[], if m < 0 ∨ 4194304 < m then 0 else m, false, 0⟩
theorem new_dx (w : World) (q : Option Nat) (m : Int) : DX (w.alloc (.cells #[.slice none 0 0, .int .i64 (newSt m).most, .pointer (q.map fun k => ⟨k, 0, none⟩), .bool false, .int .i64 0] 115)) w.heap.size none 0 [] q (newSt m) :=
  ⟨heap_alloc_new _ _, FOwn.start _ _, fun x hx => absurd hx (List.not_mem_nil), rfl, ⟨Nat.zero_le _, fun f hf => absurd hf (List.not_mem_nil), fun f hf => absurd hf (List.not_mem_nil), by unfold newSt; dsimp only; split <;> omega, by unfold newSt; dsimp only; split <;> omega, Int.le_refl _, (by show (0 : Int) ≤ 9223372036854775807; decide)⟩⟩
set_option maxRecDepth 100000 in
set_option maxHeartbeats 2000000 in
theorem newdisk_any (m : Int) (q : Option Nat) (w : World) (h1 : -9223372036854775808 ≤ m) (h2 : m ≤ 9223372036854775807) :
    Calls Tryz.prog 28 #[.int .i64 m, .pointer (q.map fun k => ⟨k, 0, none⟩)] w fun e w' => e = .returned (.pointer (some ⟨w.heap.size, 0, none⟩)) ∧ DX w' w.heap.size none 0 [] q (newSt m) ∧ Below w.heap.size w w' := by
  have HD := new_dx w q m
  obtain ⟨P, hP⟩ : ∃ P : Option Addr, (q.map fun k => (⟨k, 0, none⟩ : Addr)) = P := ⟨_, rfl⟩
  rw [hP] at HD ⊢
  by_cases a1 : m < 0
  · have hm : (newSt m).most = 0 := by unfold newSt; dsimp only; rw [if_pos (.inl a1)]
    rw [hm] at HD
    have HDD : Hid (DX (w.alloc (.cells #[.slice none 0 0, .int .i64 0, .pointer P, .bool false, .int .i64 0] 115)) w.heap.size none 0 [] q (newSt m)) := HD
    clear HD hP hm
    go_enter Tryz.func28, Tryz.ntmps28
    go_wp2
    first | exact ⟨rfl, HDD.out, (Below.refl _ _).alloc (Nat.le_refl _) _⟩ | (go_ret; exact ⟨rfl, HDD.out, (Below.refl _ _).alloc (Nat.le_refl _) _⟩)
  · have b1 : decide (m < 0) = false := decide_eq_false a1
    by_cases a2 : 4194304 < m
    · have hm : (newSt m).most = 0 := by unfold newSt; dsimp only; rw [if_pos (.inr a2)]
      rw [hm] at HD
      have HDD : Hid (DX (w.alloc (.cells #[.slice none 0 0, .int .i64 0, .pointer P, .bool false, .int .i64 0] 115)) w.heap.size none 0 [] q (newSt m)) := HD
      clear HD hP hm a1
      go_enter Tryz.func28, Tryz.ntmps28
      go_wp2
      first | exact ⟨rfl, HDD.out, (Below.refl _ _).alloc (Nat.le_refl _) _⟩ | (go_ret; exact ⟨rfl, HDD.out, (Below.refl _ _).alloc (Nat.le_refl _) _⟩)
    · have hm : (newSt m).most = m := by unfold newSt; dsimp only; rw [if_neg (by omega)]
      have b2 : decide (4194304 < m) = false := decide_eq_false a2
      rw [hm] at HD
      have HDD : Hid (DX (w.alloc (.cells #[.slice none 0 0, .int .i64 m, .pointer P, .bool false, .int .i64 0] 115)) w.heap.size none 0 [] q (newSt m)) := HD
      clear HD hP hm a1 a2
      go_enter Tryz.func28, Tryz.ntmps28
      go_wp2
      first | exact ⟨rfl, HDD.out, (Below.refl _ _).alloc (Nat.le_refl _) _⟩ | (go_ret; exact ⟨rfl, HDD.out, (Below.refl _ _).alloc (Nat.le_refl _) _⟩)
set_option maxRecDepth 100000 in
set_option maxHeartbeats 2000000 in
theorem set_any (k : Nat) (z : Fz) (n : Int) (w : World) (hz : Zs w (some k) (some z)) :
    Calls Tryz.prog 75 #[.pointer (some ⟨k, 0, none⟩), .int .i64 n] w fun e w' => e = .returned (.tuple #[]) ∧ Zs w' (some k) (some ⟨n, 0, false⟩) ∧ Upd (fun i => i = k) w w' := by
  have hz' : w.heap[k]? = some (.cells #[.int .i64 z.n, .int .i64 z.done, .bool z.blown] 67) := hz
  have k0 := heap_setCell_same w k 0 _ _ (.int .i64 n) hz'
  have k1 := heap_setCell_same _ k 1 _ _ (.int .i64 0) k0
  have k2 := heap_setCell_same _ k 2 _ _ (.bool false) k1
  have HK : Hid (Zs (((w.setCell ⟨k, 0, none⟩ (.int .i64 n)).setCell ⟨k, 1, none⟩ (.int .i64 0)).setCell ⟨k, 2, none⟩ (.bool false)) (some k) (some ⟨n, 0, false⟩) ∧ Upd (fun i => i = k) w (((w.setCell ⟨k, 0, none⟩ (.int .i64 n)).setCell ⟨k, 1, none⟩ (.int .i64 0)).setCell ⟨k, 2, none⟩ (.bool false))) :=
    ⟨k2, Upd.put (M := fun i => i = k) (Upd.put (M := fun i => i = k) (Upd.put (M := fun i => i = k) (Upd.refl _ w) (p := ⟨k, 0, none⟩) (.inl rfl) _) (p := ⟨k, 1, none⟩) (.inl rfl) _) (p := ⟨k, 2, none⟩) (.inl rfl) _⟩
  have z0 := cell_of_row w k 0 _ _ _ hz'
  have z1 := cell_of_row w k 1 _ _ _ hz'
  have z2 := cell_of_row w k 2 _ _ _ hz'
  have fz : ∀ j, w.frozen? ⟨k, j, none⟩ = false := fun j => frozen_of_row w k j _ _ hz'
  simp only [List.getElem?_toArray, List.getElem?_cons_zero, List.getElem?_cons_succ] at z0 z1 z2
  generalize hPP : (fun (e : Ending) (w' : World) => e = .returned (.tuple #[]) ∧ Zs w' (some k) (some ⟨n, 0, false⟩) ∧ Upd (fun i => i = k) w w') = PP at *
  have HP : Hid (∀ e w', e = .returned (.tuple #[]) → Zs w' (some k) (some ⟨n, 0, false⟩) ∧ Upd (fun i => i = k) w w' → PP e w') := fun e w' h1 h2 => by rw [← hPP]; exact ⟨h1, h2⟩
  clear hPP hz hz' k0 k1 k2
  go_enter Tryz.func75, Tryz.ntmps75
  go_wp2
  exact bodyPost_end (v := .tuple #[]) (by simp [results, Tryz.results75, go_sem]) rfl (HP.out _ _ rfl HK.out)
end Go.Proofs.YtebngmgdciahiaaGreatDoor

namespace Go.Proofs.YtebngmgdciahiaaGreatDoor
open Go.RowKit
attribute [local go_sem ↓] Go.wp_at_zero Go.wp_at_succ
set_option linter.unusedVariables false

/-- A text in memory. -/
structure Sv where
  s : ByteArray
  deriving Inhabited
def cellsS (e : Sv) : List Value := [.string e.s]
/-- It as a value. -/
def sv (e : Sv) : Value := .agg #[.string e.s]
theorem cellsS_length (e : Sv) : (cellsS e).length = 1 := rfl
theorem cellsS_one (e : Sv) : ∀ u ∈ cellsS e, u.oneCell' = true := by
  intro u h
  unfold cellsS at h
  simp at h
  rcases h with rfl <;> rfl
/-- Its cells. -/
structure SAt (w : World) (b o : Nat) (e : Sv) : Prop where
  c0 : w.cell? ⟨b, o, none⟩ = some (.string e.s)
theorem SAt.keep {w w' : World} {b o : Nat} {e : Sv} (h : SAt w b o e) (hb : Below w.heap.size w w') : SAt w' b o e :=
  ⟨(hb.cell (p := ⟨b, o, none⟩) (block_lt_of_cell h.c0)).trans h.c0⟩
/-- A slice that begins at a holds in w the row L. -/
def Ss (w : World) (a : Option Addr) (L : List Sv) : Prop := 0 < L.length → ∃ b o, a = some ⟨b, o, none⟩ ∧ ∀ i, i < L.length → SAt w b (o + i * 1) L[i]!
theorem Ss.keep {w w' : World} {a : Option Addr} {L : List Sv} (h : Ss w a L) (hb : Below w.heap.size w w') : Ss w' a L := fun hn => by
  obtain ⟨b, o, e, hc⟩ := h hn
  exact ⟨b, o, e, fun i hi => (hc i hi).keep hb⟩
theorem Ss.nil (w : World) (a : Option Addr) : Ss w a [] := fun h => absurd h (Nat.lt_irrefl _)
/-- The cells of the row. -/
def scs (L : List Sv) : List Value := L.flatMap cellsS
theorem scs_length (L : List Sv) : (scs L).length = L.length * 1 := by
  induction L with
  | nil => rfl
  | cons e L ih => unfold scs at *; rw [List.flatMap_cons, List.length_append, ih, cellsS_length, List.length_cons]; omega
theorem scs_append (L M : List Sv) : scs (L ++ M) = scs L ++ scs M := List.flatMap_append
theorem scs_at (L : List Sv) (i : Nat) (hi : i < L.length) (r : Nat) (hr : r < 1) : (scs L)[i * 1 + r]? = (cellsS L[i]!)[r]? := by
  induction L generalizing i with
  | nil => simp at hi
  | cons e L ih =>
    show (cellsS e ++ scs L)[i * 1 + r]? = _
    cases i with
    | zero => rw [List.getElem?_append_left (by rw [cellsS_length]; omega)]; simp
    | succ i =>
      rw [List.getElem?_append_right (by rw [cellsS_length]; omega), cellsS_length, show (i + 1) * 1 + r - 1 = i * 1 + r by omega, ih i (by simpa using hi)]
      simp
theorem scs_one {L : List Sv} : ∀ u ∈ scs L, u.oneCell' = true := by
  intro u hu
  obtain ⟨e, _, h⟩ := List.mem_flatMap.1 hu
  exact cellsS_one e u h
theorem scs_ext {X : List Value} {L : List Sv} (hl : X.length = L.length * 1) (h : ∀ i, i < L.length → ∀ r, r < 1 → X[i * 1 + r]? = (cellsS L[i]!)[r]?) : X = scs L := by
  apply List.ext_getElem?
  intro j
  by_cases hj : j < L.length * 1
  · have e : j = j / 1 * 1 + j % 1 := by omega
    rw [e, h (j / 1) (by omega) (j % 1) (by omega), scs_at L (j / 1) (by omega) (j % 1) (by omega)]
  · rw [List.getElem?_eq_none (by omega), List.getElem?_eq_none (by rw [scs_length]; omega)]
theorem SAt.cells {w : World} {b o : Nat} {L : List Sv} (h : ∀ i, i < L.length → SAt w b (o + i * 1) L[i]!) (j : Nat) (u : Value) (hu : (scs L)[j]? = some u) : w.cell? ⟨b, o + j, none⟩ = some u := by
  have hj : j < L.length * 1 := by rw [← scs_length L]; exact (List.getElem?_eq_some_iff.1 hu).1
  obtain ⟨i, r, e, hi, hr⟩ : ∃ i r, j = i * 1 + r ∧ i < L.length ∧ r < 1 := ⟨j / 1, j % 1, by omega, by omega, by omega⟩
  subst e
  rw [scs_at L i hi r hr] at hu
  obtain ⟨c0⟩ := h i hi
  rw [show o + (i * 1 + r) = o + i * 1 + r by omega, ← hu]
  match r, hr with
  | 0, _ => exact c0
theorem infoS : (Tryz.prog.info? 9).map (fun i => (i.zero, i.size, i.bytes)) = some (some (.string ⟨#[]⟩), 1, 16) := by kernel_rfl
/-- A row of one's own. -/
def SOwn (w : World) (base : Nat) (v : Value) (L : List Sv) : Prop := w.ownsRow base 9 1 v L.length (scs L)
theorem SOwn.start (w : World) (base : Nat) : SOwn w base (.slice none 0 0) [] := ⟨rfl, .inl ⟨rfl, rfl⟩⟩
theorem SOwn.keep {w w' : World} {base : Nat} {v : Value} {L : List Sv} (h : SOwn w base v L) (hb : Below w.heap.size w w') : SOwn w' base v L := by
  rcases h with ⟨hl, e | ⟨g, cap, cur, e, hg, hh, hr⟩⟩
  · exact ⟨hl, .inl e⟩
  · refine ⟨hl, .inr ⟨g, cap, cur, e, hg, ?_, hr⟩⟩
    have hlt : g < w.heap.size := (Array.getElem?_eq_some_iff.1 hh).1
    rw [hb.block g hlt]; exact hh
theorem SOwn.mono {w : World} {b b' : Nat} {v : Value} {L : List Sv} (h : SOwn w b v L) (hb : b' ≤ b) : SOwn w b' v L := by
  rcases h with ⟨hl, e | ⟨g, cap, cur, e, hg, hh, hr⟩⟩
  · exact ⟨hl, .inl e⟩
  · exact ⟨hl, .inr ⟨g, cap, cur, e, by omega, hh, hr⟩⟩
theorem sat_of_row {w : World} {g n : Nat} {cur : Array Value} {L : List Sv} (hh : w.heap[g]? = some (.cells cur 9 (0, 0))) (e : cur.toList.take (n * 1) = scs L) (hn : L.length ≤ n) {i : Nat} (hi : i < L.length) : SAt w g (i * 1) L[i]! := by
  have hc : ∀ r, r < 1 → w.cell? ⟨g, i * 1 + r, none⟩ = (cellsS L[i]!)[r]? := fun r hr => by
    rw [cell_of_row w g _ cur _ _ hh, ← scs_at L i hi r hr, ← e, List.getElem?_take, if_pos (by omega), Array.getElem?_toList]
  exact ⟨hc 0 (by omega)⟩
/-- What a row of one's own is as a slice. -/
theorem SOwn.row {w : World} {base : Nat} {v : Value} {L : List Sv} (h : SOwn w base v L) :
    ∃ a c, v = .slice a L.length c ∧ Ss w a L ∧ (a = none → L.length = 0 ∧ c = 0) ∧ L.length ≤ c ∧ c ≤ maxLen := by
  rcases h.2 with ⟨rfl, e0⟩ | ⟨g, cap, cur, rfl, hg, hh, hnc, hm, hsz, ht⟩
  · have : L = [] := List.length_eq_zero_iff.1 e0
    subst this
    exact ⟨none, 0, rfl, Ss.nil _ _, fun _ => ⟨rfl, rfl⟩, Nat.le_refl _, by unfold maxLen; omega⟩
  · exact ⟨some ⟨g, 0, none⟩, cap, rfl, fun _ => ⟨g, 0, rfl, fun i hi => by rw [Nat.zero_add]; exact sat_of_row hh ht (Nat.le_refl _) hi⟩, (fun e => by cases e), hnc, hm⟩
/-- Any row behind one's own. -/
theorem appendS {w : World} {base c : Nat} {v : Value} {L M : List Sv} {a : Option Addr} (h : SOwn w base v L) (r : Ss w a M) (z : a = none → M.length = 0 ∧ c = 0) (hl : L.length + M.length ≤ 1000000) (hb : base ≤ w.heap.size) :
    ∃ v' W, Sem.run Tryz.prog (Builtin.append_ #[103, 103] 103 #[v, .slice a M.length c]) w = .ok v' W ∧ SOwn W base v' (L ++ M) ∧ w.grownBy W v.ownBlock ∧ Below base w W := by
  obtain ⟨i, hi, hzz⟩ := Option.map_eq_some_iff.1 infoS
  simp only [Prod.mk.injEq] at hzz
  obtain ⟨hz, hs, hby⟩ := hzz
  cases a with
  | none =>
    obtain ⟨e0, rfl⟩ := z rfl
    have : M = [] := List.length_eq_zero_iff.1 e0
    subst this
    have hr := run_append_owned_none (P := Tryz.prog) w base 103 103 9 i 1 Tryz.underlying103 hi v L.length (scs L) h
    refine ⟨v, w, hr, by rw [List.append_nil]; exact h, ?_, Below.refl _ _⟩
    exact ⟨rfl, rfl, rfl, Nat.le_refl _, fun _ _ _ => rfl⟩
  | some x =>
    have hc : ∀ j u, (scs M)[j]? = some u → w.cell? (x.add j) = some u := fun j u hu => by
      have hj : j < M.length * 1 := by rw [← scs_length M]; exact (List.getElem?_eq_some_iff.1 hu).1
      obtain ⟨b, o, e, hv⟩ := r (by omega)
      injection e with e
      subst e
      rw [add_plain]; exact SAt.cells hv j u hu
    obtain ⟨v', W, hr, hown, hg, _⟩ := run_append_own (P := Tryz.prog) w base 103 103 9 i (.string ⟨#[]⟩) 1 16 Tryz.underlying103 hi hz hs hby rfl (by omega) v L.length (scs L) h x M.length c (scs M) (by rw [scs_length]) hc scs_one (by unfold maxLen; omega) (by omega) hb
    rw [← scs_append, ← List.length_append] at hown
    exact ⟨v', W, hr, hown, hg, (Below.refl base w).grown hg hb fun k hk => (h.lt k hk).1⟩
/-- A slice of it. -/
theorem sliceS_l (a : Option Addr) (n c t : Nat) (ht : t ≤ n) (hc : n ≤ c) (w' : World) :
    Sem.run Tryz.prog (Instr.slice 103 (.slice a n c) (some (.int .i64 (t : Int))) none none) w' = .ok (.slice (if c = t then a else a.map (·.add (t * 1))) (n - t) (c - t)) w' := by
  rw [run_slice_l w' 103 a n c Tryz.underlying103 .i64 (t : Int) (by omega) (by omega)]
  have e : (sizeOf (Tryz.prog.elem 103)).run Tryz.prog w' = .ok 1 w' := by kernel_rfl
  rw [e]
  show Result.ok (sliced a _ _ c 1) w' = _
  unfold sliced
  rw [show ((t : Int)).toNat = t by omega]
theorem sliceS_h (a : Option Addr) (n c m : Nat) (hm : m ≤ n) (hc : n ≤ c) (w' : World) :
    Sem.run Tryz.prog (Instr.slice 103 (.slice a n c) none (some (.int .i64 (m : Int))) none) w' = .ok (.slice (if c = 0 then a else a.map (·.add (0 * 1))) m c) w' := by
  rw [run_slice_h w' 103 a n c Tryz.underlying103 .i64 (m : Int) (by omega) (by omega)]
  have e : (sizeOf (Tryz.prog.elem 103)).run Tryz.prog w' = .ok 1 w' := by kernel_rfl
  rw [e]
  show Result.ok (sliced a _ _ c 1) w' = _
  unfold sliced
  rw [show ((m : Int)).toNat = m by omega, Nat.sub_zero, Nat.sub_zero]
/-- The slices of a row, as letters: the first m, those from t on. -/
theorem Ss.first {w : World} {a : Option Addr} {c m : Nat} {L : List Sv} (h : Ss w a L) (z : a = none → L.length = 0 ∧ c = 0) (hm : m ≤ L.length) (hc : L.length ≤ c) :
    ∃ A, (∀ w', Sem.run Tryz.prog (Instr.slice 103 (.slice a L.length c) none (some (.int .i64 (m : Int))) none) w' = .ok (.slice A m c) w') ∧ Ss w A (L.take m) ∧ (A = none → m = 0 ∧ c = 0) := by
  refine ⟨_, fun w' => sliceS_h a L.length c m hm hc w', fun h0 => ?_, fun e => ?_⟩
  · rw [List.length_take, Nat.min_eq_left hm] at h0
    obtain ⟨b, o, rfl, hv⟩ := h (by omega)
    refine ⟨b, o, ?_, fun i hi => ?_⟩
    · rw [if_neg (by omega)]; simp [add_plain]
    · rw [List.length_take, Nat.min_eq_left hm] at hi
      have := hv i (by omega)
      rw [getElem!_pos _ i (by rw [List.length_take]; omega), List.getElem_take, ← getElem!_pos L i (by omega)]
      exact this
  · by_cases q : c = 0
    · rw [if_pos q] at e; have := z e; omega
    · rw [if_neg q] at e
      cases a with
      | none => have := z rfl; omega
      | some x => cases e
theorem Ss.rest {w : World} {a : Option Addr} {c t : Nat} {L : List Sv} (h : Ss w a L) (z : a = none → L.length = 0 ∧ c = 0) (ht : t ≤ L.length) (hc : L.length ≤ c) :
    ∃ A, (∀ w', Sem.run Tryz.prog (Instr.slice 103 (.slice a L.length c) (some (.int .i64 (t : Int))) none none) w' = .ok (.slice A (L.length - t) (c - t)) w') ∧ Ss w A (L.drop t) ∧ (A = none → L.length - t = 0 ∧ c - t = 0) := by
  refine ⟨_, fun w' => sliceS_l a L.length c t ht hc w', fun h0 => ?_, fun e => ?_⟩
  · rw [List.length_drop] at h0
    obtain ⟨b, o, rfl, hv⟩ := h (by omega)
    refine ⟨b, o + t * 1, ?_, fun i hi => ?_⟩
    · rw [if_neg (by omega)]; simp [add_plain]
    · rw [List.length_drop] at hi
      have := hv (t + i) (by omega)
      rw [getElem!_pos _ i (by rw [List.length_drop]; omega), List.getElem_drop, ← getElem!_pos L (t + i) (by omega), show o + t * 1 + i * 1 = o + (t + i) * 1 by rw [Nat.add_mul]; omega]
      exact this
  · by_cases q : c = t
    · omega
    · rw [if_neg q] at e
      cases a with
      | none => have := z rfl; omega
      | some x => cases e
theorem litS (w : World) (e : Sv) : Ss (w.alloc (.cells #[.string e.s] 9)) (some ⟨w.heap.size, 0, none⟩) [e] := fun _ => ⟨_, 0, rfl, fun i hi => by
  have : i = 0 := by simp at hi; omega
  subst this
  exact ⟨by rw [World.cell?_alloc_new]; rfl⟩⟩
end Go.Proofs.YtebngmgdciahiaaGreatDoor

namespace Go.Proofs.YtebngmgdciahiaaGreatDoor
open Go.RowKit Dk Nm
attribute [local go_sem ↓] Go.wp_at_zero Go.wp_at_succ
set_option linter.unusedVariables false

/-- The paths that begin with x. -/
def lst (x : ByteArray) (l : List Fl) : List ByteArray := (l.filter fun f => pre (tx f.path) (tx x)).map fun f => f.path
theorem lst_take {x : ByteArray} {L : List Fv} {j : Nat} (hj : j < L.length) : lst x ((L.take (j + 1)).map fl) = lst x ((L.take j).map fl) ++ (if pre (tx L[j]!.path) (tx x) = true then [L[j]!.path] else []) := by
  unfold lst
  rw [← List.take_append_getElem hj, List.map_append, List.filter_append, List.map_append, getElem!_pos L j hj]
  congr 1
  show List.map _ (List.filter _ [fl L[j]]) = _
  rw [List.filter_cons]
  show List.map _ (if pre (tx L[j].path) (tx x) = true then _ else _) = _
  split <;> rfl
theorem sown_grown {w W : World} {base p : Nat} {v : Value} {M : List Sv} {cs : Array Value} {ty : TypeId} (o : SOwn w base v M) (g : w.grownBy W v.ownBlock) (ht : ty ≠ 9) (h : w.heap[p]? = some (.cells cs ty (0, 0))) : W.heap[p]? = some (.cells cs ty (0, 0)) :=
  (g.block p (Array.getElem?_eq_some_iff.1 h).1 (fun e => by
    rcases o.2 with ⟨rfl, _⟩ | ⟨q, cap, cur, rfl, _, hg, _⟩
    · simp [Value.ownBlock] at e
    · simp [Value.ownBlock] at e
      subst e
      rw [h] at hg
      injection hg with hg
      injection hg with _ hg _
      exact ht hg)).trans h
/-- What List answers. -/
def lisZ (z : Option Fz) (s : St) (x : ByteArray) : List ByteArray × Int := if (askZ z s []).1 ≠ 0 then ([], (askZ z s []).1) else (lst x s.fs, 0)
def ListEnd (p : Nat) (a : Option Addr) (c : Nat) (L : List Fv) (q : Option Nat) (Y : List ByteArray × Int) (s1 : St) (z1 : Option Fz) (w : World) (e : Ending) (w' : World) : Prop :=
  ∃ v M, e = .returned (.tuple #[v, .int .i64 Y.2]) ∧ SOwn w' w.heap.size v M ∧ (M.map fun y => y.s) = Y.1 ∧ DX w' p a c L q s1 ∧ Zs w' q z1 ∧ Upd (Mk p q) w w'

set_option maxRecDepth 100000 in
set_option maxHeartbeats 4000000 in
theorem list_any (p : Nat) (a : Option Addr) (c : Nat) (L : List Fv) (q : Option Nat) (s : St) (z : Option Fz) (x : ByteArray) (w : World) (h : DX w p a c L q s) (hz : Zs w q z) (hb : Zb z) (hx : x.size ≤ maxLen) :
    Calls Tryz.prog 67 #[.pointer (some ⟨p, 0, none⟩), .string x] w (ListEnd p a c L q (lisZ z s x) (askZ z s []).2.2 (askZ z s []).2.1 w) := by
  have cA := ask_any p a c L q s z none 0 [] w h hz hb (fun h0 => absurd h0 (by decide)) (by decide)
  have hfs := askZ_fs z s []
  have hdl : lisZ z s x = lisZ z s x := rfl
  conv at hdl => rhs; unfold lisZ
  obtain ⟨e0, he0⟩ : ∃ e0, (askZ z s []).1 = e0 := ⟨_, rfl⟩
  obtain ⟨s1, hs1⟩ : ∃ s1, (askZ z s []).2.2 = s1 := ⟨_, rfl⟩
  obtain ⟨z1, hz1⟩ : ∃ z1, (askZ z s []).2.1 = z1 := ⟨_, rfl⟩
  rw [he0] at hdl
  rw [hs1] at hfs
  rw [hs1, hz1]
  obtain ⟨Y, hY⟩ : ∃ y, lisZ z s x = y := ⟨_, rfl⟩
  rw [hY] at hdl ⊢
  have HY : Hid (Y = if e0 ≠ 0 then ([], e0) else (lst x s.fs, 0)) := hdl
  have cA1 : Calls Tryz.prog 56 #[.pointer (some ⟨p, 0, none⟩), .slice none 0 0] w fun e w' => e = .returned (.int .i64 e0) ∧ DX w' p a c L q s1 ∧ Zs w' q z1 ∧ Upd (Mk p q) w w' := by
    refine cA.mono ?_
    rintro e w' ⟨h1, h2, h3, h4⟩
    rw [he0] at h1
    rw [hs1] at h2
    rw [hz1] at h3
    exact ⟨h1, h2, h3, h4⟩
  have HF : Hid (s1.fs = s.fs) := hfs
  have HT : Hid (∀ e w', (∃ v M, e = .returned (.tuple #[v, .int .i64 Y.2]) ∧ SOwn w' w.heap.size v M ∧ (M.map fun y => y.s) = Y.1 ∧ DX w' p a c L q s1 ∧ Zs w' q z1 ∧ Upd (Mk p q) w w') → ListEnd p a c L q Y s1 z1 w e w') := fun e w' h1 => h1
  generalize hPP : ListEnd p a c L q Y s1 z1 w = PP at *
  clear hPP h hz hb cA he0 hfs hs1 hz1 hdl hY
  go_enter Tryz.func67, Tryz.ntmps67
  go_wp2_with fail
  go_at_call 56
  refine cA1.mono ?_
  rintro e w1 ⟨rfl, h1, hz1, u1⟩
  clear cA1
  have HZ1 : Hid (Zs w1 q z1) := hz1
  have HU1 : Hid (Upd (Mk p q) w w1) := u1
  have HD1 : Hid (DX w1 p a c L q s1) := h1
  have hn := h1.n
  clear hz1 u1 h1
  by_cases g0 : e0 = 0
  · subst g0
    have HE : Hid (Y = (lst x (L.map fl), 0)) := by unfold Hid; rw [HY.out, if_neg (fun k => k rfl), ← HF.out, HD1.out.f]
    have c0 := HD1.out.c0
    go_wp2_with fail
    go_loopw [7, 8] (fun u i wr => ∃ (j : Nat) (M : List Sv), j ≤ L.length ∧ i = .int .i64 j ∧ SOwn wr w1.heap.size u M ∧ (M.map fun y => y.s) = lst x ((L.take j).map fl) ∧ M.length ≤ j ∧ Below w1.heap.size w1 wr) (fun _ i _ => L.length - (intOf i).toNat)
    case atStart => exact ⟨0, [], by omega, rfl, SOwn.start _ _, rfl, Nat.le_refl _, Below.refl _ _⟩
    case round =>
      obtain ⟨j, M, hj, rfl, hS, hM, hMl, hB⟩ := hrel
      have hD := HD1.out.keep hB
      clear c0
      have c0 := hD.c0
      by_cases hlt : j < L.length
      · have ij : (j : Int) < (L.length : Int) := by omega
        obtain ⟨hf, _, hlc, _⟩ := hD.rows
        obtain ⟨b, o, rfl, hA⟩ := hf (by omega)
        have t0 := (hA j hlt).c0
        have hs := hD.path hlt
        have ht := lst_take (x := x) hlt
        obtain ⟨y, hy⟩ : ∃ y, L[j]!.path = y := ⟨_, rfl⟩
        rw [hy] at t0 hs ht
        have cP := fun w => rprefix_any y x w (by unfold maxLen; omega) hx
        have HM : Hid ((M.map fun y => y.s) = lst x ((L.take j).map fl)) := hM
        have HB : Hid (Below w1.heap.size w1 wr) := hB
        cases hp : pre (tx y) (tx x) with
        | false =>
          rw [hp] at cP ht
          have HTK : Hid (lst x ((L.take (j + 1)).map fl) = lst x ((L.take j).map fl)) := by unfold Hid; rw [ht, if_neg (by decide), List.append_nil]
          have HSS : Hid (SOwn wr w1.heap.size u7 M) := hS
          clear hA hf hM hB hS ht hy hp hD hlc
          go_wp2_with fail
          go_at_call 95
          refine (cP _).mono ?_
          rintro e w2 ⟨rfl, rfl⟩
          clear cP
          go_wp2
          go_round
          case rel => exact ⟨j + 1, M, by omega, by go_num, HSS.out, by rw [HTK.out]; exact HM.out, by omega, HB.out⟩
          case measure => simp [intOf]; omega
        | true =>
          rw [hp] at cP ht
          have HTK : Hid (lst x ((L.take (j + 1)).map fl) = lst x ((L.take j).map fl) ++ [y]) := by unfold Hid; rw [ht, if_pos rfl]
          obtain ⟨E, hE⟩ : ∃ E, wr.alloc (.cells #[.string y] 9) = E := ⟨_, rfl⟩
          have bE : Below wr.heap.size wr E := by rw [← hE]; exact (Below.refl _ _).alloc (Nat.le_refl _) _
          have lE : Ss E (some ⟨wr.heap.size, 0, none⟩) [⟨y⟩] := by rw [← hE]; exact litS wr ⟨y⟩
          obtain ⟨v', R, r1, o1, g1, b1⟩ := appendS (c := 1) (hS.keep bE) lE (fun e => by cases e) (by simp; omega) (Nat.le_trans hB.size bE.size)
          have HR : Hid (Sem.run Tryz.prog (Builtin.append_ #[103, 103] 103 #[u7, .slice (some ⟨wr.heap.size, 0, none⟩) 1 1]) E = .ok v' R) := r1
          have HO : Hid (SOwn R w1.heap.size v' (M ++ [⟨y⟩])) := o1
          have HBR : Hid (Below w1.heap.size w1 R) := (hB.trans (bE.mono hB.size)).trans b1
          clear hA hf hM hB hS ht hy hp hD hlc bE lE r1 o1 g1 b1
          go_wp2_with fail
          go_at_call 95
          refine (cP _).mono ?_
          rintro e w2 ⟨rfl, rfl⟩
          clear cP
          go_wp2_with (at_builtin; refine wpList_append_ran (by rfl) _ _ 103 (by rfl) _ _ _ _ (by rfl) (by rfl) HR.out ?_)
          go_round
          case rel => exact ⟨j + 1, M ++ [⟨y⟩], by omega, by go_num, HO.out, by rw [HTK.out, List.map_append, HM.out]; rfl, by simp; omega, HBR.out⟩
          case measure => simp [intOf]; omega
      · have hjn : j = L.length := by omega
        subst hjn
        have ij : decide ((L.length : Int) < (L.length : Int)) = false := by simp
        rw [List.take_length] at hM
        have HN : Hid (∃ v M, Ending.returned (.tuple #[u7, .int .i64 0]) = .returned (.tuple #[v, .int .i64 Y.2]) ∧ SOwn wr w.heap.size v M ∧ (M.map fun y => y.s) = Y.1 ∧ DX wr p a c L q s1 ∧ Zs wr q z1 ∧ Upd (Mk p q) w wr) := by
          refine ⟨u7, M, by rw [HE.out], hS.mono HU1.out.size, by rw [HE.out]; exact hM, hD, HZ1.out.keep hB, HU1.out.after hB⟩
        clear hM hS hD hlt hB
        go_wp2
        exact HT.out _ _ HN.out
  · have g1 : (e0 == 0) = false := by simpa using g0
    have HE : Hid (Y = ([], e0)) := by unfold Hid; rw [HY.out, if_pos g0]
    go_wp2
    exact HT.out _ _ ⟨_, [], by rw [HE.out] <;> rfl, SOwn.start _ _, by rw [HE.out]; rfl, HD1.out, HZ1.out, HU1.out⟩
end Go.Proofs.YtebngmgdciahiaaGreatDoor
