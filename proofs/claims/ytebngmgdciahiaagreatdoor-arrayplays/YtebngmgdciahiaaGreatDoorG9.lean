/-
  Texts of earlier stages, one behind the other: SdH, SdI, SdJ.
-/
import Derived.Test.YtebngmgdciahiaaGreatDoorG7
import Derived.Test.YtebngmgdciahiaaGreatDoorG5
import Derived.Laws.BitsAllLaws
set_option maxRecDepth 100000
namespace Go.Proofs.YtebngmgdciahiaaGreatDoor
open Go.RowKit
open _root_.Go.Proofs.YtebngmgdciahiaaGreatDoor.Nm _root_.Go.Proofs.YtebngmgdciahiaaGreatDoor.Dk
attribute [local go_sem ↓] Go.wp_at_zero Go.wp_at_succ
set_option linter.unusedVariables false

theorem FOwn.setB {w : World} {base g c j : Nat} {L : List Fv} (h : FOwn w base (.slice (some ⟨g, 0, none⟩) L.length c) L) (hj : j < L.length) (nb : Option Addr × Nat × Nat) (b' : ByteArray) :
    FOwn (w.setCell ⟨g, j * 3 + 1, none⟩ (.slice nb.1 nb.2.1 nb.2.2)) base (.slice (some ⟨g, 0, none⟩) L.length c) (L.set j { L[j]! with bv := nb, b := b' }) := by
  rcases h with ⟨hl, ⟨e, _⟩ | ⟨g', cap, cur, e, hg, hh, hnc, hm, hs, ht⟩⟩
  · cases e
  · injection e with e1 e2 e3
    injection e1 with e1
    injection e1 with e1
    subst e1; subst e3
    refine ⟨fcs_length _, .inr ⟨g, c, _, by rw [List.length_set], hg, heap_setCell_same w g (j * 3 + 1) _ _ (.slice nb.1 nb.2.1 nb.2.2) hh, by rw [List.length_set]; exact hnc, hm, by rw [Array.size_setIfInBounds]; exact hs, ?_⟩⟩
    have hcl : cur.toList.length = c * 3 := by rw [Array.length_toList]; exact hs
    refine fcs_ext ?_ fun i hi r hr => ?_
    · rw [List.length_take, Array.toList_setIfInBounds, List.length_set, List.length_set, hcl]; omega
    · rw [List.length_set] at hi
      rw [List.getElem?_take, List.length_set, if_pos (by omega), Array.toList_setIfInBounds, List.getElem?_set]
      have hcur : cur.toList[i * 3 + r]? = (cellsF L[i]!)[r]? := by
        rw [← fcs_at L i hi r hr, ← ht, List.getElem?_take, if_pos (by omega)]
      by_cases ei : i = j
      · subst ei
        have e2 : (L.set i { L[i]! with bv := nb, b := b' })[i]! = { L[i]! with bv := nb, b := b' } := by
          rw [getElem!_pos _ i (by rw [List.length_set]; exact hi), List.getElem_set_self]
        rw [e2]
        match r, hr with
        | 0, _ => rw [if_neg (by omega), hcur]; rfl
        | 1, _ => rw [if_pos rfl, if_pos (by omega)]; rfl
        | 2, _ => rw [if_neg (by omega), hcur]; rfl
      · have e2 : (L.set j { L[j]! with bv := nb, b := b' })[i]! = L[i]! := by
          rw [getElem!_pos _ i (by rw [List.length_set]; exact hi), List.getElem_set_ne (fun q => ei q.symm), getElem!_pos L i hi]
        rw [e2, if_neg (by omega), hcur]
/-- A file's bytes are laid anew. -/
theorem DX.setB {w : World} {p g : Nat} {c j : Nat} {L : List Fv} {q : Option Nat} {s : St} (h : DX w p (some ⟨g, 0, none⟩) c L q s) (hj : j < L.length) (hpg : p ≠ g) (nb : Option Addr × Nat × Nat) (b' : ByteArray) (hb : BO w { L[j]! with bv := nb, b := b' }) (hs : b'.size ≤ 262144) :
    DX (w.setCell ⟨g, j * 3 + 1, none⟩ (.slice nb.1 nb.2.1 nb.2.2)) p (some ⟨g, 0, none⟩) c (L.set j { L[j]! with bv := nb, b := b' }) q { s with fs := s.fs.set j (fl { L[j]! with bv := nb, b := b' }) } := by
  obtain ⟨g', cur, e, hh⟩ := h.block (by omega)
  injection e with e
  injection e with e
  subst e
  have u : Upd (fun k => k = g) w (w.setCell ⟨g, j * 3 + 1, none⟩ (.slice nb.1 nb.2.1 nb.2.2)) := Upd.put (M := fun k => k = g) (Upd.refl _ w) (p := ⟨g, j * 3 + 1, none⟩) (.inl rfl) _
  have hB : ∀ x, BO w x → BO (w.setCell ⟨g, j * 3 + 1, none⟩ (.slice nb.1 nb.2.1 nb.2.2)) x := fun x hx => hx.upd u fun g2 cur2 e2 k => by
    subst k
    rw [hh] at e2
    injection e2 with e2
    injection e2 with _ e2 _
    exact absurd e2 (by decide)
  have hf : s.fs.set j (fl { L[j]! with bv := nb, b := b' }) = (L.set j { L[j]! with bv := nb, b := b' }).map fl := by rw [h.f, List.map_set]
  have hp := h.path hj
  refine ⟨?_, ?_, fun x hx => ?_, hf, ?_⟩
  · rw [heap_setCell_other _ _ _ _ hpg, List.length_set]; exact h.o
  · have := h.l.setB hj nb b'
    rw [List.length_set]; exact this
  · rcases List.mem_or_eq_of_mem_set hx with k | k
    · exact hB x (h.b x k)
    · subst k; exact hB _ hb
  · refine ⟨by show (s.fs.set j _).length ≤ _; rw [List.length_set]; exact h.wf.n, fun f hm => ?_, fun f hm => ?_, h.wf.m0, h.wf.m1, h.wf.b0, h.wf.b1⟩
    · rcases List.mem_or_eq_of_mem_set hm with k | k
      · exact h.wf.b f k
      · subst k; exact hs
    · rcases List.mem_or_eq_of_mem_set hm with k | k
      · exact h.wf.p f k
      · subst k; exact hp
/-- The round's relation. -/
structure DcW (p : Nat) (a : Option Addr) (c : Nat) (L : List Fv) (q : Option Nat) (s : St) (K : Nat) (w : World) (j : Nat) (C : List Fv) (wr : World) : Prop where
  dx : DX wr p a c C q { s with fs := C.map fl }
  l : C.length = L.length
  e : C.map fl = ((L.take j).map fl).map (crF K) ++ (L.drop j).map fl
  u : Upd (fun k => ∃ o, a = some ⟨k, o, none⟩) w wr
  g : Gw w L C
theorem DcW.at {p : Nat} {a : Option Addr} {c : Nat} {L : List Fv} {q : Option Nat} {s : St} {K : Nat} {w : World} {j : Nat} {C : List Fv} {wr : World} (h : DcW p a c L q s K w j C wr) (hj : j < L.length) : fl C[j]! = fl L[j] := by
  have h9 := congrArg (fun l => l[j]?) h.e
  have hl : j < C.length := by rw [h.l]; exact hj
  simp only [List.getElem?_map] at h9
  rw [List.getElem?_append_right (by simp; omega), List.getElem?_eq_getElem hl] at h9
  simp only [List.length_map, List.length_take, List.getElem?_map, List.getElem?_drop] at h9
  rw [Nat.min_eq_left (by omega), Nat.sub_self, Nat.add_zero, List.getElem?_eq_getElem hj] at h9
  rw [getElem!_pos C j hl]
  simpa using h9
/-- A file that is synced stays. -/
theorem DcW.sure {p : Nat} {a : Option Addr} {c : Nat} {L : List Fv} {q : Option Nat} {s : St} {K : Nat} {w : World} {j : Nat} {C : List Fv} {wr : World} (h : DcW p a c L q s K w j C wr) (hj : j < L.length) (hs : L[j].sure = true) : DcW p a c L q s K w (j + 1) C wr := by
  refine ⟨h.dx, h.l, ?_, h.u, h.g⟩
  rw [h.e, ← List.take_append_getElem hj, List.map_append, List.map_append, List.append_assoc, List.drop_eq_getElem_cons hj]
  congr 1
  show fl L[j] :: _ = crF K (fl L[j]) :: _
  congr 1
  unfold crF
  rw [if_pos (show (fl L[j]).sure = true from hs)]
/-- One that is not loses its end. -/
theorem DcW.cut {p g : Nat} {c : Nat} {L : List Fv} {q : Option Nat} {s : St} {K : Nat} {w : World} {j : Nat} {C : List Fv} {wr W : World} (h : DcW p (some ⟨g, 0, none⟩) c L q s K w j C wr) (hj : j < L.length) (hs : L[j].sure = false) (hpg : p ≠ g) (nb : Option Addr × Nat × Nat) (b' : ByteArray) (hb : BO W { C[j]! with bv := nb, b := b' }) (hbe : b' = L[j].b.extract 0 (K % (L[j].b.size + 1))) (hW : Below wr.heap.size wr W) (hn : ∀ ad : Addr, nb.1 = some ad → wr.heap.size ≤ ad.block) :
    DcW p (some ⟨g, 0, none⟩) c L q s K w (j + 1) ((C.set j { C[j]! with bv := nb, b := b' }).set j { (C.set j { C[j]! with bv := nb, b := b' })[j]! with sure := true }) ((W.setCell ⟨g, j * 3 + 1, none⟩ (.slice nb.1 nb.2.1 nb.2.2)).setCell ⟨g, j * 3 + 2, none⟩ (.bool true)) := by
  have hl : j < C.length := by rw [h.l]; exact hj
  have hat := h.at hj
  have hsz : b'.size ≤ 262144 := by
    have h1 := (h.dx.data hl).1
    have h2 : C[j]!.b = L[j].b := congrArg Fl.b hat
    rw [h2] at h1
    subst hbe
    have := Nat.mod_lt K (show 0 < L[j].b.size + 1 by omega)
    rw [ext_size _ (by omega)]
    omega
  have d1 := (h.dx.keep hW).setB hl hpg nb b' hb hsz
  have hl1 : j < (C.set j { C[j]! with bv := nb, b := b' }).length := by rw [List.length_set]; exact hl
  have d2 := d1.sure hl1 hpg
  have hm : ((C.set j { C[j]! with bv := nb, b := b' }).set j { (C.set j { C[j]! with bv := nb, b := b' })[j]! with sure := true }).map fl = (C.map fl).set j (crF K (fl L[j])) := by
    rw [getElem!_pos (C.set j { C[j]! with bv := nb, b := b' }) j hl1, List.getElem_set_self, List.set_set, List.map_set]
    congr 1
    unfold crF
    rw [if_neg (by show ¬ L[j].sure = true; rw [hs]; decide)]
    have h3 : C[j]!.path = L[j].path := congrArg Fl.path hat
    show (⟨C[j]!.path, b', true⟩ : Fl) = ⟨L[j].path, L[j].b.extract 0 (K % (L[j].b.size + 1)), true⟩
    rw [h3, hbe]
  refine ⟨?_, by rw [List.length_set, List.length_set]; exact h.l, ?_, ?_, ?_⟩
  · have e : ∀ {s1 s2 : St}, s1.fs = s2.fs → s1.most = s2.most → s1.off = s2.off → s1.bad = s2.bad → s1 = s2 := fun {s1 s2} e1 e2 e3 e4 => by
      cases s1; cases s2; simp at *; exact ⟨e1, e2, e3, e4⟩
    have := d2.f
    rw [show ({ s with fs := ((C.set j { C[j]! with bv := nb, b := b' }).set j { (C.set j { C[j]! with bv := nb, b := b' })[j]! with sure := true }).map fl } : St) = _ from e (s2 := { s with fs := setSure ((C.map fl).set j (fl { C[j]! with bv := nb, b := b' })) j }) this.symm rfl rfl rfl]
    exact d2
  · rw [hm, h.e, List.set_append_right _ _ (by simp; omega)]
    have hlen : (((L.take j).map fl).map (crF K)).length = j := by simp; omega
    rw [hlen, Nat.sub_self, List.drop_eq_getElem_cons hj, ← List.take_append_getElem hj, List.map_append, List.map_append, List.append_assoc]
    rfl
  · exact ((h.u.after hW).put (p := ⟨g, j * 3 + 1, none⟩) (.inl ⟨0, rfl⟩) _).put (p := ⟨g, j * 3 + 2, none⟩) (.inl ⟨0, rfl⟩) _
  · intro u hu k ad e
    rcases List.mem_or_eq_of_mem_set hu with t | t
    · rcases List.mem_or_eq_of_mem_set t with t | t
      · exact h.g u t k ad e
      · subst t; exact .inl (Nat.le_trans h.u.size (hn ad e))
    · rw [getElem!_pos (C.set j { C[j]! with bv := nb, b := b' }) j hl1, List.getElem_set_self] at t
      subst t; exact .inl (Nat.le_trans h.u.size (hn ad e))
theorem DcW.end {p : Nat} {a : Option Addr} {c : Nat} {L : List Fv} {q : Option Nat} {s : St} {K : Nat} {w : World} {C : List Fv} {wr : World} (h : DcW p a c L q s K w L.length C wr) : C.map fl = (L.map fl).map (crF K) := by
  rw [h.e, List.take_length, List.drop_length]; simp
theorem own_open {w : World} {base n c : Nat} {a : Option Addr} {f : Nat → Nat} (h : Own w base (.slice a n c) n f) (hf : ∀ i, f i < 256) : Row w a n f ∧ n ≤ c ∧ (a = none → n = 0 ∧ c = 0) := by
  rcases h.2 with ⟨e1, e2⟩ | ⟨g, cap, cur, e1, _, _, hnc, _⟩
  · have e2 : n = 0 := e2
    subst e2
    injection e1 with e1 _ e3
    exact ⟨Row.zero _ _ hf, Nat.zero_le _, fun _ => ⟨rfl, e3⟩⟩
  · injection e1 with e1 _ e3
    subst e1; subst e3
    refine ⟨?_, hnc, fun e => by cases e⟩
    by_cases k : 1 ≤ n
    · obtain ⟨a', c', e, hr⟩ := h.row k hf
      injection e with e1 _ e3
      rw [e1]
      exact hr.2.2.2
    · have : n = 0 := by omega
      subst this
      exact Row.zero _ _ hf
theorem cut_h2 {a : Option Addr} {n c : Nat} {f : Nat → Nat} {w : World} (h : Row w a n f) (m : Nat) (hm : m ≤ n) (hc : n ≤ c) :
    ∃ A, (∀ w', Sem.run Tryz.prog (Instr.slice 27 (.slice a n c) none (some (.int .i64 (m : Int))) none) w' = .ok (.slice A m c) w') ∧ Row w A m f ∧ (A = none → a = none) := by
  refine ⟨if c = 0 then a else a.map (·.add (0 * 1)), ?_, ?_, ?_⟩
  · intro w'
    rw [run_slice_h w' 27 a n c Tryz.underlying27 .i64 (m : Int) (by omega) (by omega)]
    have e : (sizeOf (Tryz.prog.elem 27)).run Tryz.prog w' = .ok 1 w' := by kernel_rfl
    rw [e]
    show Result.ok (sliced a _ _ c 1) w' = _
    unfold sliced
    rw [show ((m : Int)).toNat = m by omega, Nat.sub_zero, Nat.sub_zero]
  · rcases cut_row (c := c) h 0 m (by omega) with r | e
    · simpa using r
    · rw [if_pos e, show m = 0 by omega]
      exact Row.zero _ _ h.lt
  · intro e
    split at e
    · exact e
    · cases a with
      | none => rfl
      | some _ => cases e
set_option maxHeartbeats 8000000 in
theorem dcrash_any (p : Nat) (a : Option Addr) (c : Nat) (L : List Fv) (q : Option Nat) (s : St) (z : Option Fz) (k : Int) (w : World) (h : DX w p a c L q s) (hz : Zs w q z) (hk0 : -9223372036854775808 ≤ k) (hk1 : k ≤ 9223372036854775807) :
    Calls Tryz.prog 74 #[.pointer (some ⟨p, 0, none⟩), .int .i64 k] w fun e w' => e = .returned (.tuple #[]) ∧ ∃ a' c' L', DX w' p a' c' L' q { s with fs := crashS k s.fs } ∧ Zs w' q z ∧ Upd (Mg p q a) w w' ∧ (a' = a ∨ ∀ x, a' = some x → w.heap.size ≤ x.block) ∧ Gw w L L' := by
  obtain ⟨K, hK⟩ : ∃ K : Nat, (max k 0).toNat = K := ⟨_, rfl⟩
  have hKK : (if 0 < k then k else 0) = (K : Int) := by split <;> omega
  have hKM : max k 0 = (K : Int) := by omega
  have hKL : K ≤ 9223372036854775807 := by omega
  have HTG : Hid (∀ g cur, w.heap[g]? = some (.cells cur 130 (0, 0)) → ∀ k, q = some k → ¬ k = g) := fun g cur hg k hk e => by
    subst hk; subst e
    obtain ⟨cs, hz⟩ := hz.type
    rw [hg] at hz
    injection hz with hz
    injection hz with _ hz _
    exact absurd hz (by decide)
  have HT : Hid (∀ C wr, DcW p a c L q s K w L.length C wr → ∃ a' c' L', DX wr p a' c' L' q { s with fs := crashS k s.fs } ∧ Zs wr q z ∧ Upd (Mg p q a) w wr ∧ (a' = a ∨ ∀ x, a' = some x → w.heap.size ≤ x.block) ∧ Gw w L L') := fun C wr t => by
    refine ⟨a, c, C, ?_, hz.beside t.u (fun k hk e => ?_), t.u.mono fun k _ e => .inr (.inr e), .inl rfl, t.g⟩
    · have := t.dx
      rw [t.end] at this
      unfold crashS
      rw [hK, h.f]
      exact this
    · obtain ⟨o, e⟩ := e
      subst e
      rcases h.l with ⟨_, ⟨e1, _⟩ | ⟨g', cap, cur, e1, _, hh, _⟩⟩
      · cases e1
      · injection e1 with e1 _ _
        injection e1 with e1
        injection e1 with e1
        exact HTG.out g' cur hh k hk e1
  generalize hPP : (fun wr => ∃ a' c' L', DX wr p a' c' L' q { s with fs := crashS k s.fs } ∧ Zs wr q z ∧ Upd (Mg p q a) w wr ∧ (a' = a ∨ ∀ x, a' = some x → w.heap.size ≤ x.block) ∧ Gw w L L') = PP at *
  have HT : Hid (∀ C wr, DcW p a c L q s K w L.length C wr → PP wr) := fun C wr t => by rw [← hPP]; exact HT.out C wr t
  have hgoal : (fun (e : Ending) (w' : World) => e = .returned (.tuple #[]) ∧ ∃ a' c' L', DX w' p a' c' L' q { s with fs := crashS k s.fs } ∧ Zs w' q z ∧ Upd (Mg p q a) w w' ∧ (a' = a ∨ ∀ x, a' = some x → w.heap.size ≤ x.block) ∧ Gw w L L') = fun e w' => e = .returned (.tuple #[]) ∧ PP w' := by rw [← hPP]
  rw [hgoal]
  have H0 : Hid (DcW p a c L q s K w 0 L w) := by
    refine ⟨?_, rfl, by simp, Upd.refl _ _, Gw.refl _ _⟩
    rw [← h.f]; exact h
  have hln := h.n
  clear h hz hK hPP hgoal
  go_enter Tryz.func74, Tryz.ntmps74
  go_wp2_with fail
  go_loopw [4] (fun i wr => ∃ (j : Nat) (C : List Fv), j ≤ L.length ∧ i = .int .i64 j ∧ DcW p a c L q s K w j C wr) (fun i _ => L.length - (intOf i).toNat)
  case atStart => exact ⟨0, L, by omega, rfl, H0.out⟩
  case round =>
    obtain ⟨j, C, hj, rfl, hW⟩ := hrel
    have HW : Hid (DcW p a c L q s K w j C wr) := hW
    have c0 := hW.dx.c0
    rw [hW.l] at c0
    by_cases hlt : j < L.length
    · have ij : (j : Int) < (L.length : Int) := by omega
      have hcl : j < C.length := by rw [hW.l]; exact hlt
      obtain ⟨g, cur, rfl, hg⟩ := hW.dx.block (by omega)
      have hpg : p ≠ g := fun e => by
        subst e
        have := hW.dx.o
        rw [hg] at this
        injection this with this
        injection this with _ this _
        exact absurd this (by decide)
      have HPG : Hid (p ≠ g) := hpg
      obtain ⟨hf, _, hlc, _⟩ := hW.dx.rows
      obtain ⟨b', o', eo, hA⟩ := hf (by omega)
      cases eo
      have k1 := (hA j hcl).c1
      have k2 := (hA j hcl).c2
      have hat := hW.at hlt
      have hdt := hW.dx.data hcl
      have fg : ∀ i, wr.frozen? ⟨g, i, none⟩ = false := fun i => frozen_of_row wr g i _ _ hg
      rw [Nat.zero_add] at k1 k2
      have hs1 : C[j]!.sure = L[j].sure := congrArg Fl.sure hat
      have hb1 : C[j]!.b = L[j].b := congrArg Fl.b hat
      have HHG : Hid (∃ cur, wr.heap[g]? = some (.cells cur 130 (0, 0))) := ⟨_, hg⟩
      cases hsu : L[j].sure with
      | true =>
        rw [hs1, hsu] at k2
        have HN : Hid (DcW p (some ⟨g, 0, none⟩) c L q s K w (j + 1) C wr) := hW.sure hlt hsu
        clear hW hg hpg hf hA hlc hat hdt hs1 hb1 hsu hcl k1 fg
        go_wp2
        go_round
        case rel => exact ⟨j + 1, C, by omega, by go_num, HN.out⟩
        case measure => simp [intOf]; omega
      | false =>
        rw [hs1, hsu] at k2
        obtain ⟨y0, hy0⟩ : ∃ y0, C[j]! = y0 := ⟨_, rfl⟩
        rw [hy0] at k1 hdt hb1
        have HY0 : Hid (C[j]! = y0) := hy0
        obtain ⟨yp, ⟨ya, yn, yc⟩, ys, yb⟩ := y0
        dsimp only at k1 hdt hb1
        obtain ⟨hyb, hyn, f, hf8, hown, hstr⟩ := hdt
        dsimp only at hyn hown hstr hyb
        have hyn' : yb.size = yn := hyn.symm
        rw [hyn'] at hyb hown hstr
        obtain ⟨l, hl⟩ : ∃ l, K % (yn + 1) = l := ⟨_, rfl⟩
        have hlt2 : l ≤ yn := by have := Nat.mod_lt K (show 0 < yn + 1 by omega); omega
        have wn : IntKind.i64.wrap ((yn : Int) + 1) = (yn : Int) + 1 := by rw [IntKind.wrap_i64]; omega
        have tm : (K : Int).tmod ((yn : Int) + 1) = (l : Int) := by
          rw [← hl]
          show (K : Int).tmod (((yn + 1 : Nat) : Int)) = _
          rw [Int.ofNat_tmod]
        obtain ⟨hrow, hync, hyz⟩ := own_open hown hf8
        obtain ⟨A, sA0, rA, zA⟩ := cut_h2 hrow l hlt2 hync
        obtain ⟨v9, W9, r1, r2, r3⟩ := appendA (c := yc) (Own.start wr.drew wr.heap.size (fun _ => 0)) (rA.keep (Below.refl _ _).drew) (fun e => by have := hyz (zA e); exact ⟨by omega, this.2⟩) (by omega) (Nat.le_refl _)
        rw [Nat.zero_add] at r2
        obtain ⟨a9, c9, ev⟩ : ∃ a9 c9, v9 = .slice a9 l c9 := by
          rcases r2.2 with ⟨e1, e2⟩ | ⟨g, cap, cur, e1, _⟩
          · exact ⟨none, 0, by rw [e1, show l = 0 from e2]⟩
          · exact ⟨_, _, e1⟩
        subst ev
        have hnew : ∀ ad : Addr, a9 = some ad → wr.heap.size ≤ ad.block := fun ad e => by
          subst e
          rcases r2.2 with ⟨e1, _⟩ | ⟨g, cap, cur, e1, hg, _⟩
          · injection e1 with e1 _ _
            cases e1
          · injection e1 with e1 _ _
            injection e1 with e1
            subst e1
            exact hg
        have b9 : Below wr.heap.size wr W9 := (Below.refl _ _).drew.trans r3
        have hx : str f l = yb.extract 0 l := by rw [← hstr, str_ext f hlt2]
        have hsz : (yb.extract 0 l).size = l := ext_size _ (by omega)
        have hbo : BO W9 { C[j]! with bv := (a9, l, c9), b := yb.extract 0 l } := by
          refine ⟨hsz.symm, cat 0 (fun _ => 0) f, fun i => ?_, ?_, ?_⟩
          · unfold cat; split; exact (by decide : (0 : Nat) < 256); exact hf8 _
          · show Own W9 0 (.slice a9 l c9) (yb.extract 0 l).size _
            rw [hsz]
            exact own_mono r2 (Nat.zero_le _)
          · show str _ (yb.extract 0 l).size = yb.extract 0 l
            rw [hsz, ← hx]
            exact str_congr fun i _ => by unfold cat; rw [if_neg (by omega), Nat.sub_zero]
        have HN : Hid (DcW p (some ⟨g, 0, none⟩) c L q s K w (j + 1) ((C.set j { C[j]! with bv := (a9, l, c9), b := yb.extract 0 l }).set j { (C.set j { C[j]! with bv := (a9, l, c9), b := yb.extract 0 l })[j]! with sure := true }) ((W9.setCell ⟨g, j * 3 + 1, none⟩ (.slice a9 l c9)).setCell ⟨g, j * 3 + 2, none⟩ (.bool true))) :=
          HW.out.cut hlt hsu HPG.out (a9, l, c9) (yb.extract 0 l) hbo (by rw [← hb1, hyn', hl]) b9 hnew
        have HR : Hid (Sem.run Tryz.prog (Builtin.append_ #[27, 27] 27 #[.slice none 0 0, .slice A l yc]) wr.drew = .ok (.slice a9 l c9) W9) := r1
        have sE : Hid (wr.drew.cell? ⟨p, 0, none⟩ = some (.slice (some ⟨g, 0, none⟩) L.length c) ∧ wr.drew.cell? ⟨g, j * 3 + 1, none⟩ = some (.slice ya yn yc)) := ⟨c0, k1⟩
        have sA : Hid (W9.cell? ⟨p, 0, none⟩ = some (.slice (some ⟨g, 0, none⟩) L.length c) ∧ W9.cell? ⟨g, j * 3 + 1, none⟩ = some (.slice ya yn yc)) := ⟨(b9.cell (p := ⟨p, 0, none⟩) (block_lt_of_cell c0)).trans c0, (b9.cell (p := ⟨g, j * 3 + 1, none⟩) (block_lt_of_cell k1)).trans k1⟩
        have fA : Hid (W9.frozen? ⟨g, j * 3 + 1, none⟩ = false) := frozen_of_row W9 g (j * 3 + 1) _ _ ((b9.block g (Array.getElem?_eq_some_iff.1 hg).1).trans hg)
        have XF : Hid ((W9.setCell ⟨g, j * 3 + 1, none⟩ (.slice a9 l c9)).cell? ⟨p, 0, none⟩ = some (.slice (some ⟨g, 0, none⟩) L.length c) ∧ (W9.setCell ⟨g, j * 3 + 1, none⟩ (.slice a9 l c9)).cell? ⟨g, j * 3 + 2, none⟩ = some (.bool false) ∧ ∀ i, (W9.setCell ⟨g, j * 3 + 1, none⟩ (.slice a9 l c9)).frozen? ⟨g, i, none⟩ = false) := by
          refine ⟨?_, ?_, fun i => ?_⟩
          · rw [World.cell?_setCell_other _ _ _ _ (fun e => HPG.out (by injection e with e _ _; exact e.symm))]; exact sA.out.1
          · rw [World.cell?_setCell_other _ _ _ _ (fun e => by injection e with _ e _; omega)]; exact (b9.cell (p := ⟨g, j * 3 + 2, none⟩) (block_lt_of_cell k2)).trans k2
          · rw [World.frozen?_setCell]; exact frozen_of_row W9 g i _ _ ((b9.block g (Array.getElem?_eq_some_iff.1 hg).1).trans hg)
        clear hW hg hpg hf hA hlc hat hs1 hb1 hsu hcl hy0 HY0 hyb hyn hyn' hown hstr hl hrow hyz rA zA r1 r2 r3 hnew b9 hx hsz hbo fg HHG hf8 hync
        go_wp2_with fail
        refine region_L (fun Y => Y.cell? ⟨p, 0, none⟩ = some (.slice (some ⟨g, 0, none⟩) L.length c) ∧ Y.cell? ⟨g, j * 3 + 1, none⟩ = some (.slice ya yn yc)) 18 (by kernel_rfl) sE.out (fun hHeld => ?_)
        refine anyL_take 0 (oi := ?o101) (v := ?v101) ?hi101 (by kernel_rfl) (by kernel_rfl) (by kernel_rfl) (by kernel_rfl) ?hQ101 ?hy101 hHeld ?_
        case hi101 => (simp only [List.getElem?_toArray, List.getElem?_cons_zero]; rfl)
        case hQ101 => exact fun _ _ _ h => h
        case hy101 => (refine Or.inl ⟨by rfl, ?_⟩; intro w hSw; (try dsimp only at hSw); go_simp <;> with_reducible rfl)
        try simp only [Act.put, List.setIfInBounds_toArray, List.set_cons_zero, List.set_cons_succ]
        refine anyL_take 1 (oi := ?o102) (v := ?v102) ?hi102 (by kernel_rfl) (by kernel_rfl) (by kernel_rfl) (by kernel_rfl) ?hQ102 ?hy102 hHeld ?_
        case hi102 => (simp only [List.getElem?_toArray, List.getElem?_cons_zero, List.getElem?_cons_succ]; rfl)
        case hQ102 => exact fun _ _ _ h => h
        case hy102 => (refine Or.inl ⟨by rfl, ?_⟩; intro w hSw; (try dsimp only at hSw); go_simp <;> with_reducible rfl)
        try simp only [Act.put, List.setIfInBounds_toArray, List.set_cons_zero, List.set_cons_succ]
        refine anyL_take 2 (oi := ?o103) (v := ?v103) ?hi103 (by kernel_rfl) (by kernel_rfl) (by kernel_rfl) (by kernel_rfl) ?hQ103 ?hy103 hHeld ?_
        case hi103 => (simp only [List.getElem?_toArray, List.getElem?_cons_zero, List.getElem?_cons_succ]; rfl)
        case hQ103 => exact fun _ _ _ h => h
        case hy103 => (refine Or.inl ⟨by rfl, ?_⟩; intro w hSw; (try dsimp only at hSw); go_simp <;> with_reducible rfl)
        try simp only [Act.put, List.setIfInBounds_toArray, List.set_cons_zero, List.set_cons_succ]
        refine anyL_take 3 (oi := ?o104) (v := ?v104) ?hi104 (by kernel_rfl) (by kernel_rfl) (by kernel_rfl) (by kernel_rfl) ?hQ104 ?hy104 hHeld ?_
        case hi104 => (simp only [List.getElem?_toArray, List.getElem?_cons_zero, List.getElem?_cons_succ]; rfl)
        case hQ104 => exact fun _ _ _ h => h
        case hy104 => (refine Or.inl ⟨by rfl, ?_⟩; intro w hSw; (try dsimp only at hSw); go_simp <;> with_reducible rfl)
        try simp only [Act.put, List.setIfInBounds_toArray, List.set_cons_zero, List.set_cons_succ]
        refine anyL_take 4 (oi := ?o105) (v := ?v105) ?hi105 (by kernel_rfl) (by kernel_rfl) (by kernel_rfl) (by kernel_rfl) ?hQ105 ?hy105 hHeld ?_
        case hi105 => (simp only [List.getElem?_toArray, List.getElem?_cons_zero, List.getElem?_cons_succ]; rfl)
        case hQ105 => exact fun _ _ _ h => h
        case hy105 => (refine Or.inl ⟨by rfl, ?_⟩; intro w hSw; (try dsimp only at hSw); go_simp <;> with_reducible rfl)
        try simp only [Act.put, List.setIfInBounds_toArray, List.set_cons_zero, List.set_cons_succ]
        refine anyL_take 5 (oi := ?o106) (v := ?v106) ?hi106 (by kernel_rfl) (by kernel_rfl) (by kernel_rfl) (by kernel_rfl) ?hQ106 ?hy106 hHeld ?_
        case hi106 => (simp only [List.getElem?_toArray, List.getElem?_cons_zero, List.getElem?_cons_succ]; rfl)
        case hQ106 => exact fun _ _ _ h => h
        case hy106 => (refine Or.inl ⟨by rfl, ?_⟩; intro w hSw; (try dsimp only at hSw); go_simp <;> with_reducible rfl)
        try simp only [Act.put, List.setIfInBounds_toArray, List.set_cons_zero, List.set_cons_succ]
        refine anyL_take 6 (oi := ?o107) (v := ?v107) ?hi107 (by kernel_rfl) (by kernel_rfl) (by kernel_rfl) (by kernel_rfl) ?hQ107 ?hy107 hHeld ?_
        case hi107 => (simp only [List.getElem?_toArray, List.getElem?_cons_zero, List.getElem?_cons_succ]; rfl)
        case hQ107 => exact fun _ _ _ h => h
        case hy107 => (refine Or.inl ⟨by rfl, ?_⟩; intro w hSw; (try dsimp only at hSw); go_simp <;> with_reducible rfl)
        try simp only [Act.put, List.setIfInBounds_toArray, List.set_cons_zero, List.set_cons_succ]
        refine anyL_take 7 (oi := ?o108) (v := ?v108) ?hi108 (by kernel_rfl) (by kernel_rfl) (by kernel_rfl) (by kernel_rfl) ?hQ108 ?hy108 hHeld ?_
        case hi108 => (simp only [List.getElem?_toArray, List.getElem?_cons_zero, List.getElem?_cons_succ]; rfl)
        case hQ108 => exact fun _ _ _ h => h
        case hy108 => (refine Or.inl ⟨by rfl, ?_⟩; intro w hSw; (try dsimp only at hSw); go_simp <;> with_reducible rfl)
        try simp only [Act.put, List.setIfInBounds_toArray, List.set_cons_zero, List.set_cons_succ]
        refine anyL_take 8 (oi := ?o109) (v := ?v109) ?hi109 (by kernel_rfl) (by kernel_rfl) (by kernel_rfl) (by kernel_rfl) ?hQ109 ?hy109 hHeld ?_
        case hi109 => (simp only [List.getElem?_toArray, List.getElem?_cons_zero, List.getElem?_cons_succ]; rfl)
        case hQ109 => exact fun _ _ _ h => h
        case hy109 => (refine Or.inl ⟨by rfl, ?_⟩; intro w hSw; (try dsimp only at hSw); go_simp <;> with_reducible rfl)
        try simp only [Act.put, List.setIfInBounds_toArray, List.set_cons_zero, List.set_cons_succ]
        refine anyL_take 9 (oi := ?o110) (v := ?v110) ?hi110 (by kernel_rfl) (by kernel_rfl) (by kernel_rfl) (by kernel_rfl) ?hQ110 ?hy110 hHeld ?_
        case hi110 => (simp only [List.getElem?_toArray, List.getElem?_cons_zero, List.getElem?_cons_succ]; rfl)
        case hQ110 => exact fun _ _ _ h => h
        case hy110 => (refine Or.inl ⟨by rfl, ?_⟩; intro w hSw; (try dsimp only at hSw); go_simp <;> with_reducible rfl)
        try simp only [Act.put, List.setIfInBounds_toArray, List.set_cons_zero, List.set_cons_succ]
        refine anyL_take 10 (oi := ?o111) (v := ?v111) ?hi111 (by kernel_rfl) (by kernel_rfl) (by kernel_rfl) (by kernel_rfl) ?hQ111 ?hy111 hHeld ?_
        case hi111 => (simp only [List.getElem?_toArray, List.getElem?_cons_zero, List.getElem?_cons_succ]; rfl)
        case hQ111 => exact fun _ _ _ h => h
        case hy111 => (refine Or.inl ⟨by rfl, ?_⟩; intro w hSw; (try dsimp only at hSw); go_simp <;> with_reducible rfl)
        try simp only [Act.put, List.setIfInBounds_toArray, List.set_cons_zero, List.set_cons_succ]
        refine anyL_take 11 (oi := ?o112) (v := ?v112) ?hi112 (by kernel_rfl) (by kernel_rfl) (by kernel_rfl) (by kernel_rfl) ?hQ112 ?hy112 hHeld ?_
        case hi112 => (simp only [List.getElem?_toArray, List.getElem?_cons_zero, List.getElem?_cons_succ]; rfl)
        case hQ112 => exact fun _ _ _ h => h
        case hy112 => (refine Or.inl ⟨by rfl, ?_⟩; intro w hSw; (try dsimp only at hSw); go_simp <;> with_reducible rfl)
        try simp only [Act.put, List.setIfInBounds_toArray, List.set_cons_zero, List.set_cons_succ]
        refine anyL_take 12 (oi := ?o113) (v := ?v113) ?hi113 (by kernel_rfl) (by kernel_rfl) (by kernel_rfl) (by kernel_rfl) ?hQ113 ?hy113 hHeld ?_
        case hi113 => (simp only [List.getElem?_toArray, List.getElem?_cons_zero, List.getElem?_cons_succ]; rfl)
        case hQ113 => exact fun _ _ _ h => h
        case hy113 => (refine Or.inl ⟨by rfl, ?_⟩; intro w hSw; (try dsimp only at hSw); go_simp <;> with_reducible rfl)
        try simp only [Act.put, List.setIfInBounds_toArray, List.set_cons_zero, List.set_cons_succ]
        refine anyL_take 13 (oi := ?o114) (v := ?v114) ?hi114 (by kernel_rfl) (by kernel_rfl) (by kernel_rfl) (by kernel_rfl) ?hQ114 ?hy114 hHeld ?_
        case hi114 => (simp only [List.getElem?_toArray, List.getElem?_cons_zero, List.getElem?_cons_succ]; rfl)
        case hQ114 => exact fun _ _ _ h => h
        case hy114 => (refine Or.inl ⟨by rfl, ?_⟩; intro w hSw; (try dsimp only at hSw); go_simp <;> with_reducible rfl)
        try simp only [Act.put, List.setIfInBounds_toArray, List.set_cons_zero, List.set_cons_succ]
        refine anyL_take 14 (oi := ?o115) (v := ?v115) ?hi115 (by kernel_rfl) (by kernel_rfl) (by kernel_rfl) (by kernel_rfl) ?hQ115 ?hy115 hHeld ?_
        case hi115 => (simp only [List.getElem?_toArray, List.getElem?_cons_zero, List.getElem?_cons_succ]; rfl)
        case hQ115 => exact fun _ _ _ h => h
        case hy115 => (refine Or.inl ⟨by rfl, ?_⟩; intro w hSw; (try dsimp only at hSw); go_simp <;> with_reducible rfl)
        try simp only [Act.put, List.setIfInBounds_toArray, List.set_cons_zero, List.set_cons_succ]
        clear hHeld
        refine anyL_one 15 (o := ?o116) ?hi116 (by kernel_rfl) (fun K hK => ?_)
        case hi116 => (simp only [List.getElem?_toArray, List.getElem?_cons_zero, List.getElem?_cons_succ]; rfl)
        refine step_append_ran (by rfl) _ _ 27 (by rfl) (.slice none 0 0) (.slice A l yc) (.slice a9 l c9) W9 (by rfl) (by rfl) (by dsimp only; with_reducible exact HR.out) ?_
        refine hK.out _ _ sA.out ?_
        clear hK
        try simp only [Act.put, List.setIfInBounds_toArray, List.set_cons_zero, List.set_cons_succ]
        refine anyL_one 16 (o := ?o117) ?hi117 (by kernel_rfl) (fun K hK => ?_)
        case hi117 => (simp only [List.getElem?_toArray, List.getElem?_cons_zero, List.getElem?_cons_succ]; rfl)
        go_simp
        refine hK.out _ _ sA.out ?_
        clear hK
        try simp only [Act.put, List.setIfInBounds_toArray, List.set_cons_zero, List.set_cons_succ]
        refine anyL_one 17 (o := ?o118) ?hi118 (by kernel_rfl) (fun K hK => ?_)
        case hi118 => (simp only [List.getElem?_toArray, List.getElem?_cons_zero, List.getElem?_cons_succ]; rfl)
        go_simp
        refine hK.out _ _ sA.out ?_
        clear hK
        try simp only [Act.put, List.setIfInBounds_toArray, List.set_cons_zero, List.set_cons_succ]
        refine anyL_last (o := ?o119) ?hi119 (by kernel_rfl) (fun K hK => ?_)
        case hi119 => (simp only [List.getElem?_toArray, List.getElem?_cons_zero, List.getElem?_cons_succ]; rfl)
        have hst := sA.out.2
        have hfr := fA.out
        go_simp
        refine hK.out _ _ ?_
        clear hK
        refine anyL_done (by kernel_rfl) ?_ _
        generalize W9.setCell ⟨g, j * 3 + 1, none⟩ (.slice a9 l c9) = X at *
        obtain ⟨x0, x1, x2⟩ := XF.out
        clear XF sA sE fA HR c0 k1 k2
        go_wp2
        go_round
        case rel => exact ⟨j + 1, _, by omega, by go_num, HN.out⟩
        case measure => simp [intOf]; omega
    · have hjn : j = L.length := by omega
      subst hjn
      have ij : decide ((L.length : Int) < (L.length : Int)) = false := by simp
      have HF : Hid (PP wr) := HT.out C wr HW.out
      clear hlt hW
      go_wp2
      exact bodyPost_end (v := .tuple #[]) (by simp [results, Tryz.results74, go_sem]) rfl ⟨rfl, HF.out⟩
end Go.Proofs.YtebngmgdciahiaaGreatDoor

namespace Go.Proofs.YtebngmgdciahiaaGreatDoor
open Go.RowKit
open _root_.Go.Proofs.YtebngmgdciahiaaGreatDoor.Nm _root_.Go.Proofs.YtebngmgdciahiaaGreatDoor.Dk
attribute [local go_sem ↓] Go.wp_at_zero Go.wp_at_succ
set_option linter.unusedVariables false

/-- A text's bytes as numbers. -/
def bf (b : ByteArray) (i : Nat) : Nat := ((tx b)[i]?.getD 0).toNat
theorem bf_lt (b : ByteArray) (i : Nat) : bf b i < 256 := UInt8.toNat_lt _
theorem bf_eq {f : Nat → Nat} {n : Nat} {b : ByteArray} (h : str f n = b) (hf : ∀ i, f i < 256) : ∀ i, i < n → f i = bf b i := fun i hi => by
  subst h
  unfold bf
  rw [str_tx, List.getElem?_map, List.getElem?_range hi]
  simp
  rw [Nat.mod_eq_of_lt (hf i)]
/-- The byte of a mask that is laid over the k-th. -/
def mbk (mask k : Nat) : Nat := mask / 2 ^ (8 * k) % 256
theorem mbk_lt (mask k : Nat) : mbk mask k < 256 := Nat.mod_lt _ (by decide)
/-- k bytes from t on are turned. -/
def fz (f : Nat → Nat) (t mask k : Nat) : Nat → Nat := fun i => if t ≤ i ∧ i < t + k then f i ^^^ mbk mask (i - t) else f i
theorem fz_lt {f : Nat → Nat} (hf : ∀ i, f i < 256) (t mask k : Nat) : ∀ i, fz f t mask k i < 256 := fun i => by
  unfold fz
  split
  · exact Nat.xor_lt_two_pow (n := 8) (hf i) (mbk_lt _ _)
  · exact hf i
theorem xor_mb (u mask k : Nat) (hu : u < 256) : bits .xor .u8 (u : Int) ((mask : Int) / 2 ^ (8 * k) % 256) = ((u ^^^ mbk mask k : Nat) : Int) := by
  have e : (mask : Int) / 2 ^ (8 * k) % 256 = ((mbk mask k : Nat) : Int) := by
    unfold mbk
    simp
  rw [e]
  exact u8_xor_nat u _ hu (mbk_lt _ _)
theorem fz_zero (f : Nat → Nat) (t mask : Nat) : fz f t mask 0 = f := by
  funext i
  unfold fz
  rw [if_neg (by omega)]
theorem fz_at (f : Nat → Nat) (t mask k : Nat) : fz f t mask k (t + k) = f (t + k) := by
  unfold fz
  rw [if_neg (by omega)]
theorem fz_step (f : Nat → Nat) (t mask k : Nat) : upd (fz f t mask k) (t + k) (f (t + k) ^^^ mbk mask k) = fz f t mask (k + 1) := by
  funext i
  unfold upd fz
  by_cases e : i = t + k
  · subst e
    rw [if_pos rfl, if_pos (by omega), show t + k - t = k by omega]
  · rw [if_neg e]
    by_cases h : t ≤ i ∧ i < t + k
    · rw [if_pos h, if_pos (by omega)]
    · rw [if_neg h, if_neg (by omega)]
def flB (b : ByteArray) (t mask : Nat) : ByteArray := str (fz (bf b) t mask (min 4 (b.size - t))) b.size
theorem str_size (f : Nat → Nat) (n : Nat) : (str f n).size = n := by
  have := congrArg List.length (str_tx f n)
  rw [tx_length] at this
  simpa using this
theorem flB_size (b : ByteArray) (t mask : Nat) : (flB b t mask).size = b.size := str_size _ _
theorem flB_of {f : Nat → Nat} {n : Nat} {b : ByteArray} (h : str f n = b) (hf : ∀ i, f i < 256) (hn : n = b.size) (t mask : Nat) : str (fz f t mask (min 4 (n - t))) n = flB b t mask := by
  unfold flB
  rw [← hn]
  refine str_congr fun i hi => ?_
  unfold fz
  rw [bf_eq h hf i hi]
/-- Is a byte there to be turned? -/
def flipT (x : ByteArray) (t : Int) (l : List Fl) : Bool := decide (0 ≤ t) && decide (t < ((fileL x l).b.size : Int))
def flipS (x : ByteArray) (t : Int) (mask : Nat) (l : List Fl) : List Fl := if flipT x t l = true then Dk.put l { fileL x l with b := flB (fileL x l).b t.toNat mask } else l
/-- A byte of a row of one's own is stored. -/
theorem own_set {w : World} {base g n c k x : Nat} {f : Nat → Nat} (h : Own w base (.slice (some ⟨g, 0, none⟩) n c) n f) (hk : k < n) : Own (w.setCell ⟨g, k, none⟩ (.int .u8 ((x : Nat) : Int))) base (.slice (some ⟨g, 0, none⟩) n c) n (upd f k x) := by
  rcases h with ⟨hl, ⟨e, _⟩ | ⟨g', cap, cur, e, hg, hh, hnc, hm, hs, ht⟩⟩
  · cases e
  · injection e with e1 e2 e3
    injection e1 with e1
    injection e1 with e1
    subst e1; subst e3
    refine ⟨by rw [bs_length, Nat.mul_one], .inr ⟨g, c, _, rfl, hg, heap_setCell_same w g k _ _ (.int .u8 ((x : Nat) : Int)) hh, hnc, hm, by rw [Array.size_setIfInBounds]; exact hs, ?_⟩⟩
    have hcl : cur.toList.length = c * 1 := by rw [Array.length_toList]; exact hs
    apply List.ext_getElem?
    intro i
    by_cases hi : i < n
    · rw [bs_at hi, List.getElem?_take, if_pos (by omega), Array.toList_setIfInBounds, List.getElem?_set]
      by_cases e : k = i
      · subst e
        rw [if_pos rfl, if_pos (by omega), upd_at]
      · rw [if_neg e, upd_ne _ _ (fun q => e q.symm)]
        have h9 : (cur.toList.take (n * 1))[i]? = some (.int .u8 ((f i : Nat) : Int)) := by rw [ht, bs_at hi]
        rw [List.getElem?_take, if_pos (by omega)] at h9
        exact h9
    · rw [List.getElem?_eq_none (by simp; omega), List.getElem?_eq_none (by rw [bs_length]; omega)]
theorem own_block {w : World} {base g n c : Nat} {f : Nat → Nat} (h : Own w base (.slice (some ⟨g, 0, none⟩) n c) n f) : base ≤ g ∧ ∃ cur, w.heap[g]? = some (.cells cur 5 (0, 0)) := by
  rcases h with ⟨hl, ⟨e, _⟩ | ⟨g', cap, cur, e, hg, hh, _⟩⟩
  · cases e
  · injection e with e1 _ _
    injection e1 with e1
    injection e1 with e1
    subst e1
    exact ⟨hg, cur, hh⟩
set_option maxHeartbeats 8000000 in
theorem dflip_any (p : Nat) (a : Option Addr) (c : Nat) (L : List Fv) (q : Option Nat) (s : St) (z : Option Fz) (x : ByteArray) (t : Int) (mask : Nat) (w : World) (h : DX w p a c L q s) (hz : Zs w q z) (hx : x.size ≤ maxLen) (ht0 : -9223372036854775808 ≤ t) (ht1 : t ≤ 9223372036854775807) (hm : mask < 4294967296) :
    Calls Tryz.prog 73 #[.pointer (some ⟨p, 0, none⟩), .string x, .int .i64 t, .int .u32 (mask : Int)] w fun e w' => e = .returned (.bool (flipT x t s.fs)) ∧ ∃ a' c' L', DX w' p a' c' L' q { s with fs := flipS x t mask s.fs } ∧ Zs w' q z ∧ Upd (Mg p q a) w w' ∧ (a' = a ∨ ∀ x, a' = some x → w.heap.size ≤ x.block) ∧ Gw w L L' := by
  obtain ⟨R, hR⟩ : ∃ R, flipT x t s.fs = R := ⟨_, rfl⟩
  obtain ⟨S, hS⟩ : ∃ S, flipS x t mask s.fs = S := ⟨_, rfl⟩
  rw [hR, hS]
  have hdr := hR
  unfold flipT at hdr
  have hds := hS
  unfold flipS at hds
  rw [hR] at hds
  have HZ : Hid (Zs w q z) := hz
  have HD : Hid (DX w p a c L q s) := h
  have HNO0 : Hid (R = false → ∀ n, ∃ a' c' L', DX (w.drewN n) p a' c' L' q { s with fs := S } ∧ Zs (w.drewN n) q z ∧ Upd (Mg p q a) w (w.drewN n) ∧ (a' = a ∨ ∀ x, a' = some x → w.heap.size ≤ x.block) ∧ Gw w L L') := fun e n => by
    rw [e, if_neg (by decide)] at hds
    subst hds
    exact ⟨a, c, L, h.drewN n, hz.keep (bdn' _ _), (Upd.refl _ _).drewN n, .inl rfl, Gw.refl _ _⟩
  generalize hPP : (fun wr => ∃ a' c' L', DX wr p a' c' L' q { s with fs := S } ∧ Zs wr q z ∧ Upd (Mg p q a) w wr ∧ (a' = a ∨ ∀ x, a' = some x → w.heap.size ≤ x.block) ∧ Gw w L L') = PP
  have HNO : Hid (R = false → ∀ n, PP (w.drewN n)) := fun e n => by rw [← hPP]; exact HNO0.out e n
  have HYES : Hid (∀ wr, (∃ a' c' L', DX wr p a' c' L' q { s with fs := S } ∧ Zs wr q z ∧ Upd (Mg p q a) w wr ∧ (a' = a ∨ ∀ x, a' = some x → w.heap.size ≤ x.block) ∧ Gw w L L') → PP wr) := fun wr k => by rw [← hPP]; exact k
  have hgoal : (fun (e : Ending) (w' : World) => e = .returned (.bool R) ∧ ∃ a' c' L', DX w' p a' c' L' q { s with fs := S } ∧ Zs w' q z ∧ Upd (Mg p q a) w w' ∧ (a' = a ∨ ∀ x, a' = some x → w.heap.size ≤ x.block) ∧ Gw w L L') = fun e w' => e = .returned (.bool R) ∧ PP w' := by rw [← hPP]
  rw [hgoal]
  have cT := at_any p a c L q s x w h hx
  have c0 := h.c0
  have HDR : Hid ((decide (0 ≤ t) && decide (t < ((fileL x s.fs).b.size : Int))) = R) := hdr
  have HDS : Hid ((if R = true then Dk.put s.fs { fileL x s.fs with b := flB (fileL x s.fs).b t.toNat mask } else s.fs) = S) := hds
  clear hgoal hPP hR hS hdr hds hz HNO0
  cases ht : there x s.fs with
  | false =>
    rw [ht] at cT
    have HR : Hid (R = false) := by
      unfold Hid
      rw [← HDR.out]
      unfold fileL
      rw [if_neg (by rw [ht]; decide)]
      show (decide (0 ≤ t) && decide (t < ((0 : Nat) : Int))) = false
      by_cases k : 0 ≤ t
      · rw [decide_eq_false (show ¬ t < ((0 : Nat) : Int) by omega), Bool.and_false]
      · rw [decide_eq_false k, Bool.false_and]
    clear h ht
    obtain ⟨j, hj⟩ : ∃ j, place x s.fs = j := ⟨_, rfl⟩
    rw [hj] at cT
    clear hj
    go_enter Tryz.func73, Tryz.ntmps73
    go_wp2_with fail
    go_at_call 57
    refine cT.mono ?_
    rintro e w2 ⟨rfl, n2, rfl⟩
    clear cT
    go_wp2
    go_ret
    exact ⟨by rw [HR.out] <;> rfl, HNO.out HR.out n2⟩
  | true =>
    rw [ht] at cT
    have hlt := there_lt ht
    obtain ⟨j, hj⟩ : ∃ j, place x s.fs = j := ⟨_, rfl⟩
    rw [hj] at cT hlt
    have hjL : j < L.length := by rw [h.f, List.length_map] at hlt; exact hlt
    have hfa : fileL x s.fs = fl L[j]! := by
      unfold fileL
      rw [if_pos ht]
      unfold fileAt
      rw [hj, h.f, List.getElem?_map, List.getElem?_eq_getElem hjL, getElem!_pos L j hjL]
      rfl
    obtain ⟨g, cur, rfl, hg⟩ := h.block (by omega)
    have ij : (j : Int) < (L.length : Int) := by omega
    have hpg : p ≠ g := fun e => by
      subst e
      have := h.o
      rw [hg] at this
      injection this with this
      injection this with _ this _
      exact absurd this (by decide)
    obtain ⟨hf, _, hlc, _⟩ := h.rows
    obtain ⟨b', o', eo, hA⟩ := hf (by omega)
    cases eo
    have k1 := (hA j hjL).c1
    have hdt := h.data hjL
    rw [Nat.zero_add] at k1
    obtain ⟨y0, hy0⟩ : ∃ y0, L[j]! = y0 := ⟨_, rfl⟩
    have HY0 : Hid (L[j]! = y0) := hy0
    rw [hy0] at k1 hdt hfa
    obtain ⟨yp, ⟨ya, yn, yc⟩, ys, yb⟩ := y0
    dsimp only at k1 hdt
    obtain ⟨hyb, hyn, f, hf8, hown, hstr⟩ := hdt
    dsimp only at hyn hown hstr hyb
    have hyn' : yb.size = yn := hyn.symm
    rw [hyn'] at hyb hown hstr
    have hpath : yp = x := by
      have := there_map (p := x) hjL (by rw [← h.f]; exact hj)
      rw [← h.f, ht, hy0] at this
      have := (of_decide_eq_true this.symm : tx yp = tx x)
      exact tx_inj this
    have HFL : Hid (fileL x s.fs = ⟨x, yb, ys⟩) := by
      unfold Hid
      rw [hfa, hpath]; rfl
    have HPUT : Hid (∀ b', Dk.put s.fs ⟨x, b', ys⟩ = s.fs.set j ⟨x, b', ys⟩) := fun b' => by
      unfold Dk.put
      rw [if_pos (c := there x s.fs = true) ht]
      show s.fs.set (place x s.fs) _ = _
      rw [hj]
    have HRT : Hid ((decide (0 ≤ t) && decide (t < (yn : Int))) = R) := by
      unfold Hid
      rw [← HDR.out, HFL.out]
      show _ = (decide (0 ≤ t) && decide (t < (yb.size : Int)))
      rw [hyn']
    by_cases q0 : t < 0
    · have i0 : decide (t < 0) = true := decide_eq_true q0
      have HR : Hid (R = false) := by unfold Hid; rw [← HRT.out, decide_eq_false (by omega), Bool.false_and]
      clear h ht hlt hj hjL hfa hg hpg hf hA hlc hy0 hyb hyn hf8 hown hstr hyn' hpath q0
      go_enter Tryz.func73, Tryz.ntmps73
      go_wp2_with fail
      go_at_call 57
      refine cT.mono ?_
      rintro e w2 ⟨rfl, n2, rfl⟩
      clear cT
      go_wp2
      go_ret
      exact ⟨by rw [HR.out] <;> rfl, HNO.out HR.out n2⟩
    have i0 : decide (t < 0) = false := decide_eq_false q0
    by_cases q1 : (yn : Int) ≤ t
    · have HR : Hid (R = false) := by unfold Hid; rw [← HRT.out, decide_eq_false (show ¬ t < (yn : Int) by omega), Bool.and_false]
      clear h ht hlt hj hjL hfa hg hpg hf hA hlc hy0 hyb hyn hf8 hown hstr hyn' hpath q0
      go_enter Tryz.func73, Tryz.ntmps73
      go_wp2_with fail
      go_at_call 57
      refine cT.mono ?_
      rintro e w2 ⟨rfl, n2, rfl⟩
      clear cT
      have m0 : (w.drewN n2).cell? ⟨p, 0, none⟩ = _ := c0
      have m1 : (w.drewN n2).cell? ⟨g, j * 3 + 1, none⟩ = _ := k1
      go_wp2
      go_ret
      exact ⟨by rw [HR.out] <;> rfl, HNO.out HR.out n2⟩
    have i1 : decide ((yn : Int) ≤ t) = false := decide_eq_false q1
    obtain ⟨T, hT⟩ : ∃ T : Nat, t = (T : Int) := ⟨t.toNat, by omega⟩
    subst hT
    have hTn : T < yn := by omega
    have HR : Hid (R = true) := by unfold Hid; rw [← HRT.out, decide_eq_true (by omega), decide_eq_true (show (T : Int) < (yn : Int) by omega)]; rfl
    obtain ⟨hrow, hync, hyz⟩ := own_open hown hf8
    have cB : ∀ n, ∃ g9 c9 W9, Sem.run Tryz.prog (Builtin.append_ #[27, 27] 27 #[.slice none 0 0, .slice ya yn yc]) (w.drewN n) = .ok (.slice (some ⟨g9, 0, none⟩) yn c9) W9 ∧ Own W9 w.heap.size (.slice (some ⟨g9, 0, none⟩) yn c9) yn f ∧ Below w.heap.size w W9 := fun n => by
      obtain ⟨v9, W9, r1, r2, r3⟩ := appendA (c := yc) (Own.start (w.drewN n) w.heap.size (fun _ => 0)) (hrow.keep (bdn' w n)) hyz (by omega) (Nat.le_refl _)
      rw [Nat.zero_add] at r2
      have r2 := r2.congr (g := f) fun i _ => by unfold cat; rw [if_neg (by omega), Nat.sub_zero]
      obtain ⟨g9, c9, e9, _⟩ := r2.row (by omega) hf8
      subst e9
      exact ⟨g9, c9, W9, r1, r2, (bdn' w n).trans r3⟩
    have HFT : Hid (∀ i, f i < 256) := hf8
    have HPA : Hid (yp = x) := hpath
    have HFS : Hid (str f yn = yb ∧ yb.size = yn ∧ yb.size ≤ 262144) := ⟨hstr, hyn', by omega⟩
    have HCB := cB
    have HPG : Hid (p ≠ g ∧ j < L.length) := ⟨hpg, hjL⟩
    have HHG : Hid (w.heap[g]? = some (.cells cur 130 (0, 0))) := hg
    have hyn2 : yn ≤ 262144 := by omega
    obtain ⟨N, hN⟩ : ∃ N, min 4 (yn - T) = N := ⟨_, rfl⟩
    have HNN : Hid (min 4 (yn - T) = N) := hN
    clear h ht hlt hj hjL hfa hg hpg hf hA hlc hy0 hyb hyn hf8 hown hstr hyn' hpath q0 q1 hrow hync hyz HCB
    go_enter Tryz.func73, Tryz.ntmps73
    go_wp2_with fail
    go_at_call 57
    refine cT.mono ?_
    rintro e w2 ⟨rfl, n2, rfl⟩
    obtain ⟨g9, c9, W9, r1, r2, r3⟩ := cB n2
    have m0 : (w.drewN n2).cell? ⟨p, 0, none⟩ = _ := c0
    have m1 : (w.drewN n2).cell? ⟨g, j * 3 + 1, none⟩ = _ := k1
    have HR1 : Hid (Sem.run Tryz.prog (Builtin.append_ #[27, 27] 27 #[.slice none 0 0, .slice ya yn yc]) (w.drewN n2) = .ok (.slice (some ⟨g9, 0, none⟩) yn c9) W9) := r1
    have HO9 : Hid (Own W9 w.heap.size (.slice (some ⟨g9, 0, none⟩) yn c9) yn (fz f T mask 0)) := by rw [fz_zero]; exact r2
    have HB9 : Hid (Below w.heap.size w W9) := r3
    clear cT cB r1 r2 r3
    go_wp2_with (at_builtin; refine wpList_append_ran (by rfl) _ _ 27 (by rfl) _ _ _ _ (by rfl) (by rfl) HR1.out ?_)
    clear m0 m1
    go_loopw [12] (fun i wr => ∃ k : Nat, k ≤ N ∧ i = .int .i64 k ∧ Own wr w.heap.size (.slice (some ⟨g9, 0, none⟩) yn c9) yn (fz f T mask k) ∧ Below w.heap.size w wr) (fun i _ => N - (intOf i).toNat)
    case atStart => exact ⟨0, Nat.zero_le _, rfl, HO9.out, HB9.out⟩
    case round =>
      obtain ⟨k, hk, rfl, hO, hB⟩ := hrel
      have HO : Hid (Own wr w.heap.size (.slice (some ⟨g9, 0, none⟩) yn c9) yn (fz f T mask k)) := hO
      have HB : Hid (Below w.heap.size w wr) := hB
      by_cases hkN : k < N
      · have a1 : (k : Int) < 4 := by omega
        have wA : IntKind.i64.wrap ((T : Int) + (k : Int)) = ((T + k : Nat) : Int) := by rw [IntKind.wrap_i64]; omega
        have a2 : ((T + k : Nat) : Int) < (yn : Int) := by omega
        have a3 : (T : Int) + (k : Int) < (yn : Int) := by omega
        have w8 : IntKind.i64.wrap (8 * (k : Int)) = ((8 * k : Nat) : Int) := by rw [IntKind.wrap_i64]; omega
        obtain ⟨hg9, cur9, hh9⟩ := own_block hO
        obtain ⟨b9, o9, e9, hr9⟩ := (own_open hO (fz_lt HFT.out T mask k)).1.lies (by omega)
        injection e9 with e9
        injection e9 with e1 e2 _
        have u0 := hr9 (T + k) (by omega)
        rw [← e1, ← e2, Nat.zero_add, fz_at] at u0
        have u1 := frozen_of_row wr g9 (T + k) _ _ hh9
        have HG9 : Hid (w.heap.size ≤ g9) := hg9
        clear hO hB hg9 hh9 hr9 e1 e2
        go_wp2
        rw [xor_mb _ _ _ (HFT.out _)]
        refine ⟨⟨k + 1, by omega, by simp, ?_, ?_⟩, by simp [intOf]; omega⟩
        · rw [← fz_step]
          exact own_set HO.out (by omega)
        · exact Upd.below (M := fun i => i = g9) HB.out (Upd.put (M := fun i => i = g9) (Upd.refl _ wr) (p := ⟨g9, T + k, none⟩) (.inl rfl) _) (fun i e => by rw [e]; exact HG9.out) HB.out.size
      · have hkN' : k = N := by omega
        subst hkN'
        have HG9 : Hid (w.heap.size ≤ g9) := (own_block hO).1
        have HN : Hid (PP (wr.setCell ⟨g, j * 3 + 1, none⟩ (.slice (some ⟨g9, 0, none⟩) yn c9))) := by
          have hb9 : BO wr { L[j]! with bv := (some ⟨g9, 0, none⟩, yn, c9), b := flB yb T mask } := by
            refine ⟨?_, fz f T mask k, fz_lt HFT.out T mask k, ?_, ?_⟩
            · show yn = (flB yb T mask).size
              rw [flB_size, HFS.out.2.1]
            · show Own wr 0 (.slice (some ⟨g9, 0, none⟩) yn c9) (flB yb T mask).size _
              rw [flB_size, HFS.out.2.1]
              exact own_mono HO.out (Nat.zero_le _)
            · show str _ (flB yb T mask).size = flB yb T mask
              rw [flB_size, HFS.out.2.1, ← HNN.out]
              exact flB_of HFS.out.1 HFT.out HFS.out.2.1.symm T mask
          have hd := (HD.out.keep HB.out).setB HPG.out.2 HPG.out.1 (some ⟨g9, 0, none⟩, yn, c9) (flB yb T mask) hb9 (by rw [flB_size]; exact HFS.out.2.2)
          have hS : s.fs.set j (fl { L[j]! with bv := (some ⟨g9, 0, none⟩, yn, c9), b := flB yb T mask }) = S := by
            have h9 := HDS.out
            rw [HR.out, if_pos rfl, HFL.out, show ((T : Int)).toNat = T by omega] at h9
            have h8 := HPUT.out (flB yb T mask)
            rw [← h9]
            show _ = Dk.put s.fs ⟨x, flB yb T mask, ys⟩
            rw [h8, HY0.out, ← HPA.out]
            rfl
          rw [hS] at hd
          refine HYES.out _ ⟨some ⟨g, 0, none⟩, c, _, hd, (HZ.out.keep HB.out).beside (M := fun k => k = g) (Upd.put (M := fun k => k = g) (Upd.refl _ wr) (p := ⟨g, j * 3 + 1, none⟩) (.inl rfl) _) (fun k hk e => ?_), ((Upd.refl _ w).after HB.out).put (p := ⟨g, j * 3 + 1, none⟩) (.inl (.inr (.inr ⟨0, rfl⟩))) _, .inl rfl, Gw.put (y := { L[j]! with bv := (some ⟨g9, 0, none⟩, yn, c9), b := flB yb T mask }) (fun u hu => hu) (fun _ ad e => .inl ?_)⟩
          · subst hk; subst e
            obtain ⟨cs, hz⟩ := HZ.out.type
            rw [HHG.out] at hz
            injection hz with hz
            injection hz with _ hz _
            exact absurd hz (by decide)
          · have e : (some ⟨g9, 0, none⟩ : Option Addr) = some ad := e
            injection e with e
            subst e
            exact HG9.out
        have m0 : wr.cell? ⟨p, 0, none⟩ = _ := (HB.out.cell (p := ⟨p, 0, none⟩) (block_lt_of_cell c0)).trans c0
        have m1 : wr.cell? ⟨g, j * 3 + 1, none⟩ = _ := (HB.out.cell (p := ⟨g, j * 3 + 1, none⟩) (block_lt_of_cell k1)).trans k1
        have m2 : wr.frozen? ⟨g, j * 3 + 1, none⟩ = false := frozen_of_row wr g (j * 3 + 1) _ _ ((HB.out.block g (Array.getElem?_eq_some_iff.1 HHG.out).1).trans HHG.out)
        clear hO hB c0 k1
        by_cases q4 : (k : Int) < 4
        · have wA : IntKind.i64.wrap ((T : Int) + (k : Int)) = ((T + k : Nat) : Int) := by rw [IntKind.wrap_i64]; omega
          have a2 : decide (((T + k : Nat) : Int) < (yn : Int)) = false := decide_eq_false (by have := HNN.out; omega)
          have a3 : decide ((T : Int) + (k : Int) < (yn : Int)) = false := decide_eq_false (by have := HNN.out; omega)
          go_wp2
          go_ret
          exact ⟨by rw [HR.out] <;> rfl, HN.out⟩
        · have a1 : decide ((k : Int) < 4) = false := decide_eq_false q4
          clear q4
          go_wp2
          go_ret
          exact ⟨by rw [HR.out] <;> rfl, HN.out⟩
end Go.Proofs.YtebngmgdciahiaaGreatDoor

namespace Go.Proofs.YtebngmgdciahiaaGreatDoor
open Go.RowKit
open _root_.Go.Proofs.YtebngmgdciahiaaGreatDoor.Nm _root_.Go.Proofs.YtebngmgdciahiaaGreatDoor.Dk
attribute [local go_sem ↓] Go.wp_at_zero Go.wp_at_succ
set_option linter.unusedVariables false

/-- The blocks of a disk's rows of bytes. -/
def Bk (V : List Fv) : Nat → Prop := fun k => ∃ y ∈ V, 0 < y.b.size ∧ ∃ o, y.bv.1 = some ⟨k, o, none⟩
section
variable {w wr : World} {p m : Nat} {V : List Fv} {q : Option Nat} {s : St} {F : Int}
theorem PX.bk (h : PX w p m V q s F) {k : Nat} (hk : Bk V k) : ∃ cur, w.heap[k]? = some (.cells cur 5 (0, 0)) := by
  obtain ⟨y, hy, h0, o, e⟩ := hk
  obtain ⟨f, _, ho, _⟩ := (h.b y hy).r h0
  rcases ho with ⟨_, ⟨e1, _⟩ | ⟨g', cap, cur, e1, _, hh, _⟩⟩
  · injection e1 with e1 _ _
    rw [e] at e1; cases e1
  · injection e1 with e1 _ _
    rw [e] at e1
    injection e1 with e1
    injection e1 with e1
    subst e1
    exact ⟨cur, hh⟩
/-- A file whose row of bytes was turned in place. -/
theorem PX.turned (h : PX w p m V q s F) {x : ByteArray} {A B : List Fv} {f : Fv} (P : Part V x A [f] B) (h0 : 0 < f.b.size) {g : Nat} (hg : f.bv.1 = some ⟨g, 0, none⟩) {b' : ByteArray} (hs : b'.size = f.b.size) (u : Upd (fun k => k = g) w wr) (hb : PB wr { f with b := b' }) :
    PX wr p m (A ++ { f with b := b' } :: B) q { s with fs := Dk.put s.fs { fl f with b := b' } } F := by
  obtain ⟨fi, hfi⟩ : ∃ fi : Fv, fi = { f with b := b' } := ⟨_, rfl⟩
  rw [← hfi] at hb ⊢
  have hfm : f ∈ V := by rw [P.v]; simp
  have hfp : f.path = x := P.mp f (by simp)
  have hp : fi.path = x := by rw [hfi]; exact hfp
  have hbv : fi.bv = f.bv := by rw [hfi]
  have hsz : fi.b.size = f.b.size := by rw [hfi]; exact hs
  have hsu : fi.sure = f.sure := by rw [hfi]
  obtain ⟨cur, hcur⟩ := h.bk (k := g) ⟨f, hfm, h0, 0, hg⟩
  have hpg : p ≠ g := fun e => by
    subst e
    have := h.o
    rw [hcur] at this
    injection this with this
    injection this with _ this _
    exact absurd this (by decide)
  have hmg : ¬ m = g := fun e => by
    subst e
    obtain ⟨es, cl, hb, _⟩ := h.m
    rw [hb] at hcur
    injection hcur with hcur
    cases hcur
  have hin : ∀ y, y ∈ A ∨ y ∈ B → y ∈ V := fun y hy => by
    rw [P.v]
    rcases hy with k | k
    · exact List.mem_append_left _ (List.mem_append_left _ k)
    · exact List.mem_append_right _ k
  have hd := h.d
  rw [P.v, List.append_assoc] at hd
  obtain ⟨d1, d2, d3⟩ := List.pairwise_append.1 hd
  obtain ⟨d4, d5⟩ := List.pairwise_cons.1 d2
  have hoth : ∀ y, y ∈ A ∨ y ∈ B → PB wr y := fun y hy => by
    have hk := h.b y (hin y hy)
    refine ⟨hk.n, hk.c, hk.l, hk.z, fun k => ?_⟩
    obtain ⟨f9, r1, r2, r3⟩ := hk.r k
    refine ⟨f9, r1, ?_, r3⟩
    obtain ⟨g2, c2, e2, _⟩ := r2.row k r1
    have e3 : y.bv.1 = some ⟨g2, 0, none⟩ := by injection e2
    have hne : g2 ≠ g := fun e => by
      subst e
      rcases hy with t | t
      · exact d3 y t f (by simp) k h0 (e3.trans hg.symm)
      · exact d4 y t h0 k (hg.trans e3.symm)
    have e4 : y.bv.2.1 = y.b.size := hk.n
    rw [e4, e3] at r2 ⊢
    have hblk := own_block (f := f9) (by exact r2)
    obtain ⟨_, cur2, hc2⟩ := hblk
    exact own_at r2 (u.block g2 (Array.getElem?_eq_some_iff.1 hc2).1 hne)
  have hfs : Dk.put s.fs { fl f with b := b' } = (A ++ fi :: B).map fl := by
    rw [h.f]
    have e9 : ({ fl f with b := b' } : Fl) = fl fi := by rw [hfi]; rfl
    rw [e9, P.putD hp]
  have hus : used ((A ++ fi :: B).map fl) = used s.fs := by
    rw [used_mid, hsz, h.f, P.used]
    congr 1
  have hlen : (A ++ fi :: B).length = V.length := by rw [P.v]; simp
  rw [hfs]
  refine ⟨?_, ?_, fun y hy => ?_, rfl, ?_, P.riseP h.r hp, ?_, h.F0, h.F1⟩
  · rw [u.block p h.lt (fun e => hpg e), h.o, hus]
  · have e : DM (A ++ fi :: B) = DM V := by
      unfold DM
      rw [P.v]
      simp only [List.map_append, List.map_cons, List.append_assoc, List.cons_append, List.nil_append]
      congr 2
      unfold en vl
      rw [hp, hbv, hsu, ← hfp]
    rw [hlen, e]
    exact map_upd h.m u hmg
  · rcases List.mem_append.1 hy with k | k
    · exact hoth y (.inl k)
    · rcases List.mem_cons.1 k with k | k
      · rw [k]; exact hb
      · exact hoth y (.inr k)
  · have hm : ∀ u ∈ (A ++ fi :: B).map fl, ∃ v ∈ s.fs, u.path = v.path ∧ u.b.size = v.b.size := fun u hu => by
      obtain ⟨y, hy, rfl⟩ := List.mem_map.1 hu
      rw [h.f]
      rcases List.mem_append.1 hy with k | k
      · exact ⟨fl y, List.mem_map_of_mem (hin y (.inl k)), rfl, rfl⟩
      · rcases List.mem_cons.1 k with k | k
        · rw [k]
          exact ⟨fl f, List.mem_map_of_mem hfm, by show fi.path = f.path; rw [hp, hfp], hsz⟩
        · exact ⟨fl y, List.mem_map_of_mem (hin y (.inr k)), rfl, rfl⟩
    refine ⟨?_, fun u hu => ?_, fun u hu => ?_, h.wf.m0, h.wf.m1, h.wf.b0, h.wf.b1⟩
    · show ((A ++ fi :: B).map fl).length ≤ 4096
      rw [List.length_map, hlen]; exact h.n
    · obtain ⟨v, hv, _, e⟩ := hm u hu
      rw [e]; exact h.wf.b v hv
    · obtain ⟨v, hv, e, _⟩ := hm u hu
      rw [e]; exact h.wf.p v hv
  · refine List.pairwise_append.2 ⟨d1, List.pairwise_cons.2 ⟨fun y hy => ?_, d5⟩, fun y hy u hu => ?_⟩
    · intro k1 k2
      rw [hbv]
      exact d4 y hy (by rw [← hsz]; exact k1) k2
    · rcases List.mem_cons.1 hu with t | t
      · rw [t]
        intro k1 k2
        rw [hbv]
        exact d3 y hy f (by simp) k1 (by rw [← hsz]; exact k2)
      · exact d3 y hy u (List.mem_cons_of_mem _ t)
end
/-- Rows of bytes keep their length. -/
def SameB (w w' : World) : Prop := ∀ (k : Nat) (cur : Array Value), w.heap[k]? = some (.cells cur 5 (0, 0)) → ∃ cur' : Array Value, w'.heap[k]? = some (.cells cur' 5 (0, 0)) ∧ cur'.size = cur.size
theorem SameB.keep {w w' : World} (b : Below w.heap.size w w') : SameB w w' := fun k cur e => ⟨cur, (b.block k (Array.getElem?_eq_some_iff.1 e).1).trans e, rfl⟩
theorem own_cells {w : World} {base g n c : Nat} {f : Nat → Nat} (h : Own w base (.slice (some ⟨g, 0, none⟩) n c) n f) : ∃ cur, w.heap[g]? = some (.cells cur 5 (0, 0)) ∧ cur.size = c * 1 := by
  rcases h with ⟨hl, ⟨e, _⟩ | ⟨g', cap, cur, e, hg, hh, _, _, hs, _⟩⟩
  · cases e
  · injection e with e1 _ e3
    injection e1 with e1
    injection e1 with e1
    subst e1; subst e3
    exact ⟨cur, hh, hs⟩
set_option maxHeartbeats 8000000 in
theorem pflip_any (p m : Nat) (V : List Fv) (q : Option Nat) (s : St) (F : Int) (x : ByteArray) (t : Int) (mask : Nat) (w : World) (h : PX w p m V q s F) (hx : x.size ≤ maxLen) (ht0 : -9223372036854775808 ≤ t) (ht1 : t ≤ 9223372036854775807) (hm : mask < 4294967296) :
    Calls Tryz.prog 72 #[.pointer (some ⟨p, 0, none⟩), .string x, .int .i64 t, .int .u32 (mask : Int)] w fun e w' => e = .returned (.bool (flipT x t s.fs)) ∧ ∃ V', PX w' p m V' q { s with fs := flipS x t mask s.fs } F ∧ Upd (Bk V) w w' ∧ Gw w V V' ∧ SameB w w' := by
  obtain ⟨A, M, B, P⟩ := part_at h.r x
  have lk := (h.look P hx).2
  have d0 := h.c0
  obtain ⟨⟨ta, tn, tc⟩, htv⟩ : ∃ y : Option Addr × Nat × Nat, (top M).bv = y := ⟨_, rfl⟩
  obtain ⟨ts, hts'⟩ : ∃ ts, (top M).sure = ts := ⟨_, rfl⟩
  have htl : vl (top M) = .agg #[.slice ta tn tc, .bool ts] := by unfold vl; rw [htv, hts']
  rw [htl] at lk
  obtain ⟨hf1, _⟩ := P.fileL
  rw [← h.f] at hf1
  have hpb := h.topB P
  have hpn := hpb.n
  rw [htv] at hpn
  dsimp only at hpn
  have hsz := h.topS P
  obtain ⟨R, hR⟩ : ∃ R, flipT x t s.fs = R := ⟨_, rfl⟩
  obtain ⟨S, hS⟩ : ∃ S, flipS x t mask s.fs = S := ⟨_, rfl⟩
  rw [hR, hS]
  have hds := hS
  unfold flipS at hds
  rw [hR] at hds
  have HRT : Hid ((decide (0 ≤ t) && decide (t < (tn : Int))) = R) := by
    unfold Hid
    rw [← hR]
    unfold flipT
    rw [hf1, ← hpn]
  have HD : Hid (PX w p m V q s F) := h
  have HDS : Hid ((if R = true then Dk.put s.fs { fileL x s.fs with b := flB (fileL x s.fs).b t.toNat mask } else s.fs) = S) := hds
  have hmost := h.wf.n
  generalize hPP : (fun wr => ∃ V', PX wr p m V' q { s with fs := S } F ∧ Upd (Bk V) w wr ∧ Gw w V V' ∧ SameB w wr) = PP
  have HYES : Hid (∀ wr, (∃ V', PX wr p m V' q { s with fs := S } F ∧ Upd (Bk V) w wr ∧ Gw w V V' ∧ SameB w wr) → PP wr) := fun wr k => by rw [← hPP]; exact k
  have HNO : Hid (R = false → ∀ wr, Below w.heap.size w wr → PP wr) := fun e wr hb => HYES.out wr (by
    have h9 := HDS.out
    rw [e, if_neg (by decide)] at h9
    subst h9
    exact ⟨V, HD.out.keep hb, Upd.of hb, Gw.refl _ _, SameB.keep hb⟩)
  have hgoal : (fun (e : Ending) (w' : World) => e = .returned (.bool R) ∧ ∃ V', PX w' p m V' q { s with fs := S } F ∧ Upd (Bk V) w w' ∧ Gw w V V' ∧ SameB w w') = fun e w' => e = .returned (.bool R) ∧ PP w' := by rw [← hPP]
  rw [hgoal]
  have htn : tn ≤ 262144 := by omega
  have fld : ∀ (a : Option Addr) (n c : Nat) (b : Bool) (w' : World), Sem.run Tryz.prog (Instr.field 106 (.agg #[.slice a n c, .bool b]) 0) w' = .ok (.slice a n c) w' := fun _ _ _ _ _ => by rfl
  by_cases q0 : t < 0
  · have i0 : decide (t < 0) = true := decide_eq_true q0
    have HR : Hid (R = false) := by unfold Hid; rw [← HRT.out, decide_eq_false (by omega), Bool.false_and]
    clear h P htv hts' htl hf1 hpb hpn hsz hR hS hds hPP hgoal q0
    go_enter Tryz.func72, Tryz.ntmps72
    go_wp2
    go_ret
    exact ⟨by rw [HR.out] <;> rfl, HNO.out HR.out _ (Below.refl _ _)⟩
  have i0 : decide (t < 0) = false := decide_eq_false q0
  by_cases q1 : (tn : Int) ≤ t
  · have HR : Hid (R = false) := by unfold Hid; rw [← HRT.out, decide_eq_false (show ¬ t < (tn : Int) by omega), Bool.and_false]
    clear h P htv hts' htl hf1 hpb hpn hsz hR hS hds hPP hgoal q0
    go_enter Tryz.func72, Tryz.ntmps72
    go_wp2
    go_ret
    exact ⟨by rw [HR.out] <;> rfl, HNO.out HR.out _ (Below.refl _ _)⟩
  have i1 : decide ((tn : Int) ≤ t) = false := decide_eq_false q1
  obtain ⟨T, hT⟩ : ∃ T : Nat, t = (T : Int) := ⟨t.toNat, by omega⟩
  subst hT
  have hTn : T < tn := by omega
  have HR : Hid (R = true) := by unfold Hid; rw [← HRT.out, decide_eq_true (by omega), decide_eq_true (show (T : Int) < (tn : Int) by omega)]; rfl
  obtain ⟨f, hM, hfp⟩ : ∃ f, M = [f] ∧ f.path = x := by
    rcases P.m with ⟨_, e⟩ | ⟨_, f, e, hf⟩
    · subst e
      have : (top []).b.size = 0 := rfl
      omega
    · exact ⟨f, e, hf⟩
  subst hM
  have htop : top [f] = f := rfl
  rw [htop] at htv hts' hf1 hpb hpn hsz
  obtain ⟨fF, hf8, hown, hstr⟩ := hpb.r (by omega)
  rw [htv] at hown
  dsimp only at hown
  rw [← hpn] at hown hstr
  obtain ⟨g, c9, e9, _⟩ := hown.row (by omega) hf8
  injection e9 with e9 _ e8
  subst e9; subst e8
  have HO0 : Hid (Own w 0 (.slice (some ⟨g, 0, none⟩) tn tc) tn (fz fF T mask 0)) := by rw [fz_zero]; exact hown
  have HFT : Hid (∀ i, fF i < 256) := hf8
  have HFS : Hid (str fF tn = f.b ∧ tn = f.b.size ∧ f.bv = (some ⟨g, 0, none⟩, tn, tc) ∧ PB w f) := ⟨hstr, hpn, htv, hpb⟩
  have HP : Hid (Part V x A [f] B) := P
  have HFL : Hid (fileL x s.fs = fl f) := by
    unfold Hid
    have ht : there x (V.map fl) = true := by
      rcases P.m with ⟨_, e⟩ | ⟨t, _⟩
      · cases e
      · exact t
    unfold fileL
    rw [h.f, if_pos ht, P.fileAt ht]
    rfl
  obtain ⟨N, hN⟩ : ∃ N, min 4 (tn - T) = N := ⟨_, rfl⟩
  have HNN : Hid (min 4 (tn - T) = N) := hN
  have wS : IntKind.i64.wrap ((tn : Int) - (T : Int)) = ((tn - T : Nat) : Int) := by rw [IntKind.wrap_i64]; omega
  have mn1 : min (4 : Int) ((tn - T : Nat) : Int) = (N : Int) := by omega
  have mn2 : (if ((tn - T : Nat) : Int) < 4 then ((tn - T : Nat) : Int) else 4) = (N : Int) := by split <;> omega
  have mn3 : (if (4 : Int) < ((tn - T : Nat) : Int) then 4 else ((tn - T : Nat) : Int)) = (N : Int) := by split <;> omega
  clear h P htv hts' htl hf1 hpb hpn hsz hR hS hds hPP hgoal q0 q1 hfp htop hf8 hown hstr
  go_enter Tryz.func72, Tryz.ntmps72
  go_wp2_with fail
  go_loopw [33] (fun i wr => ∃ k : Nat, k ≤ N ∧ i = .int .i64 k ∧ Own wr 0 (.slice (some ⟨g, 0, none⟩) tn tc) tn (fz fF T mask k) ∧ Upd (fun i => i = g) w wr) (fun i _ => N - (intOf i).toNat)
  case atStart => exact ⟨0, Nat.zero_le _, rfl, HO0.out, Upd.refl _ _⟩
  case round =>
    obtain ⟨k, hk, rfl, hO, hU⟩ := hrel
    have HO : Hid (Own wr 0 (.slice (some ⟨g, 0, none⟩) tn tc) tn (fz fF T mask k)) := hO
    have HU : Hid (Upd (fun i => i = g) w wr) := hU
    by_cases hkN : k < N
    · have a1 : (k : Int) < (N : Int) := by omega
      have wA : IntKind.i64.wrap ((T : Int) + (k : Int)) = ((T + k : Nat) : Int) := by rw [IntKind.wrap_i64]; omega
      have a2 : ((T + k : Nat) : Int) < (tn : Int) := by omega
      have a3 : (T : Int) + (k : Int) < (tn : Int) := by omega
      have w8 : IntKind.i64.wrap (8 * (k : Int)) = ((8 * k : Nat) : Int) := by rw [IntKind.wrap_i64]; omega
      obtain ⟨hg9, cur9, hh9⟩ := own_block hO
      obtain ⟨b9, o9, e9, hr9⟩ := (own_open hO (fz_lt HFT.out T mask k)).1.lies (by omega)
      injection e9 with e9
      injection e9 with e1 e2 _
      have u0 := hr9 (T + k) (by omega)
      rw [← e1, ← e2, Nat.zero_add, fz_at] at u0
      have u1 := frozen_of_row wr g (T + k) _ _ hh9
      have HN : Hid (∀ W, W = (wr.drew).setCell ⟨g, T + k, none⟩ (.int .u8 (bits .xor .u8 ((fF (T + k) : Nat) : Int) ((mask : Int) / 2 ^ (8 * k) % 256))) → Own W 0 (.slice (some ⟨g, 0, none⟩) tn tc) tn (fz fF T mask (k + 1)) ∧ Upd (fun i => i = g) w W) := fun W e => by
        subst e
        rw [xor_mb _ _ _ (HFT.out _), ← fz_step]
        exact ⟨own_set (HO.out.keep (Below.refl _ _).drew) (by omega), (HU.out.drew).put (p := ⟨g, T + k, none⟩) (.inl rfl) _⟩
      clear hO hU hg9 hh9 hr9 e1 e2
      go_wp2_with fail
      go_region
      all_goals
        go_wp2
        refine ⟨⟨k + 1, by omega, by simp, (HN.out _ rfl).1, (HN.out _ rfl).2⟩, by simp [intOf]; omega⟩
    · have hkN' : k = N := by omega
      subst hkN'
      have a1 : decide ((k : Int) < (k : Int)) = false := by simp
      have HN : Hid (PP wr) := by
        have hsz : (flB f.b T mask).size = f.b.size := flB_size _ _ _
        have hpb : PB wr { f with b := flB f.b T mask } := by
          have h0 := HFS.out.2.2.2
          refine ⟨by show f.bv.2.1 = (flB f.b T mask).size; rw [hsz]; exact h0.n, by show (flB f.b T mask).size ≤ _; rw [hsz]; exact h0.c, h0.l, h0.z, fun _ => ⟨fz fF T mask k, fz_lt HFT.out T mask k, ?_, ?_⟩⟩
          · show Own wr 0 (.slice f.bv.1 f.bv.2.1 f.bv.2.2) (flB f.b T mask).size _
            rw [hsz, HFS.out.2.2.1, ← HFS.out.2.1]
            exact HO.out
          · show str _ (flB f.b T mask).size = flB f.b T mask
            rw [hsz, ← HFS.out.2.1, ← HNN.out]
            exact flB_of HFS.out.1 HFT.out HFS.out.2.1 T mask
        have hpos : 0 < f.b.size := by have := HFS.out.2.1; omega
        have hbv1 : f.bv.1 = some ⟨g, 0, none⟩ := by rw [HFS.out.2.2.1]
        have hP := HD.out.turned HP.out hpos hbv1 hsz HU.out hpb
        have hfm : f ∈ V := by rw [HP.out.v]; simp
        have hS : Dk.put s.fs { fl f with b := flB f.b T mask } = S := by
          have h9 := HDS.out
          rw [HR.out, if_pos rfl, HFL.out, show ((T : Int)).toNat = T by omega] at h9
          exact h9
        rw [hS] at hP
        refine HYES.out wr ⟨_, hP, HU.out.mono fun i _ e => ?_, fun u hu h0 ad e => .inr ?_, fun k9 cur9 e9 => ?_⟩
        · subst e; exact ⟨f, hfm, hpos, 0, hbv1⟩
        · rcases List.mem_append.1 hu with t | t
          · exact ⟨u, by rw [HP.out.v]; exact List.mem_append_left _ (List.mem_append_left _ t), h0, e⟩
          · rcases List.mem_cons.1 t with t | t
            · rw [t] at e
              exact ⟨f, hfm, hpos, e⟩
            · exact ⟨u, by rw [HP.out.v]; exact List.mem_append_right _ t, h0, e⟩
        · by_cases q : k9 = g
          · subst q
            obtain ⟨c1, e1, e2⟩ := own_cells HO0.out
            obtain ⟨c2, e3, e4⟩ := own_cells HO.out
            rw [e9] at e1
            injection e1 with e1
            injection e1 with e1 _ _
            exact ⟨c2, e3, by rw [e4, e1, e2]⟩
          · exact ⟨cur9, (HU.out.block k9 (Array.getElem?_eq_some_iff.1 e9).1 q).trans e9, rfl⟩
      clear hO hU
      go_wp2
      go_ret
      exact ⟨by rw [HR.out] <;> rfl, HN.out⟩
end Go.Proofs.YtebngmgdciahiaaGreatDoor
