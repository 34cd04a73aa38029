/-
  Crash of a disk of the document.
-/
import Derived.Test.YthkhkijdehbbmaaSdL
import Derived.Test.YthkhkijdehbbmaaSdA
import Derived.Test.YthkhkijdehbbmaaSmO
set_option maxRecDepth 100000
namespace Go.Proofs.Ythkhkijdehbbmaa
open Go.RowKit
open _root_.Go.Proofs.Ythkhkijdehbbmaa.Nm _root_.Go.Proofs.Ythkhkijdehbbmaa.Dk
attribute [local go_sem ↓] Go.wp_at_zero Go.wp_at_succ
set_option linter.unusedVariables false

theorem FOwn.setB {w : World} {base g c j : Nat} {L : List Fv} (h : FOwn w base (.slice (some ⟨g, 0, none⟩) L.length c) L) (hj : j < L.length) (nb : Option Addr × Nat × Nat) (b' : ByteArray) :
    FOwn (w.setCell ⟨g, j * 3 + 1, none⟩ (.slice nb.1 nb.2.1 nb.2.2)) base (.slice (some ⟨g, 0, none⟩) L.length c) (L.set j { L[j]! with bv := nb, b := b' }) := by
  rcases h with ⟨hl, ⟨e, _⟩ | ⟨g', cap, cur, e, hg, hh, hnc, hm, hs, ht⟩⟩
  · cases e
  · injection e with e1 e2 e3
    injection e1 with e1
    injection e1 with e1
    subst e1; subst e3
    refine ⟨fcs_length _, .inr ⟨g, c, _, by rw [List.length_set], hg, heap_setCell_same w g (j * 3 + 1) _ _ (.slice nb.1 nb.2.1 nb.2.2) hh, by rw [List.length_set]; exact hnc, hm, by rw [Array.size_setIfInBounds]; exact hs, ?_⟩⟩
    have hcl : cur.toList.length = c * 3 := by rw [Array.length_toList]; exact hs
    refine fcs_ext ?_ fun i hi r hr => ?_
    · rw [List.length_take, Array.toList_setIfInBounds, List.length_set, List.length_set, hcl]; omega
    · rw [List.length_set] at hi
      rw [List.getElem?_take, List.length_set, if_pos (by omega), Array.toList_setIfInBounds, List.getElem?_set]
      have hcur : cur.toList[i * 3 + r]? = (cellsF L[i]!)[r]? := by
        rw [← fcs_at L i hi r hr, ← ht, List.getElem?_take, if_pos (by omega)]
      by_cases ei : i = j
      · subst ei
        have e2 : (L.set i { L[i]! with bv := nb, b := b' })[i]! = { L[i]! with bv := nb, b := b' } := by
          rw [getElem!_pos _ i (by rw [List.length_set]; exact hi), List.getElem_set_self]
        rw [e2]
        match r, hr with
        | 0, _ => rw [if_neg (by omega), hcur]; rfl
        | 1, _ => rw [if_pos rfl, if_pos (by omega)]; rfl
        | 2, _ => rw [if_neg (by omega), hcur]; rfl
      · have e2 : (L.set j { L[j]! with bv := nb, b := b' })[i]! = L[i]! := by
          rw [getElem!_pos _ i (by rw [List.length_set]; exact hi), List.getElem_set_ne (fun q => ei q.symm), getElem!_pos L i hi]
        rw [e2, if_neg (by omega), hcur]
/-- A file's bytes are laid anew. -/
theorem DX.setB {w : World} {p g : Nat} {c j : Nat} {L : List Fv} {q : Option Nat} {s : St} (h : DX w p (some ⟨g, 0, none⟩) c L q s) (hj : j < L.length) (hpg : p ≠ g) (nb : Option Addr × Nat × Nat) (b' : ByteArray) (hb : BO w { L[j]! with bv := nb, b := b' }) (hs : b'.size ≤ 262144) :
    DX (w.setCell ⟨g, j * 3 + 1, none⟩ (.slice nb.1 nb.2.1 nb.2.2)) p (some ⟨g, 0, none⟩) c (L.set j { L[j]! with bv := nb, b := b' }) q { s with fs := s.fs.set j (fl { L[j]! with bv := nb, b := b' }) } := by
  obtain ⟨g', cur, e, hh⟩ := h.block (by omega)
  injection e with e
  injection e with e
  subst e
  have u : Upd (fun k => k = g) w (w.setCell ⟨g, j * 3 + 1, none⟩ (.slice nb.1 nb.2.1 nb.2.2)) := Upd.put (M := fun k => k = g) (Upd.refl _ w) (p := ⟨g, j * 3 + 1, none⟩) (.inl rfl) _
  have hB : ∀ x, BO w x → BO (w.setCell ⟨g, j * 3 + 1, none⟩ (.slice nb.1 nb.2.1 nb.2.2)) x := fun x hx => hx.upd u fun g2 cur2 e2 k => by
    subst k
    rw [hh] at e2
    injection e2 with e2
    injection e2 with _ e2 _
    exact absurd e2 (by decide)
  have hf : s.fs.set j (fl { L[j]! with bv := nb, b := b' }) = (L.set j { L[j]! with bv := nb, b := b' }).map fl := by rw [h.f, List.map_set]
  have hp := h.path hj
  refine ⟨?_, ?_, fun x hx => ?_, hf, ?_⟩
  · rw [heap_setCell_other _ _ _ _ hpg, List.length_set]; exact h.o
  · have := h.l.setB hj nb b'
    rw [List.length_set]; exact this
  · rcases List.mem_or_eq_of_mem_set hx with k | k
    · exact hB x (h.b x k)
    · subst k; exact hB _ hb
  · refine ⟨by show (s.fs.set j _).length ≤ _; rw [List.length_set]; exact h.wf.n, fun f hm => ?_, fun f hm => ?_, h.wf.m0, h.wf.m1, h.wf.b0, h.wf.b1⟩
    · rcases List.mem_or_eq_of_mem_set hm with k | k
      · exact h.wf.b f k
      · subst k; exact hs
    · rcases List.mem_or_eq_of_mem_set hm with k | k
      · exact h.wf.p f k
      · subst k; exact hp
/-- The round's relation. -/
structure DcW (p : Nat) (a : Option Addr) (c : Nat) (L : List Fv) (q : Option Nat) (s : St) (K : Nat) (w : World) (j : Nat) (C : List Fv) (wr : World) : Prop where
  dx : DX wr p a c C q { s with fs := C.map fl }
  l : C.length = L.length
  e : C.map fl = ((L.take j).map fl).map (crF K) ++ (L.drop j).map fl
  u : Upd (fun k => ∃ o, a = some ⟨k, o, none⟩) w wr
  g : Gw w L C
theorem DcW.at {p : Nat} {a : Option Addr} {c : Nat} {L : List Fv} {q : Option Nat} {s : St} {K : Nat} {w : World} {j : Nat} {C : List Fv} {wr : World} (h : DcW p a c L q s K w j C wr) (hj : j < L.length) : fl C[j]! = fl L[j] := by
  have h9 := congrArg (fun l => l[j]?) h.e
  have hl : j < C.length := by rw [h.l]; exact hj
  simp only [List.getElem?_map] at h9
  rw [List.getElem?_append_right (by simp; omega), List.getElem?_eq_getElem hl] at h9
  simp only [List.length_map, List.length_take, List.getElem?_map, List.getElem?_drop] at h9
  rw [Nat.min_eq_left (by omega), Nat.sub_self, Nat.add_zero, List.getElem?_eq_getElem hj] at h9
  rw [getElem!_pos C j hl]
  simpa using h9
/-- A file that is synced stays. -/
theorem DcW.sure {p : Nat} {a : Option Addr} {c : Nat} {L : List Fv} {q : Option Nat} {s : St} {K : Nat} {w : World} {j : Nat} {C : List Fv} {wr : World} (h : DcW p a c L q s K w j C wr) (hj : j < L.length) (hs : L[j].sure = true) : DcW p a c L q s K w (j + 1) C wr := by
  refine ⟨h.dx, h.l, ?_, h.u, h.g⟩
  rw [h.e, ← List.take_append_getElem hj, List.map_append, List.map_append, List.append_assoc, List.drop_eq_getElem_cons hj]
  congr 1
  show fl L[j] :: _ = crF K (fl L[j]) :: _
  congr 1
  unfold crF
  rw [if_pos (show (fl L[j]).sure = true from hs)]
/-- One that is not loses its end. -/
theorem DcW.cut {p g : Nat} {c : Nat} {L : List Fv} {q : Option Nat} {s : St} {K : Nat} {w : World} {j : Nat} {C : List Fv} {wr W : World} (h : DcW p (some ⟨g, 0, none⟩) c L q s K w j C wr) (hj : j < L.length) (hs : L[j].sure = false) (hpg : p ≠ g) (nb : Option Addr × Nat × Nat) (b' : ByteArray) (hb : BO W { C[j]! with bv := nb, b := b' }) (hbe : b' = L[j].b.extract 0 (K % (L[j].b.size + 1))) (hW : Below wr.heap.size wr W) (hn : ∀ ad : Addr, nb.1 = some ad → wr.heap.size ≤ ad.block) :
    DcW p (some ⟨g, 0, none⟩) c L q s K w (j + 1) ((C.set j { C[j]! with bv := nb, b := b' }).set j { (C.set j { C[j]! with bv := nb, b := b' })[j]! with sure := true }) ((W.setCell ⟨g, j * 3 + 1, none⟩ (.slice nb.1 nb.2.1 nb.2.2)).setCell ⟨g, j * 3 + 2, none⟩ (.bool true)) := by
  have hl : j < C.length := by rw [h.l]; exact hj
  have hat := h.at hj
  have hsz : b'.size ≤ 262144 := by
    have h1 := (h.dx.data hl).1
    have h2 : C[j]!.b = L[j].b := congrArg Fl.b hat
    rw [h2] at h1
    subst hbe
    have := Nat.mod_lt K (show 0 < L[j].b.size + 1 by omega)
    rw [ext_size _ (by omega)]
    omega
  have d1 := (h.dx.keep hW).setB hl hpg nb b' hb hsz
  have hl1 : j < (C.set j { C[j]! with bv := nb, b := b' }).length := by rw [List.length_set]; exact hl
  have d2 := d1.sure hl1 hpg
  have hm : ((C.set j { C[j]! with bv := nb, b := b' }).set j { (C.set j { C[j]! with bv := nb, b := b' })[j]! with sure := true }).map fl = (C.map fl).set j (crF K (fl L[j])) := by
    rw [getElem!_pos (C.set j { C[j]! with bv := nb, b := b' }) j hl1, List.getElem_set_self, List.set_set, List.map_set]
    congr 1
    unfold crF
    rw [if_neg (by show ¬ L[j].sure = true; rw [hs]; decide)]
    have h3 : C[j]!.path = L[j].path := congrArg Fl.path hat
    show (⟨C[j]!.path, b', true⟩ : Fl) = ⟨L[j].path, L[j].b.extract 0 (K % (L[j].b.size + 1)), true⟩
    rw [h3, hbe]
  refine ⟨?_, by rw [List.length_set, List.length_set]; exact h.l, ?_, ?_, ?_⟩
  · have e : ∀ {s1 s2 : St}, s1.fs = s2.fs → s1.most = s2.most → s1.off = s2.off → s1.bad = s2.bad → s1 = s2 := fun {s1 s2} e1 e2 e3 e4 => by
      cases s1; cases s2; simp at *; exact ⟨e1, e2, e3, e4⟩
    have := d2.f
    rw [show ({ s with fs := ((C.set j { C[j]! with bv := nb, b := b' }).set j { (C.set j { C[j]! with bv := nb, b := b' })[j]! with sure := true }).map fl } : St) = _ from e (s2 := { s with fs := setSure ((C.map fl).set j (fl { C[j]! with bv := nb, b := b' })) j }) this.symm rfl rfl rfl]
    exact d2
  · rw [hm, h.e, List.set_append_right _ _ (by simp; omega)]
    have hlen : (((L.take j).map fl).map (crF K)).length = j := by simp; omega
    rw [hlen, Nat.sub_self, List.drop_eq_getElem_cons hj, ← List.take_append_getElem hj, List.map_append, List.map_append, List.append_assoc]
    rfl
  · exact ((h.u.after hW).put (p := ⟨g, j * 3 + 1, none⟩) (.inl ⟨0, rfl⟩) _).put (p := ⟨g, j * 3 + 2, none⟩) (.inl ⟨0, rfl⟩) _
  · intro u hu k ad e
    rcases List.mem_or_eq_of_mem_set hu with t | t
    · rcases List.mem_or_eq_of_mem_set t with t | t
      · exact h.g u t k ad e
      · subst t; exact .inl (Nat.le_trans h.u.size (hn ad e))
    · rw [getElem!_pos (C.set j { C[j]! with bv := nb, b := b' }) j hl1, List.getElem_set_self] at t
      subst t; exact .inl (Nat.le_trans h.u.size (hn ad e))
theorem DcW.end {p : Nat} {a : Option Addr} {c : Nat} {L : List Fv} {q : Option Nat} {s : St} {K : Nat} {w : World} {C : List Fv} {wr : World} (h : DcW p a c L q s K w L.length C wr) : C.map fl = (L.map fl).map (crF K) := by
  rw [h.e, List.take_length, List.drop_length]; simp
theorem own_open {w : World} {base n c : Nat} {a : Option Addr} {f : Nat → Nat} (h : Own w base (.slice a n c) n f) (hf : ∀ i, f i < 256) : Row w a n f ∧ n ≤ c ∧ (a = none → n = 0 ∧ c = 0) := by
  rcases h.2 with ⟨e1, e2⟩ | ⟨g, cap, cur, e1, _, _, hnc, _⟩
  · have e2 : n = 0 := e2
    subst e2
    injection e1 with e1 _ e3
    exact ⟨Row.zero _ _ hf, Nat.zero_le _, fun _ => ⟨rfl, e3⟩⟩
  · injection e1 with e1 _ e3
    subst e1; subst e3
    refine ⟨?_, hnc, fun e => by cases e⟩
    by_cases k : 1 ≤ n
    · obtain ⟨a', c', e, hr⟩ := h.row k hf
      injection e with e1 _ e3
      rw [e1]
      exact hr.2.2.2
    · have : n = 0 := by omega
      subst this
      exact Row.zero _ _ hf
theorem cut_h2 {a : Option Addr} {n c : Nat} {f : Nat → Nat} {w : World} (h : Row w a n f) (m : Nat) (hm : m ≤ n) (hc : n ≤ c) :
    ∃ A, (∀ w', Sem.run Try.prog (Instr.slice 29 (.slice a n c) none (some (.int .i64 (m : Int))) none) w' = .ok (.slice A m c) w') ∧ Row w A m f ∧ (A = none → a = none) := by
  refine ⟨if c = 0 then a else a.map (·.add (0 * 1)), ?_, ?_, ?_⟩
  · intro w'
    rw [run_slice_h w' 29 a n c Try.underlying29 .i64 (m : Int) (by omega) (by omega)]
    have e : (sizeOf (Try.prog.elem 29)).run Try.prog w' = .ok 1 w' := by kernel_rfl
    rw [e]
    show Result.ok (sliced a _ _ c 1) w' = _
    unfold sliced
    rw [show ((m : Int)).toNat = m by omega, Nat.sub_zero, Nat.sub_zero]
  · rcases cut_row (c := c) h 0 m (by omega) with r | e
    · simpa using r
    · rw [if_pos e, show m = 0 by omega]
      exact Row.zero _ _ h.lt
  · intro e
    split at e
    · exact e
    · cases a with
      | none => rfl
      | some _ => cases e
set_option maxHeartbeats 8000000 in
theorem dcrash_any (p : Nat) (a : Option Addr) (c : Nat) (L : List Fv) (q : Option Nat) (s : St) (z : Option Fz) (k : Int) (w : World) (h : DX w p a c L q s) (hz : Zs w q z) (hk0 : -9223372036854775808 ≤ k) (hk1 : k ≤ 9223372036854775807) :
    Calls Try.prog 48 #[.pointer (some ⟨p, 0, none⟩), .int .i64 k] w fun e w' => e = .returned (.tuple #[]) ∧ ∃ a' c' L', DX w' p a' c' L' q { s with fs := crashS k s.fs } ∧ Zs w' q z ∧ Upd (Mg p q a) w w' ∧ (a' = a ∨ ∀ x, a' = some x → w.heap.size ≤ x.block) ∧ Gw w L L' := by
  obtain ⟨K, hK⟩ : ∃ K : Nat, (max k 0).toNat = K := ⟨_, rfl⟩
  have hKK : (if 0 < k then k else 0) = (K : Int) := by split <;> omega
  have hKM : max k 0 = (K : Int) := by omega
  have hKL : K ≤ 9223372036854775807 := by omega
  have HTG : Hid (∀ g cur, w.heap[g]? = some (.cells cur 95 (0, 0)) → ∀ k, q = some k → ¬ k = g) := fun g cur hg k hk e => by
    subst hk; subst e
    obtain ⟨cs, hz⟩ := hz.type
    rw [hg] at hz
    injection hz with hz
    injection hz with _ hz _
    exact absurd hz (by decide)
  have HT : Hid (∀ C wr, DcW p a c L q s K w L.length C wr → ∃ a' c' L', DX wr p a' c' L' q { s with fs := crashS k s.fs } ∧ Zs wr q z ∧ Upd (Mg p q a) w wr ∧ (a' = a ∨ ∀ x, a' = some x → w.heap.size ≤ x.block) ∧ Gw w L L') := fun C wr t => by
    refine ⟨a, c, C, ?_, hz.beside t.u (fun k hk e => ?_), t.u.mono fun k _ e => .inr (.inr e), .inl rfl, t.g⟩
    · have := t.dx
      rw [t.end] at this
      unfold crashS
      rw [hK, h.f]
      exact this
    · obtain ⟨o, e⟩ := e
      subst e
      rcases h.l with ⟨_, ⟨e1, _⟩ | ⟨g', cap, cur, e1, _, hh, _⟩⟩
      · cases e1
      · injection e1 with e1 _ _
        injection e1 with e1
        injection e1 with e1
        exact HTG.out g' cur hh k hk e1
  generalize hPP : (fun wr => ∃ a' c' L', DX wr p a' c' L' q { s with fs := crashS k s.fs } ∧ Zs wr q z ∧ Upd (Mg p q a) w wr ∧ (a' = a ∨ ∀ x, a' = some x → w.heap.size ≤ x.block) ∧ Gw w L L') = PP at *
  have HT : Hid (∀ C wr, DcW p a c L q s K w L.length C wr → PP wr) := fun C wr t => by rw [← hPP]; exact HT.out C wr t
  have hgoal : (fun (e : Ending) (w' : World) => e = .returned (.tuple #[]) ∧ ∃ a' c' L', DX w' p a' c' L' q { s with fs := crashS k s.fs } ∧ Zs w' q z ∧ Upd (Mg p q a) w w' ∧ (a' = a ∨ ∀ x, a' = some x → w.heap.size ≤ x.block) ∧ Gw w L L') = fun e w' => e = .returned (.tuple #[]) ∧ PP w' := by rw [← hPP]
  rw [hgoal]
  have H0 : Hid (DcW p a c L q s K w 0 L w) := by
    refine ⟨?_, rfl, by simp, Upd.refl _ _, Gw.refl _ _⟩
    rw [← h.f]; exact h
  have hln := h.n
  clear h hz hK hPP hgoal
  go_enter Try.func48, Try.ntmps48
  go_wp2_with fail
  go_loopw [4] (fun i wr => ∃ (j : Nat) (C : List Fv), j ≤ L.length ∧ i = .int .i64 j ∧ DcW p a c L q s K w j C wr) (fun i _ => L.length - (intOf i).toNat)
  case atStart => exact ⟨0, L, by omega, rfl, H0.out⟩
  case round =>
    obtain ⟨j, C, hj, rfl, hW⟩ := hrel
    have HW : Hid (DcW p a c L q s K w j C wr) := hW
    have c0 := hW.dx.c0
    rw [hW.l] at c0
    by_cases hlt : j < L.length
    · have ij : (j : Int) < (L.length : Int) := by omega
      have hcl : j < C.length := by rw [hW.l]; exact hlt
      obtain ⟨g, cur, rfl, hg⟩ := hW.dx.block (by omega)
      have hpg : p ≠ g := fun e => by
        subst e
        have := hW.dx.o
        rw [hg] at this
        injection this with this
        injection this with _ this _
        exact absurd this (by decide)
      have HPG : Hid (p ≠ g) := hpg
      obtain ⟨hf, _, hlc, _⟩ := hW.dx.rows
      obtain ⟨b', o', eo, hA⟩ := hf (by omega)
      cases eo
      have k1 := (hA j hcl).c1
      have k2 := (hA j hcl).c2
      have hat := hW.at hlt
      have hdt := hW.dx.data hcl
      have fg : ∀ i, wr.frozen? ⟨g, i, none⟩ = false := fun i => frozen_of_row wr g i _ _ hg
      rw [Nat.zero_add] at k1 k2
      have hs1 : C[j]!.sure = L[j].sure := congrArg Fl.sure hat
      have hb1 : C[j]!.b = L[j].b := congrArg Fl.b hat
      have HHG : Hid (∃ cur, wr.heap[g]? = some (.cells cur 95 (0, 0))) := ⟨_, hg⟩
      cases hsu : L[j].sure with
      | true =>
        rw [hs1, hsu] at k2
        have HN : Hid (DcW p (some ⟨g, 0, none⟩) c L q s K w (j + 1) C wr) := hW.sure hlt hsu
        clear hW hg hpg hf hA hlc hat hdt hs1 hb1 hsu hcl k1 fg
        go_wp2
        go_round
        case rel => exact ⟨j + 1, C, by omega, by go_num, HN.out⟩
        case measure => simp [intOf]; omega
      | false =>
        rw [hs1, hsu] at k2
        obtain ⟨y0, hy0⟩ : ∃ y0, C[j]! = y0 := ⟨_, rfl⟩
        rw [hy0] at k1 hdt hb1
        have HY0 : Hid (C[j]! = y0) := hy0
        obtain ⟨yp, ⟨ya, yn, yc⟩, ys, yb⟩ := y0
        dsimp only at k1 hdt hb1
        obtain ⟨hyb, hyn, f, hf8, hown, hstr⟩ := hdt
        dsimp only at hyn hown hstr hyb
        have hyn' : yb.size = yn := hyn.symm
        rw [hyn'] at hyb hown hstr
        obtain ⟨l, hl⟩ : ∃ l, K % (yn + 1) = l := ⟨_, rfl⟩
        have hlt2 : l ≤ yn := by have := Nat.mod_lt K (show 0 < yn + 1 by omega); omega
        have wn : IntKind.i64.wrap ((yn : Int) + 1) = (yn : Int) + 1 := by rw [IntKind.wrap_i64]; omega
        have tm : (K : Int).tmod ((yn : Int) + 1) = (l : Int) := by
          rw [← hl]
          show (K : Int).tmod (((yn + 1 : Nat) : Int)) = _
          rw [Int.ofNat_tmod]
        obtain ⟨hrow, hync, hyz⟩ := own_open hown hf8
        obtain ⟨A, sA0, rA, zA⟩ := cut_h2 hrow l hlt2 hync
        obtain ⟨v9, W9, r1, r2, r3⟩ := appendA (c := yc) (Own.start wr.drew wr.heap.size (fun _ => 0)) (rA.keep (Below.refl _ _).drew) (fun e => by have := hyz (zA e); exact ⟨by omega, this.2⟩) (by omega) (Nat.le_refl _)
        rw [Nat.zero_add] at r2
        obtain ⟨a9, c9, ev⟩ : ∃ a9 c9, v9 = .slice a9 l c9 := by
          rcases r2.2 with ⟨e1, e2⟩ | ⟨g, cap, cur, e1, _⟩
          · exact ⟨none, 0, by rw [e1, show l = 0 from e2]⟩
          · exact ⟨_, _, e1⟩
        subst ev
        have hnew : ∀ ad : Addr, a9 = some ad → wr.heap.size ≤ ad.block := fun ad e => by
          subst e
          rcases r2.2 with ⟨e1, _⟩ | ⟨g, cap, cur, e1, hg, _⟩
          · injection e1 with e1 _ _
            cases e1
          · injection e1 with e1 _ _
            injection e1 with e1
            subst e1
            exact hg
        have b9 : Below wr.heap.size wr W9 := (Below.refl _ _).drew.trans r3
        have hx : str f l = yb.extract 0 l := by rw [← hstr, str_ext f hlt2]
        have hsz : (yb.extract 0 l).size = l := ext_size _ (by omega)
        have hbo : BO W9 { C[j]! with bv := (a9, l, c9), b := yb.extract 0 l } := by
          refine ⟨hsz.symm, cat 0 (fun _ => 0) f, fun i => ?_, ?_, ?_⟩
          · unfold cat; split; exact (by decide : (0 : Nat) < 256); exact hf8 _
          · show Own W9 0 (.slice a9 l c9) (yb.extract 0 l).size _
            rw [hsz]
            exact own_mono r2 (Nat.zero_le _)
          · show str _ (yb.extract 0 l).size = yb.extract 0 l
            rw [hsz, ← hx]
            exact str_congr fun i _ => by unfold cat; rw [if_neg (by omega), Nat.sub_zero]
        have HN : Hid (DcW p (some ⟨g, 0, none⟩) c L q s K w (j + 1) ((C.set j { C[j]! with bv := (a9, l, c9), b := yb.extract 0 l }).set j { (C.set j { C[j]! with bv := (a9, l, c9), b := yb.extract 0 l })[j]! with sure := true }) ((W9.setCell ⟨g, j * 3 + 1, none⟩ (.slice a9 l c9)).setCell ⟨g, j * 3 + 2, none⟩ (.bool true))) :=
          HW.out.cut hlt hsu HPG.out (a9, l, c9) (yb.extract 0 l) hbo (by rw [← hb1, hyn', hl]) b9 hnew
        have HR : Hid (Sem.run Try.prog (Builtin.append_ #[29, 29] 29 #[.slice none 0 0, .slice A l yc]) wr.drew = .ok (.slice a9 l c9) W9) := r1
        have sE : Hid (wr.drew.cell? ⟨p, 0, none⟩ = some (.slice (some ⟨g, 0, none⟩) L.length c) ∧ wr.drew.cell? ⟨g, j * 3 + 1, none⟩ = some (.slice ya yn yc)) := ⟨c0, k1⟩
        have sA : Hid (W9.cell? ⟨p, 0, none⟩ = some (.slice (some ⟨g, 0, none⟩) L.length c) ∧ W9.cell? ⟨g, j * 3 + 1, none⟩ = some (.slice ya yn yc)) := ⟨(b9.cell (p := ⟨p, 0, none⟩) (block_lt_of_cell c0)).trans c0, (b9.cell (p := ⟨g, j * 3 + 1, none⟩) (block_lt_of_cell k1)).trans k1⟩
        have fA : Hid (W9.frozen? ⟨g, j * 3 + 1, none⟩ = false) := frozen_of_row W9 g (j * 3 + 1) _ _ ((b9.block g (Array.getElem?_eq_some_iff.1 hg).1).trans hg)
        have XF : Hid ((W9.setCell ⟨g, j * 3 + 1, none⟩ (.slice a9 l c9)).cell? ⟨p, 0, none⟩ = some (.slice (some ⟨g, 0, none⟩) L.length c) ∧ (W9.setCell ⟨g, j * 3 + 1, none⟩ (.slice a9 l c9)).cell? ⟨g, j * 3 + 2, none⟩ = some (.bool false) ∧ ∀ i, (W9.setCell ⟨g, j * 3 + 1, none⟩ (.slice a9 l c9)).frozen? ⟨g, i, none⟩ = false) := by
          refine ⟨?_, ?_, fun i => ?_⟩
          · rw [World.cell?_setCell_other _ _ _ _ (fun e => HPG.out (by injection e with e _ _; exact e.symm))]; exact sA.out.1
          · rw [World.cell?_setCell_other _ _ _ _ (fun e => by injection e with _ e _; omega)]; exact (b9.cell (p := ⟨g, j * 3 + 2, none⟩) (block_lt_of_cell k2)).trans k2
          · rw [World.frozen?_setCell]; exact frozen_of_row W9 g i _ _ ((b9.block g (Array.getElem?_eq_some_iff.1 hg).1).trans hg)
        clear hW hg hpg hf hA hlc hat hs1 hb1 hsu hcl hy0 HY0 hyb hyn hyn' hown hstr hl hrow hyz rA zA r1 r2 r3 hnew b9 hx hsz hbo fg HHG hf8 hync
        go_wp2_with fail
        refine region_L (fun Y => Y.cell? ⟨p, 0, none⟩ = some (.slice (some ⟨g, 0, none⟩) L.length c) ∧ Y.cell? ⟨g, j * 3 + 1, none⟩ = some (.slice ya yn yc)) 18 (by kernel_rfl) sE.out (fun hHeld => ?_)
        refine anyL_take 0 (oi := ?o101) (v := ?v101) ?hi101 (by kernel_rfl) (by kernel_rfl) (by kernel_rfl) (by kernel_rfl) ?hQ101 ?hy101 hHeld ?_
        case hi101 => (simp only [List.getElem?_toArray, List.getElem?_cons_zero]; rfl)
        case hQ101 => exact fun _ _ _ h => h
        case hy101 => (refine Or.inl ⟨by rfl, ?_⟩; intro w hSw; (try dsimp only at hSw); go_simp <;> with_reducible rfl)
        try simp only [Act.put, List.setIfInBounds_toArray, List.set_cons_zero, List.set_cons_succ]
        refine anyL_take 1 (oi := ?o102) (v := ?v102) ?hi102 (by kernel_rfl) (by kernel_rfl) (by kernel_rfl) (by kernel_rfl) ?hQ102 ?hy102 hHeld ?_
        case hi102 => (simp only [List.getElem?_toArray, List.getElem?_cons_zero, List.getElem?_cons_succ]; rfl)
        case hQ102 => exact fun _ _ _ h => h
        case hy102 => (refine Or.inl ⟨by rfl, ?_⟩; intro w hSw; (try dsimp only at hSw); go_simp <;> with_reducible rfl)
        try simp only [Act.put, List.setIfInBounds_toArray, List.set_cons_zero, List.set_cons_succ]
        refine anyL_take 2 (oi := ?o103) (v := ?v103) ?hi103 (by kernel_rfl) (by kernel_rfl) (by kernel_rfl) (by kernel_rfl) ?hQ103 ?hy103 hHeld ?_
        case hi103 => (simp only [List.getElem?_toArray, List.getElem?_cons_zero, List.getElem?_cons_succ]; rfl)
        case hQ103 => exact fun _ _ _ h => h
        case hy103 => (refine Or.inl ⟨by rfl, ?_⟩; intro w hSw; (try dsimp only at hSw); go_simp <;> with_reducible rfl)
        try simp only [Act.put, List.setIfInBounds_toArray, List.set_cons_zero, List.set_cons_succ]
        refine anyL_take 3 (oi := ?o104) (v := ?v104) ?hi104 (by kernel_rfl) (by kernel_rfl) (by kernel_rfl) (by kernel_rfl) ?hQ104 ?hy104 hHeld ?_
        case hi104 => (simp only [List.getElem?_toArray, List.getElem?_cons_zero, List.getElem?_cons_succ]; rfl)
        case hQ104 => exact fun _ _ _ h => h
        case hy104 => (refine Or.inl ⟨by rfl, ?_⟩; intro w hSw; (try dsimp only at hSw); go_simp <;> with_reducible rfl)
        try simp only [Act.put, List.setIfInBounds_toArray, List.set_cons_zero, List.set_cons_succ]
        refine anyL_take 4 (oi := ?o105) (v := ?v105) ?hi105 (by kernel_rfl) (by kernel_rfl) (by kernel_rfl) (by kernel_rfl) ?hQ105 ?hy105 hHeld ?_
        case hi105 => (simp only [List.getElem?_toArray, List.getElem?_cons_zero, List.getElem?_cons_succ]; rfl)
        case hQ105 => exact fun _ _ _ h => h
        case hy105 => (refine Or.inl ⟨by rfl, ?_⟩; intro w hSw; (try dsimp only at hSw); go_simp <;> with_reducible rfl)
        try simp only [Act.put, List.setIfInBounds_toArray, List.set_cons_zero, List.set_cons_succ]
        refine anyL_take 5 (oi := ?o106) (v := ?v106) ?hi106 (by kernel_rfl) (by kernel_rfl) (by kernel_rfl) (by kernel_rfl) ?hQ106 ?hy106 hHeld ?_
        case hi106 => (simp only [List.getElem?_toArray, List.getElem?_cons_zero, List.getElem?_cons_succ]; rfl)
        case hQ106 => exact fun _ _ _ h => h
        case hy106 => (refine Or.inl ⟨by rfl, ?_⟩; intro w hSw; (try dsimp only at hSw); go_simp <;> with_reducible rfl)
        try simp only [Act.put, List.setIfInBounds_toArray, List.set_cons_zero, List.set_cons_succ]
        refine anyL_take 6 (oi := ?o107) (v := ?v107) ?hi107 (by kernel_rfl) (by kernel_rfl) (by kernel_rfl) (by kernel_rfl) ?hQ107 ?hy107 hHeld ?_
        case hi107 => (simp only [List.getElem?_toArray, List.getElem?_cons_zero, List.getElem?_cons_succ]; rfl)
        case hQ107 => exact fun _ _ _ h => h
        case hy107 => (refine Or.inl ⟨by rfl, ?_⟩; intro w hSw; (try dsimp only at hSw); go_simp <;> with_reducible rfl)
        try simp only [Act.put, List.setIfInBounds_toArray, List.set_cons_zero, List.set_cons_succ]
        refine anyL_take 7 (oi := ?o108) (v := ?v108) ?hi108 (by kernel_rfl) (by kernel_rfl) (by kernel_rfl) (by kernel_rfl) ?hQ108 ?hy108 hHeld ?_
        case hi108 => (simp only [List.getElem?_toArray, List.getElem?_cons_zero, List.getElem?_cons_succ]; rfl)
        case hQ108 => exact fun _ _ _ h => h
        case hy108 => (refine Or.inl ⟨by rfl, ?_⟩; intro w hSw; (try dsimp only at hSw); go_simp <;> with_reducible rfl)
        try simp only [Act.put, List.setIfInBounds_toArray, List.set_cons_zero, List.set_cons_succ]
        refine anyL_take 8 (oi := ?o109) (v := ?v109) ?hi109 (by kernel_rfl) (by kernel_rfl) (by kernel_rfl) (by kernel_rfl) ?hQ109 ?hy109 hHeld ?_
        case hi109 => (simp only [List.getElem?_toArray, List.getElem?_cons_zero, List.getElem?_cons_succ]; rfl)
        case hQ109 => exact fun _ _ _ h => h
        case hy109 => (refine Or.inl ⟨by rfl, ?_⟩; intro w hSw; (try dsimp only at hSw); go_simp <;> with_reducible rfl)
        try simp only [Act.put, List.setIfInBounds_toArray, List.set_cons_zero, List.set_cons_succ]
        refine anyL_take 9 (oi := ?o110) (v := ?v110) ?hi110 (by kernel_rfl) (by kernel_rfl) (by kernel_rfl) (by kernel_rfl) ?hQ110 ?hy110 hHeld ?_
        case hi110 => (simp only [List.getElem?_toArray, List.getElem?_cons_zero, List.getElem?_cons_succ]; rfl)
        case hQ110 => exact fun _ _ _ h => h
        case hy110 => (refine Or.inl ⟨by rfl, ?_⟩; intro w hSw; (try dsimp only at hSw); go_simp <;> with_reducible rfl)
        try simp only [Act.put, List.setIfInBounds_toArray, List.set_cons_zero, List.set_cons_succ]
        refine anyL_take 10 (oi := ?o111) (v := ?v111) ?hi111 (by kernel_rfl) (by kernel_rfl) (by kernel_rfl) (by kernel_rfl) ?hQ111 ?hy111 hHeld ?_
        case hi111 => (simp only [List.getElem?_toArray, List.getElem?_cons_zero, List.getElem?_cons_succ]; rfl)
        case hQ111 => exact fun _ _ _ h => h
        case hy111 => (refine Or.inl ⟨by rfl, ?_⟩; intro w hSw; (try dsimp only at hSw); go_simp <;> with_reducible rfl)
        try simp only [Act.put, List.setIfInBounds_toArray, List.set_cons_zero, List.set_cons_succ]
        refine anyL_take 11 (oi := ?o112) (v := ?v112) ?hi112 (by kernel_rfl) (by kernel_rfl) (by kernel_rfl) (by kernel_rfl) ?hQ112 ?hy112 hHeld ?_
        case hi112 => (simp only [List.getElem?_toArray, List.getElem?_cons_zero, List.getElem?_cons_succ]; rfl)
        case hQ112 => exact fun _ _ _ h => h
        case hy112 => (refine Or.inl ⟨by rfl, ?_⟩; intro w hSw; (try dsimp only at hSw); go_simp <;> with_reducible rfl)
        try simp only [Act.put, List.setIfInBounds_toArray, List.set_cons_zero, List.set_cons_succ]
        refine anyL_take 12 (oi := ?o113) (v := ?v113) ?hi113 (by kernel_rfl) (by kernel_rfl) (by kernel_rfl) (by kernel_rfl) ?hQ113 ?hy113 hHeld ?_
        case hi113 => (simp only [List.getElem?_toArray, List.getElem?_cons_zero, List.getElem?_cons_succ]; rfl)
        case hQ113 => exact fun _ _ _ h => h
        case hy113 => (refine Or.inl ⟨by rfl, ?_⟩; intro w hSw; (try dsimp only at hSw); go_simp <;> with_reducible rfl)
        try simp only [Act.put, List.setIfInBounds_toArray, List.set_cons_zero, List.set_cons_succ]
        refine anyL_take 13 (oi := ?o114) (v := ?v114) ?hi114 (by kernel_rfl) (by kernel_rfl) (by kernel_rfl) (by kernel_rfl) ?hQ114 ?hy114 hHeld ?_
        case hi114 => (simp only [List.getElem?_toArray, List.getElem?_cons_zero, List.getElem?_cons_succ]; rfl)
        case hQ114 => exact fun _ _ _ h => h
        case hy114 => (refine Or.inl ⟨by rfl, ?_⟩; intro w hSw; (try dsimp only at hSw); go_simp <;> with_reducible rfl)
        try simp only [Act.put, List.setIfInBounds_toArray, List.set_cons_zero, List.set_cons_succ]
        refine anyL_take 14 (oi := ?o115) (v := ?v115) ?hi115 (by kernel_rfl) (by kernel_rfl) (by kernel_rfl) (by kernel_rfl) ?hQ115 ?hy115 hHeld ?_
        case hi115 => (simp only [List.getElem?_toArray, List.getElem?_cons_zero, List.getElem?_cons_succ]; rfl)
        case hQ115 => exact fun _ _ _ h => h
        case hy115 => (refine Or.inl ⟨by rfl, ?_⟩; intro w hSw; (try dsimp only at hSw); go_simp <;> with_reducible rfl)
        try simp only [Act.put, List.setIfInBounds_toArray, List.set_cons_zero, List.set_cons_succ]
        clear hHeld
        refine anyL_one 15 (o := ?o116) ?hi116 (by kernel_rfl) (fun K hK => ?_)
        case hi116 => (simp only [List.getElem?_toArray, List.getElem?_cons_zero, List.getElem?_cons_succ]; rfl)
        refine step_append_ran (by rfl) _ _ 29 (by rfl) (.slice none 0 0) (.slice A l yc) (.slice a9 l c9) W9 (by rfl) (by rfl) (by dsimp only; with_reducible exact HR.out) ?_
        refine hK.out _ _ sA.out ?_
        clear hK
        try simp only [Act.put, List.setIfInBounds_toArray, List.set_cons_zero, List.set_cons_succ]
        refine anyL_one 16 (o := ?o117) ?hi117 (by kernel_rfl) (fun K hK => ?_)
        case hi117 => (simp only [List.getElem?_toArray, List.getElem?_cons_zero, List.getElem?_cons_succ]; rfl)
        go_simp
        refine hK.out _ _ sA.out ?_
        clear hK
        try simp only [Act.put, List.setIfInBounds_toArray, List.set_cons_zero, List.set_cons_succ]
        refine anyL_one 17 (o := ?o118) ?hi118 (by kernel_rfl) (fun K hK => ?_)
        case hi118 => (simp only [List.getElem?_toArray, List.getElem?_cons_zero, List.getElem?_cons_succ]; rfl)
        go_simp
        refine hK.out _ _ sA.out ?_
        clear hK
        try simp only [Act.put, List.setIfInBounds_toArray, List.set_cons_zero, List.set_cons_succ]
        refine anyL_last (o := ?o119) ?hi119 (by kernel_rfl) (fun K hK => ?_)
        case hi119 => (simp only [List.getElem?_toArray, List.getElem?_cons_zero, List.getElem?_cons_succ]; rfl)
        have hst := sA.out.2
        have hfr := fA.out
        go_simp
        refine hK.out _ _ ?_
        clear hK
        refine anyL_done (by kernel_rfl) ?_ _
        generalize W9.setCell ⟨g, j * 3 + 1, none⟩ (.slice a9 l c9) = X at *
        obtain ⟨x0, x1, x2⟩ := XF.out
        clear XF sA sE fA HR c0 k1 k2
        go_wp2
        go_round
        case rel => exact ⟨j + 1, _, by omega, by go_num, HN.out⟩
        case measure => simp [intOf]; omega
    · have hjn : j = L.length := by omega
      subst hjn
      have ij : decide ((L.length : Int) < (L.length : Int)) = false := by simp
      have HF : Hid (PP wr) := HT.out C wr HW.out
      clear hlt hW
      go_wp2
      exact bodyPost_end (v := .tuple #[]) (by simp [results, Try.results48, go_sem]) rfl ⟨rfl, HF.out⟩
end Go.Proofs.Ythkhkijdehbbmaa
