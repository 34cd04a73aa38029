/-
  Rename of the program's disk.
-/
import Derived.Test.YthkhkijdehbbmaaSmK
set_option maxRecDepth 100000
namespace Go.Proofs.Ythkhkijdehbbmaa
open Go.RowKit
open _root_.Go.Proofs.Ythkhkijdehbbmaa.Nm _root_.Go.Proofs.Ythkhkijdehbbmaa.Dk
attribute [local go_sem ↓] Go.wp_at_zero Go.wp_at_succ
set_option linter.unusedVariables false

def fileAt (x : ByteArray) (l : List Fl) : Fl := match l[place x l]? with
  | some f => f
  | none => ⟨⟨#[]⟩, ⟨#[]⟩, false⟩
def renS (l : List Fl) (x y : ByteArray) : List Fl := Dk.put (Dk.cut l (place x l)) { fileAt x l with path := y }
/-- What Rename answers, and leaves. -/
def renZ (z : Option Fz) (s : St) (x y : ByteArray) : Int × St :=
  if (askZ z s [x, y]).1 ≠ 0 then ((askZ z s [x, y]).1, (askZ z s [x, y]).2.2) else if there x s.fs = true then (0, { (askZ z s [x, y]).2.2 with fs := renS s.fs x y }) else (6, (askZ z s [x, y]).2.2)
theorem Part.fileAt {V A M B : List Fv} {x : ByteArray} (h : Part V x A M B) (t : there x (V.map fl) = true) : Go.Proofs.Ythkhkijdehbbmaa.fileAt x (V.map fl) = fl (top M) := by
  obtain ⟨e, _, _⟩ := top_mem h t
  unfold Go.Proofs.Ythkhkijdehbbmaa.fileAt
  rw [← h.l, h.v, e]
  simp
  rfl
theorem strs2 (w : World) (x y : ByteArray) : Strs (w.alloc (.cells #[.string x, .string y] 9)) (some ⟨w.heap.size, 0, none⟩) [x, y] := fun _ => ⟨w.heap.size, 0, rfl, fun i hi => by
  have : i = 0 ∨ i = 1 := by have : i < 2 := hi; omega
  rcases this with rfl | rfl
  · simp
  · simp⟩
theorem askZ_ok2 {z : Option Fz} {s : St} {x y : ByteArray} (h : (askZ z s [x, y]).1 = 0) : x.size ≤ 600 ∧ y.size ≤ 600 := by
  have hD : ∀ s, (askD s [x, y]).1 = 0 → okPath x = true ∧ okPath y = true := fun s h => by
    unfold askD at h
    split at h
    · cases h
    · split at h
      · cases h
      · split at h
        · next e => simpa using e
        · cases h
  have : okPath x = true ∧ okPath y = true := by
    cases z with
    | none => exact hD s h
    | some z =>
      unfold askZ at h
      dsimp only at h
      split at h
      · cases h
      · exact hD s h
  exact ⟨(okPath_iff.1 this.1).2, (okPath_iff.1 this.2).2⟩
set_option maxHeartbeats 8000000 in
theorem prename_any (p m : Nat) (V : List Fv) (q : Option Nat) (s : St) (F : Int) (z : Option Fz) (x y : ByteArray) (w : World) (h : PX w p m V q s F) (hz : FZ w q z) (hb : Zb z) (hx : x.size ≤ maxLen) (hy : y.size ≤ maxLen) :
    Calls Try.prog 13 #[.pointer (some ⟨p, 0, none⟩), .string x, .string y] w (POp p m V q (renZ z s x y).1 (renZ z s x y).2 (askZ z s [x, y]).2.1 w) := by
  obtain ⟨A, M, B, P⟩ := part_at h.r x
  obtain ⟨W, hW⟩ : ∃ W, w.alloc (.cells #[.string x, .string y] 9) = W := ⟨_, rfl⟩
  have bW : Below w.heap.size w W := by rw [← hW]; exact bal _ _
  have hS : Strs W (some ⟨w.heap.size, 0, none⟩) [x, y] := by rw [← hW]; exact strs2 w x y
  have cA := pask_any p m V q s F z (some ⟨w.heap.size, 0, none⟩) 2 [x, y] W (h.keep bW) (hz.keep bW) hb hS (by show 2 ≤ 1000; omega)
  have hs := h.f
  have hfs : (askZ z s [x, y]).2.2.fs = s.fs := askZ_fs z s [x, y]
  obtain ⟨WZ, hWZ⟩ : ∃ u, renZ z s x y = u := ⟨_, rfl⟩
  have hdef := hWZ
  unfold renZ at hdef
  have hok := fun k => askZ_ok2 (z := z) (s := s) (x := x) (y := y) k
  rw [hWZ]
  obtain ⟨e0, he0⟩ : ∃ e0, (askZ z s [x, y]).1 = e0 := ⟨_, rfl⟩
  obtain ⟨s1, hs1⟩ : ∃ s1, (askZ z s [x, y]).2.2 = s1 := ⟨_, rfl⟩
  obtain ⟨z1, hz1⟩ : ∃ z1, (askZ z s [x, y]).2.1 = z1 := ⟨_, rfl⟩
  rw [he0, hs1, hz1] at cA
  rw [he0, hs1] at hdef
  rw [hs1] at hfs
  rw [he0] at hok
  rw [hz1]
  have HP : Hid (Part V x A M B) := P
  have HT0 : Hid (∀ d w' F', WZ = (d, s1) → PX w' p m V q s1 F' → FZ w' q z1 → Upd (Mk p q) w w' → POp p m V q WZ.1 WZ.2 z1 w (.returned (.int .i64 d)) w') := fun d w' F' h0 h1 h2 h3 => by subst h0; exact ⟨rfl, V, F', h1, h2, h3.mono fun k _ e => mk_ms e, Gw.sub fun y hy => hy⟩
  have HT1 : Hid (∀ w' F' V', WZ = (0, { s1 with fs := V'.map fl }) → PX w' p m V' q { s1 with fs := V'.map fl } F' → FZ w' q z1 → Upd (Ms p m q) w w' → Gw w V V' → POp p m V q WZ.1 WZ.2 z1 w (.returned (.int .i64 0)) w') := fun w' F' V' h0 h1 h2 h3 h4 => by subst h0; exact ⟨rfl, V', F', h1, h2, h3, h4⟩
  generalize hPP : POp p m V q WZ.1 WZ.2 z1 w = PP at *
  have HDF : Hid ((if e0 ≠ 0 then (e0, s1) else if there x s.fs = true then (0, { s1 with fs := renS s.fs x y }) else (6, s1)) = WZ) := hdef
  have HFS : Hid (s1.fs = s.fs ∧ s.fs = V.map fl) := ⟨hfs, hs⟩
  have HOK : Hid (e0 = 0 → x.size ≤ 600 ∧ y.size ≤ 600) := hok
  have HX : Hid (x.size ≤ maxLen) := hx
  have HBW : Hid (Below w.heap.size w W) := bW
  have cA1 : Calls Try.prog 32 #[.pointer (some ⟨p, 0, none⟩), .slice (some ⟨w.heap.size, 0, none⟩) 2 2] W (PAsk p m V q e0 s1 z1 W) := cA
  clear h hz hb hx hy P bW hS cA hs hfs hWZ hdef hok he0 hs1 hz1 hPP
  go_enter Try.func13, Try.ntmps13
  go_wp2_with fail
  go_at_call 32
  refine cA1.mono ?_
  rintro e w1 ⟨rfl, F1, h1, hz1, u1⟩
  have HD1 : Hid (PX w1 p m V q s1 F1) := h1
  have HZ1 : Hid (FZ w1 q z1) := hz1
  have HU1 : Hid (Upd (Mk p q) w w1) := (Upd.of HBW.out).trans u1
  clear cA1 hz1 u1 hW
  by_cases k0 : e0 = 0
  · subst k0
    have lk := (h1.look HP.out HX.out).1
    have d0 := h1.c0
    obtain ⟨⟨ta, tn, tc⟩, htv⟩ : ∃ y : Option Addr × Nat × Nat, (top M).bv = y := ⟨_, rfl⟩
    obtain ⟨ts, hts'⟩ : ∃ ts, (top M).sure = ts := ⟨_, rfl⟩
    have htl : vl (top M) = .agg #[.slice ta tn tc, .bool ts] := by unfold vl; rw [htv, hts']
    rw [htl] at lk
    obtain ⟨w2, hw2⟩ : ∃ w2, w1.alloc (.cells #[.slice ta tn tc, .bool ts] 74) = w2 := ⟨_, rfl⟩
    have b2 : Below w1.heap.size w1 w2 := by rw [← hw2]; exact bal _ _
    have HB2 : Hid (Below w1.heap.size w1 w2) := b2
    cases ht : there x s1.fs with
    | false =>
      rw [ht] at lk
      have HE : Hid (WZ = (6, s1)) := by unfold Hid; rw [← HDF.out, if_neg (fun k => k rfl), if_neg (by rw [← HFS.out.1, ht]; decide)]
      clear ht htl htv hts' b2 h1
      go_wp2
      exact HT0.out 6 _ F1 HE.out (HD1.out.keep HB2.out) (HZ1.out.keep HB2.out) (HU1.out.after HB2.out)
    | true =>
      rw [ht] at lk
      have ht' : there x (V.map fl) = true := by rw [← HFS.out.2, ← HFS.out.1]; exact ht
      have h2 := h1.keep b2
      have hx2 : w2.heap[w1.heap.size]? = some (.cells #[.slice ta tn tc, .bool ts] 74) := by rw [← hw2]; exact heap_alloc_new _ _
      obtain ⟨hM, hmem, hpath⟩ := top_mem HP.out ht'
      have DR : Calls Try.prog 36 #[.pointer (some ⟨p, 0, none⟩), .string x] w2 fun e w3 => e = .returned (.tuple #[]) ∧ w3.cell? ⟨w1.heap.size, 0, none⟩ = some (.slice ta tn tc) ∧ w3.cell? ⟨w1.heap.size, 1, none⟩ = some (.bool ts) ∧ Hid (Calls Try.prog 34 #[.pointer (some ⟨p, 0, none⟩), .string y, .agg #[.slice ta tn tc, .bool ts]] w3 fun e w4 => e = .returned (.tuple #[]) ∧ Hid (PP (.returned (.int .i64 0)) w4)) := by
        refine (drop_any p m V q s1 F1 x A M B w2 h2 HP.out HX.out).mono ?_
        rintro e w3 ⟨rfl, h3, u3⟩
        have hx3 : w3.heap[w1.heap.size]? = some (.cells #[.slice ta tn tc, .bool ts] 74) := (u3.block _ (Array.getElem?_eq_some_iff.1 hx2).1 (fun e => by
          have := h1.lt
          have := h1.m.lt
          omega)).trans hx2
        refine ⟨rfl, cell_of_row w3 w1.heap.size 0 _ _ _ hx3, cell_of_row w3 w1.heap.size 1 _ _ _ hx3, ?_⟩
        obtain ⟨A', M', B', P'⟩ := part_at h3.r y
        obtain ⟨fi, hfi⟩ : ∃ fi : Fv, fi = { top M with path := y } := ⟨_, rfl⟩
        have hv : vl fi = .agg #[.slice ta tn tc, .bool ts] := by subst hfi; exact htl
        have hz3 : FZ w3 q z1 := (HZ1.out.keep b2).upd u3 fun k e k2 => by
          rcases k2 with k2 | k2
          · exact (fz_off h2 (HZ1.out.keep b2) e).1 k2.symm
          · exact (fz_off h2 (HZ1.out.keep b2) e).2 k2.symm
        have hin : ∀ y ∈ A' ++ B', y ∈ A ++ B := fun u hu => by
          rw [P'.v]
          rcases List.mem_append.1 hu with k | k
          · exact List.mem_append_left _ (List.mem_append_left _ k)
          · exact List.mem_append_right _ k
        have hinV : ∀ y ∈ A ++ B, y ∈ V := fun u hu => by
          rw [HP.out.v]
          rcases List.mem_append.1 hu with k | k
          · exact List.mem_append_left _ (List.mem_append_left _ k)
          · exact List.mem_append_right _ k
        have hnb : ∀ g cur, w2.heap[g]? = some (.cells cur 5 (0, 0)) → ¬ (g = p ∨ g = m) := fun g cur e k => by
          rcases k with rfl | rfl
          · rw [h2.o] at e
            injection e with e
            injection e with _ e _
            cases e
          · obtain ⟨es, clock, hbb, _⟩ := h2.m
            rw [hbb] at e
            injection e with e
            cases e
        have cP := put_any p m (A ++ B) q { s1 with fs := (A ++ B).map fl } F1 y fi A' M' B' w3 h3 P' (by subst hfi; rfl) (by subst hfi; exact ((h2.topB HP.out).upd u3 hnb).as rfl rfl) (by subst hfi; exact h2.topS HP.out) (HOK.out rfl).2 (fun u hu k1 k2 => by
          subst hfi
          have := hin u hu
          rcases List.mem_append.1 (hin u hu) with k | k
          · exact HP.out.apsT ht' h2.d u (List.mem_append_left _ k) k1 k2
          · exact HP.out.apsT ht' h2.d u (List.mem_append_right _ k) k1 k2) (by
          have e1 := h2.n
          have e2 := HP.out.v
          rw [hM] at e2
          rw [e2] at e1
          have e3 := congrArg List.length P'.v
          simp at e1 e3 ⊢
          omega)
        rw [hv] at cP
        refine cP.mono ?_
        rintro e w4 ⟨rfl, h4, u4⟩
        refine ⟨rfl, HT1.out w4 F1 (A' ++ fi :: B') ?_ h4 (hz3.upd u4 fun k e k2 => ?_) ((((HU1.out.after b2).mono fun k _ e => mk_ms e).trans (u3.mono fun k _ e => ?_)).trans (u4.mono fun k _ e => ?_)) (fun u hu k ad e => .inr ?_)⟩
        · rw [← HDF.out, if_neg (fun k => k rfl), if_pos (by rw [HFS.out.2]; exact ht'), HFS.out.2]
          unfold renS
          rw [HP.out.cut ht', HP.out.fileAt ht']
          have e9 : ({ fl (top M) with path := y } : Fl) = fl fi := by subst hfi; rfl
          rw [e9, P'.putD (f := fi) (by subst hfi; rfl)]
        · rcases k2 with k2 | k2
          · exact (fz_off h3 hz3 e).1 k2.symm
          · exact (fz_off h3 hz3 e).2 k2.symm
        · rcases e with e | e
          · exact .inl e
          · exact .inr (.inl e)
        · rcases e with e | e
          · exact .inl e
          · exact .inr (.inl e)
        · rcases List.mem_append.1 hu with t | t
          · exact ⟨u, hinV u (hin u (List.mem_append_left _ t)), k, e⟩
          · rcases List.mem_cons.1 t with t | t
            · subst t
              rw [hfi] at k e
              exact ⟨top M, hmem, k, e⟩
            · exact ⟨u, hinV u (hin u (List.mem_append_right _ t)), k, e⟩
      clear ht ht' htl htv hts' b2 h1 h2 hx2 hM hmem hpath
      go_wp2_with fail
      go_at_call 36
      refine DR.mono ?_
      rintro e w3 ⟨rfl, y0, y1, HH⟩
      clear DR
      have cP := HH.out
      clear HH
      go_wp2_with fail
      go_at_call 34
      refine cP.mono ?_
      rintro e w4 ⟨rfl, HH⟩
      clear cP
      go_wp2
      exact HH.out
  · have k1 : (e0 == 0) = false := by simpa using k0
    have HE : Hid (WZ = (e0, s1)) := by unfold Hid; rw [← HDF.out, if_pos k0]
    clear h1 k0
    go_wp2
    exact HT0.out e0 _ F1 HE.out HD1.out HZ1.out HU1.out
/-- Of one path nothing is done. -/
theorem ren_same {V : List Fv} (hr : Rise V) {x : ByteArray} (t : there x (V.map fl) = true) : renS (V.map fl) x x = V.map fl := by
  obtain ⟨A, M, B, P⟩ := part_at hr x
  obtain ⟨hM, hmem, hpath⟩ := top_mem P t
  unfold renS
  rw [P.cut t, P.fileAt t]
  obtain ⟨A', M', B', P'⟩ := part_at (P.riseD hr) x
  have e9 : ({ fl (top M) with path := x } : Fl) = fl (top M) := by rw [← hpath]; rfl
  have hA : A' = A ∧ M' = [] ∧ B' = B := by
    have hM' : M' = [] := by
      rcases P'.m with ⟨_, e⟩ | ⟨_, f, e, hf⟩
      · exact e
      · have : f ∈ A ++ B := by rw [P'.v, e]; simp
        rcases List.mem_append.1 this with k | k
        · exact absurd hf (P.na f k)
        · exact absurd hf (P.nb f k)
    have hv := P'.v
    rw [hM', List.append_nil] at hv
    have hl : A'.length = A.length := by
      rw [P'.l]
      have h1 : ∀ (C : List Fv), (∀ u ∈ C, ls (tx u.path) (tx x) = true) → ∀ D, (∀ u ∈ D, ls (tx x) (tx u.path) = true) → place x ((C ++ D).map fl) = C.length := by
        intro C
        induction C with
        | nil =>
          intro _ D hD
          cases D with
          | nil => rfl
          | cons d D =>
            show (if ls (tx d.path) (tx x) = true then _ else 0) = 0
            rw [if_neg (by rw [ls_both _ _ (hD d (List.mem_cons_self ..))]; decide)]
        | cons u C ih =>
          intro hC D hD
          show (if ls (tx u.path) (tx x) = true then place x ((C ++ D).map fl) + 1 else 0) = _
          rw [if_pos (hC u (List.mem_cons_self ..)), ih (fun v hv => hC v (List.mem_cons_of_mem _ hv)) D hD]
          rfl
      exact h1 A P.a B P.b
    obtain ⟨h1, h2⟩ := List.append_inj hv hl.symm
    exact ⟨h1.symm, hM', h2.symm⟩
  obtain ⟨h1, h2, h3⟩ := hA
  rw [e9, P'.putD (f := top M) hpath, h1, h3, P.v, hM]
  simp [top]
end Go.Proofs.Ythkhkijdehbbmaa
