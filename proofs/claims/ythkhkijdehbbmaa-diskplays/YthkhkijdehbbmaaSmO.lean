/-
  Crash of the program's disk.
-/
import Derived.Test.YthkhkijdehbbmaaSmN
set_option maxRecDepth 100000
namespace Go.Proofs.Ythkhkijdehbbmaa
open Go.RowKit
open _root_.Go.Proofs.Ythkhkijdehbbmaa.Nm _root_.Go.Proofs.Ythkhkijdehbbmaa.Dk
attribute [local go_sem ↓] Go.wp_at_zero Go.wp_at_succ
set_option linter.unusedVariables false

theorem str_tx (G : Nat → Nat) (n : Nat) : tx (str G n) = (List.range n).map fun i => UInt8.ofNat (G i) := by
  unfold tx str
  rw [strOfNums_data, List.map_map]
  apply List.map_congr_left
  intro i _
  simp
theorem str_ext (G : Nat → Nat) {n m : Nat} (h : m ≤ n) : (str G n).extract 0 m = str G m := by
  apply tx_inj
  have : tx ((str G n).extract 0 m) = (tx (str G n)).take m := by unfold tx; simp
  rw [this, str_tx, str_tx, ← List.map_take, List.take_range, Nat.min_eq_left h]
theorem ext_size (b : ByteArray) {m : Nat} (h : m ≤ b.size) : (b.extract 0 m).size = m := by simp; omega
/-- A file's first bytes. -/
theorem cutB {w : World} {x : Fv} (h : PB w x) {m : Nat} (hm : m ≤ x.b.size) :
    ∃ A, (∀ w', Sem.run Try.prog (Instr.slice 29 (.slice x.bv.1 x.bv.2.1 x.bv.2.2) none (some (.int .i64 (m : Int))) none) w' = .ok (.slice A m x.bv.2.2) w') ∧ (∀ p s, PB w ⟨p, (A, m, x.bv.2.2), s, x.b.extract 0 m⟩) ∧ (0 < m → A = x.bv.1) := by
  obtain ⟨xp, ⟨a, n, c⟩, xs, b⟩ := x
  have hn := h.n
  have hc := h.c
  have hl := h.l
  have hz := h.z
  have hr := h.r
  dsimp only at hn hc hl hz hr hm ⊢
  have hA : 0 < m → (if c = 0 then a else a.map (·.add (0 * 1))) = a := fun k => by
    obtain ⟨f, _, h3, _⟩ := hr (by omega)
    rcases h3.2 with ⟨e1, e2⟩ | ⟨g, cap, cur, e1, _⟩
    · omega
    · injection e1 with e1 _ _
      rw [e1]
      split
      · rfl
      · show some (Addr.add _ _) = _
        rw [add_plain]
  refine ⟨if c = 0 then a else a.map (·.add (0 * 1)), ?_, fun p s => ⟨?_, ?_, hl, fun e => ?_, fun k => ?_⟩, hA⟩
  · intro w'
    rw [run_slice_h w' 29 a n c Try.underlying29 .i64 (m : Int) (by omega) (by omega)]
    have e : (sizeOf (Try.prog.elem 29)).run Try.prog w' = .ok 1 w' := by kernel_rfl
    rw [e]
    show Result.ok (sliced a _ _ c 1) w' = _
    unfold sliced
    rw [show ((m : Int)).toNat = m by omega, Nat.sub_zero, Nat.sub_zero]
  · show m = (b.extract 0 m).size
    rw [ext_size b hm]
  · show (b.extract 0 m).size ≤ c
    rw [ext_size b hm]; omega
  · show c = 0
    have e' : (if c = 0 then a else a.map (·.add (0 * 1))) = none := e
    split at e'
    · assumption
    · cases a with
      | none => exact hz rfl
      | some y => cases e'
  · have k' : 0 < (b.extract 0 m).size := k
    rw [ext_size b hm] at k'
    obtain ⟨f, h2, h3, h4⟩ := hr (by omega)
    refine ⟨f, h2, ?_, ?_⟩
    · show Own w 0 (.slice (if c = 0 then a else a.map (·.add (0 * 1))) m c) (b.extract 0 m).size f
      rw [hA k', ext_size b hm]
      rcases h3.2 with ⟨e1, e2⟩ | ⟨g, cap, cur, e1, hg, hh, hnc, hmx, hs, ht⟩
      · omega
      · injection e1 with e1 e2 e3
        subst e3
        refine ⟨by rw [bs_length, Nat.mul_one], .inr ⟨g, c, cur, by rw [e1], hg, hh, by omega, hmx, hs, ?_⟩⟩
        have e5 : cur.toList.take (m * 1) = (cur.toList.take (b.size * 1)).take (m * 1) := by rw [List.take_take, Nat.min_eq_left (by omega)]
        rw [e5, ht]
        unfold bs
        rw [← List.map_take, List.take_range, Nat.mul_one, Nat.min_eq_left hm]
    · show str f (b.extract 0 m).size = b.extract 0 m
      rw [ext_size b hm, ← h4, str_ext f hm]
/-- What a crash leaves of a file. -/
def crF (k : Nat) (f : Fl) : Fl := if f.sure = true then f else ⟨f.path, f.b.extract 0 (k % (f.b.size + 1)), true⟩
def crashS (k : Int) (l : List Fl) : List Fl := l.map (crF (max k 0).toNat)
theorem place_app {C D : List Fv} {x : ByteArray} (hC : ∀ u ∈ C, ls (tx u.path) (tx x) = true) (hD : ∀ d E, D = d :: E → ls (tx d.path) (tx x) = false) : place x ((C ++ D).map fl) = C.length := by
  induction C with
  | nil =>
    cases D with
    | nil => rfl
    | cons d D =>
      show (if ls (tx d.path) (tx x) = true then _ else 0) = 0
      rw [if_neg (by rw [hD d D rfl]; decide)]
  | cons u C ih =>
    show (if ls (tx u.path) (tx x) = true then place x ((C ++ D).map fl) + 1 else 0) = _
    rw [if_pos (hC u (List.mem_cons_self ..)), ih (fun v hv => hC v (List.mem_cons_of_mem _ hv))]
    rfl
theorem part_mid {A B : List Fv} {f : Fv} (hr : Rise (A ++ f :: B)) : Part (A ++ f :: B) f.path A [f] B := by
  obtain ⟨h1, h2, h3⟩ := List.pairwise_append.1 hr
  obtain ⟨h4, h5⟩ := List.pairwise_cons.1 h2
  have hp : place f.path ((A ++ f :: B).map fl) = A.length := place_app (fun u hu => h3 u hu f (List.mem_cons_self ..)) (fun d E e => by injection e with e _; subst e; exact ls_same _)
  refine ⟨by simp, fun u hu => h3 u hu f (List.mem_cons_self ..), h4, hp.symm, .inr ⟨?_, f, rfl, rfl⟩⟩
  unfold there
  rw [hp]
  simp
  rfl
/-- The round's relation. -/
structure CrW (p m : Nat) (V : List Fv) (q : Option Nat) (s : St) (F : Int) (K : Nat) (w w1 : World) (v : Value) (M : List Sv) (j : Nat) (C : List Fv) (wr : World) : Prop where
  px : PX wr p m (C ++ V.drop j) q { s with fs := (C ++ V.drop j).map fl } F
  c : C.map fl = ((V.take j).map fl).map (crF K)
  u : Upd (fun k => k = p ∨ k = m) w wr
  g : Gw w V (C ++ V.drop j)
  o : SOwn wr w.heap.size v M
theorem CrW.end {p m : Nat} {V : List Fv} {q : Option Nat} {s : St} {F : Int} {K : Nat} {w w1 : World} {v : Value} {M : List Sv} {C : List Fv} {wr : World} (h : CrW p m V q s F K w w1 v M V.length C wr) : PX wr p m C q { s with fs := (V.map fl).map (crF K) } F ∧ Upd (fun k => k = p ∨ k = m) w wr ∧ Gw w V C := by
  have h1 := h.px
  have h2 := h.g
  have h3 := h.c
  rw [List.drop_length, List.append_nil] at h1 h2
  rw [List.take_length] at h3
  rw [h3] at h1
  exact ⟨h1, h.u, h2⟩
set_option maxHeartbeats 8000000 in
theorem pcrash_any (p m : Nat) (V : List Fv) (q : Option Nat) (s : St) (F k : Int) (w : World) (h : PX w p m V q s F) (hk0 : -9223372036854775808 ≤ k) (hk1 : k ≤ 9223372036854775807) :
    Calls Try.prog 14 #[.pointer (some ⟨p, 0, none⟩), .int .i64 k] w fun e w' => e = .returned (.tuple #[]) ∧ ∃ V', PX w' p m V' q { s with fs := crashS k s.fs } F ∧ Upd (fun j => j = p ∨ j = m) w w' ∧ Gw w V V' := by
  have cP := paths_any p m V q s F ⟨#[]⟩ w h (Nat.zero_le _)
  rw [lst_all] at cP
  obtain ⟨K, hK⟩ : ∃ K : Nat, (max k 0).toNat = K := ⟨_, rfl⟩
  have hKK : (if 0 < k then k else 0) = (K : Int) := by split <;> omega
  have hKM : max k 0 = (K : Int) := by omega
  have hKL : K ≤ 9223372036854775807 := by omega
  have HT : Hid (∀ C wr, PX wr p m C q { s with fs := (V.map fl).map (crF K) } F ∧ Upd (fun k => k = p ∨ k = m) w wr ∧ Gw w V C → ∃ V', PX wr p m V' q { s with fs := crashS k s.fs } F ∧ Upd (fun j => j = p ∨ j = m) w wr ∧ Gw w V V') := fun C wr t => ⟨C, by unfold crashS; rw [hK, h.f]; exact t.1, t.2.1, t.2.2⟩
  have HX : Hid (PX w p m V q s F) := h
  have hn := h.n
  have HPA : Hid (s.fs.map (fun f => f.path) = V.map fun f => f.path) := by unfold Hid; rw [h.f, List.map_map]; rfl
  generalize hPP : (fun w' => ∃ V', PX w' p m V' q { s with fs := crashS k s.fs } F ∧ Upd (fun j => j = p ∨ j = m) w w' ∧ Gw w V V') = PP at *
  have HT : Hid (∀ C wr, PX wr p m C q { s with fs := (V.map fl).map (crF K) } F ∧ Upd (fun k => k = p ∨ k = m) w wr ∧ Gw w V C → PP wr) := fun C wr t => by rw [← hPP]; exact HT.out C wr t
  have hgoal : (fun (e : Ending) (w' : World) => e = .returned (.tuple #[]) ∧ ∃ V', PX w' p m V' q { s with fs := crashS k s.fs } F ∧ Upd (fun j => j = p ∨ j = m) w w' ∧ Gw w V V') = fun e w' => e = .returned (.tuple #[]) ∧ PP w' := by rw [← hPP]
  rw [hgoal]
  clear h hK hPP hgoal
  go_enter Try.func14, Try.ntmps14
  go_wp2_with fail
  go_at_call 37
  refine cP.mono ?_
  rintro e w1 ⟨v, M, rfl, ho, hm, hbl⟩
  have HO : Hid (SOwn w1 w.heap.size v M) := ho
  obtain ⟨ra, rc, ev, hrow⟩ := ho.row
  have hML : M.length = V.length := by
    have := congrArg List.length (hm.trans HPA.out)
    simpa using this
  rw [hML] at ev
  subst ev
  have HMV : Hid (∀ i, i < V.length → M[i]!.s = V[i]!.path) := fun i hi => by
    have := congrArg (fun l => l[i]?) (hm.trans HPA.out)
    simp only [List.getElem?_map] at this
    rw [List.getElem?_eq_getElem (by rw [hML]; exact hi), List.getElem?_eq_getElem hi] at this
    rw [getElem!_pos M i (by rw [hML]; exact hi), getElem!_pos V i hi]
    simpa using this
  have HML : Hid (M.length = V.length) := hML
  have H0 : Hid (CrW p m V q s F K w w1 (.slice ra V.length rc) M 0 [] w1) := by
    have h1 := HX.out.keep hbl
    refine ⟨?_, rfl, Upd.of hbl, Gw.sub fun y hy => by simpa using hy, HO.out⟩
    show PX w1 p m V q { s with fs := V.map fl } F
    rw [← HX.out.f]; exact h1
  clear cP ho hm hbl hrow hML
  go_wp2_with fail
  go_loopw [13] (fun i wr => ∃ (j : Nat) (C : List Fv), j ≤ V.length ∧ i = .int .i64 j ∧ CrW p m V q s F K w w1 (.slice ra V.length rc) M j C wr) (fun i _ => V.length - (intOf i).toNat)
  case atStart => exact ⟨0, [], by omega, rfl, H0.out⟩
  case round =>
    obtain ⟨j, C, hj, rfl, hW⟩ := hrel
    have HW : Hid (CrW p m V q s F K w w1 (.slice ra V.length rc) M j C wr) := hW
    by_cases hlt : j < V.length
    · have ij : (j : Int) < (V.length : Int) := by omega
      obtain ⟨f, hf⟩ : ∃ f, V[j] = f := ⟨_, rfl⟩
      have hd : V.drop j = f :: V.drop (j + 1) := by rw [← hf]; exact List.drop_eq_getElem_cons hlt
      have hpx := hW.px
      rw [hd] at hpx
      have P := part_mid hpx.r
      have lk := (hpx.look P (by
        have := hpx.wf.p (fl f) (by show fl f ∈ (C ++ f :: V.drop (j + 1)).map fl; exact List.mem_map_of_mem (by simp))
        have e : (fl f).path = f.path := rfl
        rw [e] at this
        unfold maxLen; omega)).2
      have d0 := hpx.c0
      obtain ⟨⟨ta, tn, tc⟩, htv⟩ : ∃ y : Option Addr × Nat × Nat, f.bv = y := ⟨_, rfl⟩
      have htl : vl (top [f]) = .agg #[.slice ta tn tc, .bool f.sure] := by show vl f = _; unfold vl; rw [htv]
      rw [htl] at lk
      obtain ⟨t, ht⟩ : ∃ t, f.path = t := ⟨_, rfl⟩
      rw [ht] at lk
      -- the text in the row
      obtain ⟨a', c', e1, hS, _⟩ := hW.o.row
      obtain ⟨b, o, ea, hA⟩ := hS (by rw [HML.out]; omega)
      injection e1 with e1 e2 e3
      subst e3
      rw [ea] at e1
      subst e1
      have r0 := (hA j (by rw [HML.out]; exact hlt)).c0
      have hms := HMV.out j hlt
      rw [getElem!_pos V j hlt, hf, ht] at hms
      rw [hms] at r0
      obtain ⟨w2, hw2⟩ : ∃ w2, wr.alloc (.cells #[.slice ta tn tc, .bool f.sure] 74) = w2 := ⟨_, rfl⟩
      have b2 : Below wr.heap.size wr w2 := by rw [← hw2]; exact bal _ _
      have x0 : w2.cell? ⟨wr.heap.size, 0, none⟩ = some (.slice ta tn tc) := by rw [← hw2]; simp
      have x1 : w2.cell? ⟨wr.heap.size, 1, none⟩ = some (.bool f.sure) := by rw [← hw2]; simp
      have HB2 : Hid (Below wr.heap.size wr w2) := b2
      have HFD : Hid (V.drop j = f :: V.drop (j + 1) ∧ V[j] = f) := ⟨hd, hf⟩
      have r1 : wr.cell? ⟨b, o + j, none⟩ = some (.string t) := by simpa using r0
      clear hA hS r0 hms e2
      cases hsu : f.sure with
      | true =>
        rw [hsu] at lk x1 hw2
        have HN : Hid (CrW p m V q s F K w w1 (.slice (some ⟨b, o, none⟩) V.length rc) M (j + 1) (C ++ [f]) w2) := by
          have h2 := hpx.keep b2
          refine ⟨?_, ?_, HW.out.u.after b2, ?_, HW.out.o.keep b2⟩
          · have e : C ++ [f] ++ V.drop (j + 1) = C ++ f :: V.drop (j + 1) := by simp
            rw [e]
            exact h2
          · rw [← List.take_append_getElem hlt, List.map_append, List.map_append, List.map_append, HW.out.c, hf]
            congr 1
            show [fl f] = [crF K (fl f)]
            unfold crF
            rw [if_pos (show (fl f).sure = true from hsu)]
          · have e : C ++ [f] ++ V.drop (j + 1) = C ++ V.drop j := by rw [hd]; simp
            rw [e]; exact HW.out.g
        clear hpx P hW b2 hd htv htl hf ht hsu
        go_wp2
        go_round
        case rel => exact ⟨j + 1, C ++ [f], by omega, by go_num, HN.out⟩
        case measure => simp [intOf]; omega
      | false =>
        rw [hsu] at lk x1 hw2
        have hpb := (hpx.b f (by simp)).keep b2
        have hbn := hpb.n
        rw [htv] at hbn
        dsimp only at hbn
        have hbs := hpx.wf.b (fl f) (by show fl f ∈ (C ++ f :: V.drop (j + 1)).map fl; exact List.mem_map_of_mem (by simp))
        have hbs : f.b.size ≤ 262144 := hbs
        obtain ⟨l, hl⟩ : ∃ l, K % (tn + 1) = l := ⟨_, rfl⟩
        have hlt2 : l ≤ tn := by have := Nat.mod_lt K (show 0 < tn + 1 by omega); omega
        obtain ⟨A, hrun, hPA, hAe⟩ := cutB hpb (m := l) (by omega)
        rw [htv] at hrun hPA hAe
        dsimp only at hrun hPA hAe
        have wn : IntKind.i64.wrap ((tn : Int) + 1) = (tn : Int) + 1 := by rw [IntKind.wrap_i64]; omega
        have tm : (K : Int).tmod ((tn : Int) + 1) = (l : Int) := by
          rw [← hl]
          show (K : Int).tmod (((tn + 1 : Nat) : Int)) = _
          rw [Int.ofNat_tmod]
        obtain ⟨fi, hfi⟩ : ∃ fi : Fv, fi = ⟨t, (A, l, tc), true, f.b.extract 0 l⟩ := ⟨_, rfl⟩
        have hv : vl fi = .agg #[.slice A l tc, .bool true] := by subst hfi; rfl
        have PU : Hid (Calls Try.prog 34 #[.pointer (some ⟨p, 0, none⟩), .string t, .agg #[.slice A l tc, .bool true]] w2 fun e w4 => e = .returned (.tuple #[]) ∧ Hid (CrW p m V q s F K w w1 (.slice (some ⟨b, o, none⟩) V.length rc) M (j + 1) (C ++ [fi]) w4)) := by
          have h2 := hpx.keep b2
          rw [← hv]
          have P' := P
          rw [ht] at P'
          refine (put_any p m _ q _ F t fi C [f] (V.drop (j + 1)) w2 h2 P' (by subst hfi; rfl) (by subst hfi; exact hPA _ _) (by subst hfi; show (f.b.extract 0 l).size ≤ 262144; rw [ext_size f.b (by omega)]; omega) (by
            have := hpx.wf.p (fl f) (by show fl f ∈ (C ++ f :: V.drop (j + 1)).map fl; exact List.mem_map_of_mem (by simp))
            rw [← ht]; exact this) (fun u hu k1 k2 e => by
            have hz2 : (fi.b).size = l := by subst hfi; exact ext_size f.b (by omega)
            have hA2 := hAe (by omega)
            have := P.apsT (by rcases P.m with ⟨_, e⟩ | ⟨t, _⟩; cases e; exact t) h2.d u hu k1
            refine this (by show 0 < f.b.size; omega) ?_
            show u.bv.1 = f.bv.1
            rw [htv]
            show u.bv.1 = ta
            rw [e, hfi]
            exact hA2) (by
            have := h2.n
            simp at this ⊢
            omega)).mono ?_
          rintro e w4 ⟨rfl, h4, u4⟩
          have e1 : C ++ [fi] ++ V.drop (j + 1) = C ++ fi :: V.drop (j + 1) := by simp
          refine ⟨rfl, ?_, ?_, (HW.out.u.after b2).trans u4, ?_, sown_upd (HW.out.o.keep b2) u4 fun g cur e k => ?_⟩
          · rw [e1]; exact h4
          · rw [← List.take_append_getElem hlt, List.map_append, List.map_append, List.map_append, HW.out.c, hf]
            congr 1
            show [fl fi] = [crF K (fl f)]
            unfold crF
            rw [if_neg (by show ¬ f.sure = true; rw [hsu]; decide)]
            show _ = [(⟨f.path, f.b.extract 0 (K % (f.b.size + 1)), true⟩ : Fl)]
            rw [← hbn, hl, hfi, ht]
            rfl
          · rw [e1]
            intro y hy k ad e
            have hin : y = fi ∨ y ∈ C ++ V.drop j := by
              rw [hd]
              rcases List.mem_append.1 hy with t | t
              · exact .inr (List.mem_append_left _ t)
              · rcases List.mem_cons.1 t with t | t
                · exact .inl t
                · exact .inr (List.mem_append_right _ (List.mem_cons_of_mem _ t))
            rcases hin with t | t
            · have hz2 : (fi.b).size = l := by subst hfi; exact ext_size f.b (by omega)
              rw [t] at k e
              have hA2 := hAe (by omega)
              exact HW.out.g f (by rw [hd]; simp) (by omega) ad (by rw [htv]; show ta = some ad; rw [← hA2]; rw [hfi] at e; exact e)
            · exact HW.out.g y t k ad e
          · rcases k with rfl | rfl
            · rw [(hpx.keep b2).o] at e
              injection e with e
              injection e with _ e _
              cases e
            · obtain ⟨es, clock, hbb, _⟩ := (hpx.keep b2).m
              rw [hbb] at e
              injection e with e
              cases e
        have HW2 : Hid (wr.alloc (.cells #[.slice ta tn tc, .bool false] 74) = w2) := hw2
        clear hpx P hW b2 hd htv htl hf ht hsu hpb hbn hbs hl hlt2 hPA hAe hfi hv hw2 x0 x1
        go_wp2_with fail
        go_at_call 34
        rw [HW2.out]
        refine PU.out.mono ?_
        rintro e w4 ⟨rfl, HN⟩
        clear PU
        go_wp2
        go_round
        case rel => exact ⟨j + 1, C ++ [fi], by omega, by go_num, HN.out⟩
        case measure => simp [intOf]; omega
    · have hjn : j = V.length := by omega
      subst hjn
      have ij : decide ((V.length : Int) < (V.length : Int)) = false := by simp
      have HF : Hid (PP wr) := HT.out C wr HW.out.end
      clear hlt hW
      go_wp2
      exact bodyPost_end (v := .tuple #[]) (by simp [results, Try.results14, go_sem]) rfl ⟨rfl, HF.out⟩
end Go.Proofs.Ythkhkijdehbbmaa
