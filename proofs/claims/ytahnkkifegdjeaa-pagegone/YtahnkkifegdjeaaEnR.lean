/-
  What page.Objects and page.Versions answer where so many may be asked for.
-/
import Derived.Test.YtahnkkifegdjeaaEnQ
namespace Go.Proofs.Ytahnkkifegdjeaa
open Go.RowKit Go.Shelf Go.Sort Nq
attribute [local go_sem ↓] Go.wp_at_zero Go.wp_at_succ
set_option linter.unusedVariables false

set_option maxRecDepth 100000 in
set_option maxHeartbeats 8000000 in
theorem objects_good (a : Option Addr) (c : Nat) (L M : List En) (q : Aq) (w : World) (h0 : Es w a L) (hl : L.length ≤ 900000) (hlm : M.length = L.length) (hU : ∀ M', SortOf L M' → M' = M) (hn : NoTwo M) (hks : ∀ e ∈ M, e.key.size ≤ maxLen) (hps : q.pr.size ≤ maxLen) (hm : 1 ≤ q.mo ∧ q.mo ≤ 1000) :
    Calls Try.prog 11 #[.slice a L.length c, av q] w fun r w' => ∃ v, r = .returned (.tuple #[anv v (cutA ((M.filter pO).filter (fun e => pre (tx e.key) (tx q.pr) && abv q e)) q.mo false).more (cutA ((M.filter pO).filter (fun e => pre (tx e.key) (tx q.pr) && abv q e)) q.mo false).key (cutA ((M.filter pO).filter (fun e => pre (tx e.key) (tx q.pr) && abv q e)) q.mo false).id, .int .i64 0]) ∧
      EOwn w' w.heap.size v (cutA ((M.filter pO).filter (fun e => pre (tx e.key) (tx q.pr) && abv q e)) q.mo false).L ∧ Below w.heap.size w w' := by
  obtain ⟨X, hX⟩ : ∃ X, (M.filter pO).filter (fun e => pre (tx e.key) (tx q.pr) && abv q e) = X := ⟨_, rfl⟩
  rw [hX]
  obtain ⟨pr, fr, fi, mo⟩ := q
  dsimp only at hm hps hX
  have hc := most_any mo
  rw [decide_eq_true hm] at hc
  obtain ⟨W1, hbx, hA, hb⟩ := box_aq w 32 ⟨pr, fr, fi, mo⟩
  obtain ⟨W2, hb2⟩ : ∃ W2, W1.alloc (.cells #[.slice none 0 0, .bool false, .string ⟨#[]⟩, .int .i64 0] 28) = W2 := ⟨_, rfl⟩
  have b2 : Below W1.heap.size W1 W2 := by rw [← hb2]; exact bal _ _
  have hd : W2.heap[W1.heap.size]? = some (.cells #[.slice none 0 0, .bool false, .string ⟨#[]⟩, .int .i64 0] 28) := by rw [← hb2]; exact heap_alloc_new _ _
  have hA2 := hA.keep b2
  have bW : Below w.heap.size w W2 := hop hb b2
  obtain ⟨pb, hpb⟩ : ∃ pb, pb = W1.heap.size := ⟨_, rfl⟩
  obtain ⟨qb, hqb⟩ : ∃ qb, qb = w.heap.size := ⟨_, rfl⟩
  have hlt : pb < W2.heap.size := by rw [hpb]; exact (Array.getElem?_eq_some_iff.1 hd).1
  have h := h0
  have HD : Aside (W2.heap[pb]? = some (.cells #[.slice none 0 0, .bool false, .string ⟨#[]⟩, .int .i64 0] 28)) := by rw [hpb]; exact hd
  have HB : Aside (Below w.heap.size w W2 ∧ w.heap.size ≤ pb) := ⟨bW, by rw [hpb]; exact hb.size⟩
  have K : Hid (Calls Try.prog 19 #[.slice a L.length c] W2.drew fun r w1 => ∃ g k, r = .returned (.slice (some ⟨g, 0, none⟩) k k) ∧ Below W2.heap.size W2 w1 ∧
      Calls Try.prog 25 #[.slice (some ⟨g, 0, none⟩) k k] w1 fun r w2 => ∃ a2 n2 c2, r = .returned (.slice a2 n2 c2) ∧ Below W2.heap.size W2 w2 ∧
      Calls Try.prog 24 #[.slice a2 n2 c2, .agg #[.string pr, .string fr, .int .i64 fi, .int .i64 mo], .func (.func 26) #[] #[]] w2 fun r w3 => ∃ a3 c3, r = .returned (.tuple #[.slice a3 (X.take mo.toNat).length c3, .bool (decide (mo < (X.length : Int)))]) ∧ EOwn w3 W2.heap.size (.slice a3 (X.take mo.toNat).length c3) (X.take mo.toNat) ∧ Es w3 a3 (X.take mo.toNat) ∧ Below W2.heap.size W2 w3) := by
    refine (sort_any a c L W2.drew (h.keep (bld bW 1)) (by omega)).mono ?_
    rintro r w1 ⟨g, M1, rfl, e1, s1, hb1, hg, k1⟩
    obtain rfl := hU M1 s1
    refine ⟨g, _, rfl, hop (bdn W2 1) k1, ?_⟩
    refine (objects_any _ _ _ w1 hb1.es (by omega) hn).mono ?_
    rintro r w2 ⟨v2, rfl, o2, k2⟩
    obtain ⟨a2, c2, rfl, es2⟩ := out_es o2
    refine ⟨a2, _, c2, rfl, hop (hop (bdn W2 1) k1) k2, ?_⟩
    refine (cut_any a2 c2 _ ⟨pr, fr, fi, mo⟩ 26 (abv ⟨pr, fr, fi, mo⟩) w2 es2 (Nat.le_trans (List.length_filter_le _ _) (by omega)) (fun e he => hks e (List.mem_filter.1 he).1) hps hm.1 (enters_of Try.func26 (by kernel_rfl) rfl) (fun e w => above_any e _ w)).mono ?_
    rintro r w3 ⟨v3, rfl, o3, k3⟩
    dsimp only at o3 ⊢
    rw [hX] at o3 ⊢
    obtain ⟨a3, c3, rfl, es3⟩ := out_es o3
    have kk := hop (hop (hop (bdn W2 1) k1) k2) k3
    exact ⟨a3, c3, rfl, o3.mono (hop (hop (bdn W2 1) k1) k2).size, es3, kk⟩
  have HAA : Aside (AAt W2 qb ⟨pr, fr, fi, mo⟩) := by rw [hqb]; exact hA2
  have HS : Aside (∀ w', Below W2.heap.size W2 w' → w'.cell? ⟨qb, 0, none⟩ = some (.string pr) ∧ w'.cell? ⟨qb, 1, none⟩ = some (.string fr) ∧ w'.cell? ⟨qb, 2, none⟩ = some (.int .i64 fi) ∧ w'.cell? ⟨qb, 3, none⟩ = some (.int .i64 mo)) := fun w' hw => by
    obtain ⟨x0, x1, x2, x3⟩ := HAA.out.keep hw
    exact ⟨x0, x1, x2, x3⟩
  obtain ⟨d0, d1, d2, d3⟩ := HAA.out
  dsimp only at d0 d1 d2 d3
  have HPB : Aside (pb = W1.heap.size ∧ qb = w.heap.size) := ⟨hpb, hqb⟩
  have HLX : Aside ((X.take mo.toNat).length = min mo.toNat X.length) := by show _ = _; rw [List.length_take]
  obtain ⟨XT, hXT⟩ : ∃ XT, XT = X.take mo.toNat := ⟨_, rfl⟩
  have HXT : Aside (XT = X.take mo.toNat) := hXT
  rw [← hXT] at K HLX
  unfold av anv
  dsimp only
  clear hA hb b2 hd hA2 bW h h0 hU hks hX hXT hn
  go_enter Try.func11, Try.ntmps11
  go_upto_region 1 with fail
  rw [← hpb, ← hqb]
  clear hpb hqb
  go_wp2_with fail
  go_at_call 23
  refine (hc _).mono ?_
  rintro e w' ⟨rfl, rfl⟩
  go_upto_region 3 with fail
  obtain ⟨q0, q1, q2, q3⟩ := HS.out W2.drew (bdn W2 1)
  clear hb2 hbx
  obtain ⟨mr, hmr⟩ : ∃ mr, decide (mo < (X.length : Int)) = mr := ⟨_, rfl⟩
  rw [hmr] at K
  have HMR : Aside (decide (mo < (X.length : Int)) = mr) := hmr
  clear hmr
  go_region_held3 (fun X => X.cell? ⟨qb, 0, none⟩ = some (.string pr) ∧ X.cell? ⟨qb, 1, none⟩ = some (.string fr) ∧ X.cell? ⟨qb, 2, none⟩ = some (.int .i64 fi) ∧ X.cell? ⟨qb, 3, none⟩ = some (.int .i64 mo))
    (first | with_reducible exact ⟨q0, q1, q2, q3⟩ | with_reducible exact HS.out _ y3 | with_reducible exact HS.out _ y2 | with_reducible exact HS.out _ y1)
    (first
      | (go_at_call 19; with_reducible refine K.out.mono ?_; rintro r w8 ⟨g, k, rfl, y1, z1⟩)
      | (go_at_call 25; with_reducible refine z1.mono ?_; rintro r w9 ⟨a2, n2, c2, rfl, y2, z2⟩)
      | (go_at_call 24; with_reducible refine z2.mono ?_; rintro r w3 ⟨a3, c3, rfl, z3, z4, y3⟩))
  all_goals
    have hd3 : w3.heap[pb]? = some (.cells #[.slice none 0 0, .bool false, .string ⟨#[]⟩, .int .i64 0] 28) := (y3.block pb hlt).trans HD.out
    have c0 := cell_of_row w3 pb 0 _ _ _ hd3
    have c1 := cell_of_row w3 pb 1 _ _ _ hd3
    have c2 := cell_of_row w3 pb 2 _ _ _ hd3
    have c3' := cell_of_row w3 pb 3 _ _ _ hd3
    have f0 : ∀ j, w3.frozen? ⟨pb, j, none⟩ = false := fun j => frozen_of_row w3 pb j _ _ hd3
    have HZ : Aside (EOwn w3 W2.heap.size (.slice a3 XT.length c3) XT) := z3
    have HY : Aside (Below W2.heap.size W2 w3) := y3
    have HZ4 : Aside (Es w3 a3 XT) := z4
    have HD3 : Aside (w3.heap[pb]? = some (.cells #[.slice none 0 0, .bool false, .string ⟨#[]⟩, .int .i64 0] 28)) := hd3
    clear z3 z4 y3 hd3 K HS d0 d1 d2 d3
    cases mr with
    | false =>
      have hxx : XT = X := by rw [HXT.out, List.take_of_length_le]; have := of_decide_eq_false HMR.out; omega
      have HF : Aside (cutA X mo false = ⟨XT, false, ⟨#[]⟩, 0⟩) := by rw [hxx]; exact cutA_less HMR.out
      clear hxx HXT
      go_wp2_with fail
      refine bodyPost_ret (v := .tuple #[.agg #[.slice a3 XT.length c3, .bool false, .string ⟨#[]⟩, .int .i64 0], .int .i64 0]) (by simp [results, Try.results11, go_sem, *]) rfl ?_
      refine ⟨_, by rw [HF.out], ?_, ?_⟩
      · rw [HF.out]
        exact ((((HZ.out.set hlt).set hlt).set hlt).set hlt).mono (by have := HB.out.1.size; omega)
      · exact ((((hop HB.out.1 HY.out).setCell (p := ⟨_, 0, none⟩) HB.out.2 _).setCell (p := ⟨_, 1, none⟩) HB.out.2 _).setCell (p := ⟨_, 2, none⟩) HB.out.2 _).setCell (p := ⟨_, 3, none⟩) HB.out.2 _
    | true =>
      have hlx : mo < (X.length : Int) := of_decide_eq_true HMR.out
      have hxl : XT.length = mo.toNat := by rw [HLX.out]; omega
      obtain ⟨b, o, rfl, hcs⟩ := HZ4.out (by omega)
      obtain ⟨e, he⟩ : ∃ e, e = XT[XT.length - 1]! := ⟨_, rfl⟩
      have hce := hcs (XT.length - 1) (by omega)
      rw [← he] at hce
      obtain ⟨t, ht⟩ : ∃ t, t = XT.length - 1 := ⟨_, rfl⟩
      rw [← ht] at hce
      obtain ⟨e0, e1, e2, e3, e4, e5⟩ := hce
      have HF : Aside (cutA X mo false = ⟨XT, true, e.key, 0⟩) := by
        show _ = _
        have hx : X[mo.toNat - 1]! = e := by rw [he, hxl, HXT.out]; exact (take_at X _ _ (by omega) (by omega)).symm
        rw [cutA_more HMR.out, HXT.out, hx]; rfl
      have i1 : (XT.length : Int) - 1 = (t : Int) := by omega
      have i2 : (t : Int) < (XT.length : Int) := by omega
      have i3 : IntKind.i64.wrap (t : Int) = (t : Int) := by rw [IntKind.wrap_i64]; omega
      clear hcs he HXT HLX hxl hlx ht
      go_wp2_with fail
      refine bodyPost_ret (v := .tuple #[.agg #[.slice (some ⟨b, o, none⟩) XT.length c3, .bool true, .string e.key, .int .i64 0], .int .i64 0]) (by simp [results, Try.results11, go_sem, *]) rfl ?_
      refine ⟨_, by rw [HF.out], ?_, ?_⟩
      · rw [HF.out]
        exact ((((HZ.out.set hlt).set hlt).set hlt).set hlt).mono (by have := HB.out.1.size; omega)
      · exact ((((hop HB.out.1 HY.out).setCell (p := ⟨_, 0, none⟩) HB.out.2 _).setCell (p := ⟨_, 1, none⟩) HB.out.2 _).setCell (p := ⟨_, 2, none⟩) HB.out.2 _).setCell (p := ⟨_, 3, none⟩) HB.out.2 _
end Go.Proofs.Ytahnkkifegdjeaa
