/-
  What page.Objects and page.Versions answer where so many may be asked for.
-/
import Derived.Test.YtahnkkifegdjeaaEnQ
namespace Go.Proofs.Ytahnkkifegdjeaa
open Go.RowKit Go.Shelf Go.Sort Nq
attribute [local go_sem ↓] Go.wp_at_zero Go.wp_at_succ
set_option linter.unusedVariables false

set_option maxRecDepth 100000 in
set_option maxHeartbeats 8000000 in
theorem versions_good (a : Option Addr) (c : Nat) (L M : List En) (q : Aq) (w : World) (h0 : Es w a L) (hl : L.length ≤ 900000) (hlm : M.length = L.length) (hU : ∀ M', SortOf L M' → M' = M) (hks : ∀ e ∈ M, e.key.size ≤ maxLen) (hps : q.pr.size ≤ maxLen) (hm : 1 ≤ q.mo ∧ q.mo ≤ 1000) :
    Calls Try.prog 14 #[.slice a L.length c, av q] w fun r w' => ∃ v, r = .returned (.tuple #[anv v (cutA (M.filter (fun e => pre (tx e.key) (tx q.pr) && bhd q e)) q.mo true).more (cutA (M.filter (fun e => pre (tx e.key) (tx q.pr) && bhd q e)) q.mo true).key (cutA (M.filter (fun e => pre (tx e.key) (tx q.pr) && bhd q e)) q.mo true).id, .int .i64 0]) ∧
      EOwn w' w.heap.size v (cutA (M.filter (fun e => pre (tx e.key) (tx q.pr) && bhd q e)) q.mo true).L ∧ Below w.heap.size w w' := by
  obtain ⟨X, hX⟩ : ∃ X, M.filter (fun e => pre (tx e.key) (tx q.pr) && bhd q e) = X := ⟨_, rfl⟩
  rw [hX]
  obtain ⟨pr, fr, fi, mo⟩ := q
  dsimp only at hm hps hX
  have hc := most_any mo
  rw [decide_eq_true hm] at hc
  obtain ⟨W1, hbx, hA, hb⟩ := box_aq w 32 ⟨pr, fr, fi, mo⟩
  obtain ⟨W2, hb2⟩ : ∃ W2, W1.alloc (.cells #[.slice none 0 0, .bool false, .string ⟨#[]⟩, .int .i64 0] 28) = W2 := ⟨_, rfl⟩
  have b2 : Below W1.heap.size W1 W2 := by rw [← hb2]; exact bal _ _
  have hd : W2.heap[W1.heap.size]? = some (.cells #[.slice none 0 0, .bool false, .string ⟨#[]⟩, .int .i64 0] 28) := by rw [← hb2]; exact heap_alloc_new _ _
  have hA2 := hA.keep b2
  have bW : Below w.heap.size w W2 := hop hb b2
  obtain ⟨pb, hpb⟩ : ∃ pb, pb = W1.heap.size := ⟨_, rfl⟩
  obtain ⟨qb, hqb⟩ : ∃ qb, qb = w.heap.size := ⟨_, rfl⟩
  have hlt : pb < W2.heap.size := by rw [hpb]; exact (Array.getElem?_eq_some_iff.1 hd).1
  have h := h0
  have HD : Aside (W2.heap[pb]? = some (.cells #[.slice none 0 0, .bool false, .string ⟨#[]⟩, .int .i64 0] 28)) := by rw [hpb]; exact hd
  have HB : Aside (Below w.heap.size w W2 ∧ w.heap.size ≤ pb) := ⟨bW, by rw [hpb]; exact hb.size⟩
  have K : Hid (Calls Try.prog 19 #[.slice a L.length c] W2.drew fun r w1 => ∃ g k, r = .returned (.slice (some ⟨g, 0, none⟩) k k) ∧ Below W2.heap.size W2 w1 ∧
      Calls Try.prog 24 #[.slice (some ⟨g, 0, none⟩) k k, .agg #[.string pr, .string fr, .int .i64 fi, .int .i64 mo], .func (.func 28) #[] #[]] w1 fun r w3 => ∃ a3 c3, r = .returned (.tuple #[.slice a3 (X.take mo.toNat).length c3, .bool (decide (mo < (X.length : Int)))]) ∧ EOwn w3 W2.heap.size (.slice a3 (X.take mo.toNat).length c3) (X.take mo.toNat) ∧ Es w3 a3 (X.take mo.toNat) ∧ Below W2.heap.size W2 w3) := by
    refine (sort_any a c L W2.drew (h.keep (bld bW 1)) (by omega)).mono ?_
    rintro r w1 ⟨g, M1, rfl, e1, s1, hb1, hg, k1⟩
    obtain rfl := hU M1 s1
    refine ⟨g, _, rfl, hop (bdn W2 1) k1, ?_⟩
    refine (cut_any _ _ _ ⟨pr, fr, fi, mo⟩ 28 (bhd ⟨pr, fr, fi, mo⟩) w1 hb1.es (by omega) hks hps hm.1 (enters_of Try.func28 (by kernel_rfl) rfl) (fun e w => behind_any e _ w)).mono ?_
    rintro r w3 ⟨v3, rfl, o3, k3⟩
    dsimp only at o3 ⊢
    rw [hX] at o3 ⊢
    obtain ⟨a3, c3, rfl, es3⟩ := out_es o3
    have kk := hop (hop (bdn W2 1) k1) k3
    exact ⟨a3, c3, rfl, o3.mono (hop (bdn W2 1) k1).size, es3, kk⟩
  have HAA : Aside (AAt W2 qb ⟨pr, fr, fi, mo⟩) := by rw [hqb]; exact hA2
  have HS : Aside (∀ w', Below W2.heap.size W2 w' → w'.cell? ⟨qb, 0, none⟩ = some (.string pr) ∧ w'.cell? ⟨qb, 1, none⟩ = some (.string fr) ∧ w'.cell? ⟨qb, 2, none⟩ = some (.int .i64 fi) ∧ w'.cell? ⟨qb, 3, none⟩ = some (.int .i64 mo)) := fun w' hw => by
    obtain ⟨x0, x1, x2, x3⟩ := HAA.out.keep hw
    exact ⟨x0, x1, x2, x3⟩
  obtain ⟨d0, d1, d2, d3⟩ := HAA.out
  dsimp only at d0 d1 d2 d3
  have HPB : Aside (pb = W1.heap.size ∧ qb = w.heap.size) := ⟨hpb, hqb⟩
  have HLX : Aside ((X.take mo.toNat).length = min mo.toNat X.length) := by show _ = _; rw [List.length_take]
  obtain ⟨XT, hXT⟩ : ∃ XT, XT = X.take mo.toNat := ⟨_, rfl⟩
  have HXT : Aside (XT = X.take mo.toNat) := hXT
  rw [← hXT] at K HLX
  unfold av anv
  dsimp only
  clear hA hb b2 hd hA2 bW h h0 hU hks hX hXT 
  go_enter Try.func14, Try.ntmps14
  go_upto_region 1 with fail
  rw [← hpb, ← hqb]
  clear hpb hqb
  go_wp2_with fail
  go_at_call 23
  refine (hc _).mono ?_
  rintro e w' ⟨rfl, rfl⟩
  go_upto_region 3 with fail
  obtain ⟨q0, q1, q2, q3⟩ := HS.out W2.drew (bdn W2 1)
  clear hb2 hbx
  obtain ⟨mr, hmr⟩ : ∃ mr, decide (mo < (X.length : Int)) = mr := ⟨_, rfl⟩
  rw [hmr] at K
  have HMR : Aside (decide (mo < (X.length : Int)) = mr) := hmr
  clear hmr
  go_region_held3 (fun X => X.cell? ⟨qb, 0, none⟩ = some (.string pr) ∧ X.cell? ⟨qb, 1, none⟩ = some (.string fr) ∧ X.cell? ⟨qb, 2, none⟩ = some (.int .i64 fi) ∧ X.cell? ⟨qb, 3, none⟩ = some (.int .i64 mo))
    (first | with_reducible exact ⟨q0, q1, q2, q3⟩ | with_reducible exact HS.out _ y3 | with_reducible exact HS.out _ y1)
    (first
      | (go_at_call 19; with_reducible refine K.out.mono ?_; rintro r w8 ⟨g, k, rfl, y1, z1⟩)
      | (go_at_call 24; with_reducible refine z1.mono ?_; rintro r w3 ⟨a3, c3, rfl, z3, z4, y3⟩))
  all_goals
    have hd3 : w3.heap[pb]? = some (.cells #[.slice none 0 0, .bool false, .string ⟨#[]⟩, .int .i64 0] 28) := (y3.block pb hlt).trans HD.out
    have c0 := cell_of_row w3 pb 0 _ _ _ hd3
    have c1 := cell_of_row w3 pb 1 _ _ _ hd3
    have c2 := cell_of_row w3 pb 2 _ _ _ hd3
    have c3' := cell_of_row w3 pb 3 _ _ _ hd3
    have f0 : ∀ j, w3.frozen? ⟨pb, j, none⟩ = false := fun j => frozen_of_row w3 pb j _ _ hd3
    have HZ : Aside (EOwn w3 W2.heap.size (.slice a3 XT.length c3) XT) := z3
    have HY : Aside (Below W2.heap.size W2 w3) := y3
    have HZ4 : Aside (Es w3 a3 XT) := z4
    have HD3 : Aside (w3.heap[pb]? = some (.cells #[.slice none 0 0, .bool false, .string ⟨#[]⟩, .int .i64 0] 28)) := hd3
    clear z3 z4 y3 hd3 K HS d0 d1 d2 d3
    cases mr with
    | false =>
      have hxx : XT = X := by rw [HXT.out, List.take_of_length_le]; have := of_decide_eq_false HMR.out; omega
      have HF : Aside (cutA X mo true = ⟨XT, false, ⟨#[]⟩, 0⟩) := by rw [hxx]; exact cutA_less HMR.out
      clear hxx HXT
      go_wp2_with fail
      refine bodyPost_ret (v := .tuple #[.agg #[.slice a3 XT.length c3, .bool false, .string ⟨#[]⟩, .int .i64 0], .int .i64 0]) (by simp [results, Try.results14, go_sem, *]) rfl ?_
      refine ⟨_, by rw [HF.out], ?_, ?_⟩
      · rw [HF.out]
        exact ((((HZ.out.set hlt).set hlt).set hlt).set hlt).mono (by have := HB.out.1.size; omega)
      · exact ((((hop HB.out.1 HY.out).setCell (p := ⟨_, 0, none⟩) HB.out.2 _).setCell (p := ⟨_, 1, none⟩) HB.out.2 _).setCell (p := ⟨_, 2, none⟩) HB.out.2 _).setCell (p := ⟨_, 3, none⟩) HB.out.2 _
    | true =>
      have hlx : mo < (X.length : Int) := of_decide_eq_true HMR.out
      have hxl : XT.length = mo.toNat := by rw [HLX.out]; omega
      obtain ⟨b, o, rfl, hcs⟩ := HZ4.out (by omega)
      obtain ⟨e, he⟩ : ∃ e, e = XT[XT.length - 1]! := ⟨_, rfl⟩
      have hce := hcs (XT.length - 1) (by omega)
      rw [← he] at hce
      obtain ⟨t, ht⟩ : ∃ t, t = XT.length - 1 := ⟨_, rfl⟩
      rw [← ht] at hce
      obtain ⟨e0, e1, e2, e3, e4, e5⟩ := hce
      have HF : Aside (cutA X mo true = ⟨XT, true, e.key, e.id⟩) := by
        show _ = _
        have hx : X[mo.toNat - 1]! = e := by rw [he, hxl, HXT.out]; exact (take_at X _ _ (by omega) (by omega)).symm
        rw [cutA_more HMR.out, HXT.out, hx]; rfl
      have i1 : (XT.length : Int) - 1 = (t : Int) := by omega
      have i2 : (t : Int) < (XT.length : Int) := by omega
      have i3 : IntKind.i64.wrap (t : Int) = (t : Int) := by rw [IntKind.wrap_i64]; omega
      clear hcs he HXT HLX hxl hlx ht
      obtain ⟨W6, hW6, h6, k6⟩ := box_en w3 48 e
      have g0 := (k6.cell (p := ⟨pb, 0, none⟩) (block_lt_of_cell c0)).trans c0
      have g1 := (k6.cell (p := ⟨pb, 1, none⟩) (block_lt_of_cell c1)).trans c1
      have g2 := (k6.cell (p := ⟨pb, 2, none⟩) (block_lt_of_cell c2)).trans c2
      have g3 := (k6.cell (p := ⟨pb, 3, none⟩) (block_lt_of_cell c3')).trans c3'
      have hd6 : W6.heap[pb]? = some (.cells #[.slice none 0 0, .bool false, .string ⟨#[]⟩, .int .i64 0] 28) := (k6.block pb (Array.getElem?_eq_some_iff.1 HD3.out).1).trans HD3.out
      have f6 : ∀ j, W6.frozen? ⟨pb, j, none⟩ = false := fun j => frozen_of_row W6 pb j _ _ hd6
      clear hd6
      obtain ⟨x0, x1, x2, x3, x4, x5⟩ := h6
      have HZ6 : Aside (EOwn W6 W2.heap.size (.slice (some ⟨b, o, none⟩) XT.length c3) XT) := HZ.out.keep k6
      have HY6 : Aside (Below w.heap.size w W6) := hop (hop HB.out.1 HY.out) k6
      clear k6
      go_wp2_with fail
      refine bodyPost_ret (v := .tuple #[.agg #[.slice (some ⟨b, o, none⟩) XT.length c3, .bool true, .string e.key, .int .i64 e.id], .int .i64 0]) (by simp [results, Try.results14, go_sem, *]) rfl ?_
      refine ⟨_, by rw [HF.out], ?_, ?_⟩
      · rw [HF.out]
        exact ((((HZ6.out.set hlt).set hlt).set hlt).set hlt).mono (by have := HB.out.1.size; omega)
      · exact (((HY6.out.setCell (p := ⟨_, 0, none⟩) HB.out.2 _).setCell (p := ⟨_, 1, none⟩) HB.out.2 _).setCell (p := ⟨_, 2, none⟩) HB.out.2 _).setCell (p := ⟨_, 3, none⟩) HB.out.2 _
end Go.Proofs.Ytahnkkifegdjeaa
