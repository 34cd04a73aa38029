/-
  What page.cut answers: those of a list that are asked for, so many at most.
-/
import Derived.Test.YtahnkkifegdjeaaEnA
import Derived.Deep.LoopGhost
namespace Go.Proofs.Ytahnkkifegdjeaa
open Go.RowKit Go.Shelf Go.Sort Nq
attribute [local go_sem ↓] Go.wp_at_zero Go.wp_at_succ
set_option linter.unusedVariables false

theorem wpList_append_ran {P : Program} {w : World} {ops : Array Oper} {rest : List Oper} {o : Oper} {a : Act} {Q : Exit → Act → World → Prop} (hgd : o.guard = none) (s x : Operand) (t : TypeId)
    (ho : o.op = .call { callee := .builtin .append, args := #[s, x], argTypes := #[t, t] }) (u v r : Value) (w' : World) (hs : a.eval s = u) (hx : a.eval x = v)
    (hr : Sem.run P (Builtin.append_ #[t, t] o.type #[u, v]) w = .ok r w') (h : wpList P ops Q rest (a.put o.dst r) w') : wpList P ops Q (o :: rest) a w := by
  refine wpList_plain hgd fun K hK => ?_
  unfold Oper.wp execOp
  simp only [ho, resolve, invoke, builtin, Sem.run_bind, Sem.run_pure, Result.andThen_ok, List.map_toArray, List.map_cons, List.map_nil, hs, hx, hr]
  exact hK _ _ h
theorem step_append_ran {P : Program} {w : World} {ops : Array Oper} {o : Oper} {a : Act} {K : Act → World → Prop} {Q : Exit → Act → World → Prop} {E : Prop} (hgd : o.guard = none) (s x : Operand) (t : TypeId)
    (ho : o.op = .call { callee := .builtin .append, args := #[s, x], argTypes := #[t, t] }) (u v r : Value) (w' : World) (hs : a.eval s = u) (hx : a.eval x = v)
    (hr : Sem.run P (Builtin.append_ #[t, t] o.type #[u, v]) w = .ok r w') (h : K (a.put o.dst r) w') :
    if Region.wanted o (yielded ops a.tmps) = true then Oper.wp P o a w K Q else E := by
  have hw : Region.wanted o (yielded ops a.tmps) = true := by simp [Region.wanted, hgd]
  rw [if_pos hw]
  unfold Oper.wp execOp
  simp only [ho, resolve, invoke, builtin, Sem.run_bind, Sem.run_pure, Result.andThen_ok, List.map_toArray, List.map_cons, List.map_nil, hs, hx, hr]
  exact h

theorem take_more (M : List En) (i : Nat) (h : i < M.length) : M.take (i + 1) = M.take i ++ [M[i]!] := by
  rw [List.take_add_one, List.getElem?_eq_getElem h, getElem!_pos M i h]; rfl
theorem filter_more (p : En → Bool) (M : List En) (i : Nat) (h : i < M.length) : (M.take (i + 1)).filter p = (M.take i).filter p ++ (if p M[i]! = true then [M[i]!] else []) := by
  rw [take_more M i h, List.filter_append]
  congr 1
  generalize M[i]! = e
  rw [List.filter_cons]
  rfl
theorem cut_full (p : En → Bool) (M : List En) (i : Nat) (h : i < M.length) (hp : p M[i]! = true) (k : Nat) (hk : ((M.take i).filter p).length = k) :
    (M.filter p).take k = (M.take i).filter p ∧ k < (M.filter p).length := by
  have e : M.filter p = (M.take i).filter p ++ (M[i]! :: (M.drop (i + 1)).filter p) := by
    conv => lhs; rw [← List.take_append_drop i M, List.drop_eq_getElem_cons h, List.filter_append]
    rw [getElem!_pos M i h] at *
    rw [List.filter_cons, if_pos hp]
  rw [e]
  refine ⟨by rw [List.take_append_of_le_length (by omega), List.take_of_length_le (by omega)], ?_⟩
  rw [List.length_append, List.length_cons]; omega
/-- one more entry behind a row of one's own: the literal's block, then the append -/
theorem push_en {w : World} {base : Nat} {v : Value} {L : List En} (e : En) (h : EOwn w base v L) (hl : L.length + 1 ≤ 1000000) (hb : base ≤ w.heap.size) :
    ∃ v' W, Sem.run Try.prog (Builtin.append_ #[22, 22] 22 #[v, .slice (some ⟨w.heap.size, 0, none⟩) 1 1]) (w.alloc (.cells #[.string e.key, .int .i64 e.id, .bool e.mr, .int .i64 e.sz, .int .u32 (e.sm : Int), .bool e.la] 48)) = .ok v' W ∧
      EOwn W base v' (L ++ [e]) ∧ Below base w W := by
  obtain ⟨W1, hw, h1, b1⟩ := box_en w 48 e
  rw [hw]
  have hE : Es W1 (some ⟨w.heap.size, 0, none⟩) [e] := fun _ => ⟨w.heap.size, 0, rfl, fun i hi => by
    have : i = 0 := by simpa using hi
    subst this
    exact h1⟩
  obtain ⟨v', W, hr, ho, hg, hbl⟩ := appendE (c := 1) (h.keep b1) hE (fun q => by cases q) (by simpa using hl) (Nat.le_trans hb b1.size)
  exact ⟨v', W, hr, ho, (b1.mono hb).trans hbl⟩

set_option maxRecDepth 100000 in
set_option maxHeartbeats 4000000 in
theorem cut_any (a : Option Addr) (c : Nat) (M : List En) (q : Aq) (F : Nat) (f : En → Bool) (w : World) (h : Es w a M) (hl : M.length ≤ 900000) (hks : ∀ e ∈ M, e.key.size ≤ maxLen) (hps : q.pr.size ≤ maxLen) (hm : 1 ≤ q.mo)
    (eg : ∀ args w, (callFunc F args).run Try.prog w = .ok (.enter F args) w) (hF : ∀ e w, Calls Try.prog F #[ev e, av q] w fun r w' => r = .returned (.bool (f e)) ∧ Below w.heap.size w w') :
    Calls Try.prog 24 #[.slice a M.length c, av q, .func (.func F) #[] #[]] w fun r w' =>
      ∃ v, r = .returned (.tuple #[v, .bool (decide (q.mo < ((M.filter (fun e => pre (tx e.key) (tx q.pr) && f e)).length : Int)))]) ∧
        EOwn w' w.heap.size v ((M.filter (fun e => pre (tx e.key) (tx q.pr) && f e)).take q.mo.toNat) ∧ Below w.heap.size w w' := by
  obtain ⟨p, hp⟩ : ∃ p : En → Bool, p = fun e => pre (tx e.key) (tx q.pr) && f e := ⟨_, rfl⟩
  rw [← hp]
  have HP : Aside (∀ e, p e = (pre (tx e.key) (tx q.pr) && f e)) := fun e => by rw [hp]
  clear hp
  obtain ⟨pr, fr, fi, mo⟩ := q
  obtain ⟨W1, hbx, hA, hb⟩ := box_aq w 32 ⟨pr, fr, fi, mo⟩
  have HA : Aside (AAt W1 w.heap.size ⟨pr, fr, fi, mo⟩) := hA
  have HB : Aside (Below w.heap.size w W1) := hb
  have HE : Aside (Es W1 a M) := h.keep hb
  have HF : Aside _ := hF
  have HK : Aside (∀ e ∈ M, e.key.size ≤ maxLen) := hks
  have HPS : Aside (pr.size ≤ maxLen) := hps
  have HX : Aside (w.alloc (.cells #[.string pr, .string fr, .int .i64 fi, .int .i64 mo] 32) = W1) := hbx
  obtain ⟨B, hB⟩ : ∃ B, B = w.heap.size := ⟨_, rfl⟩
  have hBW : B < W1.heap.size := by
    have : w.heap.size < W1.heap.size := block_lt_of_cell hA.c0
    omega
  unfold av at *
  dsimp only at *
  have hm' : ¬ mo < 1 := by omega
  have HBB : Aside (B = w.heap.size) := hB
  rw [← hB] at HA
  clear hA hb h hF hks hps hB
  go_enter Try.func24, Try.ntmps24
  go_wp2
  rw [← HBB.out]
  generalize w.alloc (.cells #[.string pr, .string fr, .int .i64 fi, .int .i64 mo] 32) = W1' at *
  obtain rfl : W1' = W1 := hbx
  go_loopg [13, 8] (M.length) (fun kx s13 s8 wr => ∃ (i : Nat) (Y : List En), s13 = .int .i64 i ∧ i ≤ M.length ∧ M.length - i ≤ kx ∧ (Y.length : Int) ≤ mo ∧ Y.length ≤ i ∧ Aside (Y = (M.take i).filter p) ∧ Aside (EOwn wr W1'.heap.size s8 Y) ∧ Aside (Below W1'.heap.size W1' wr))
  case atStart => exact ⟨0, [], rfl, Nat.zero_le _, by omega, by simp; omega, Nat.le_refl _, by show _ = _; simp, EOwn.start _ _, Below.refl _ _⟩
  case round =>
    obtain ⟨i, Y, rfl, hi, hkx, hym, hyi, HY, HO, HL⟩ := hrel
    by_cases hlt : i < M.length
    · obtain ⟨b, o, rfl, hc⟩ := HE.out (by omega)
      obtain ⟨e, he⟩ : ∃ e, e = M[i]! := ⟨_, rfl⟩
      have hce := (hc i hlt).keep HL.out
      rw [← he] at hce
      have HEE : Aside (e = M[i]!) := he
      have hkp : e.key.size ≤ maxLen := HK.out e (by rw [he, getElem!_pos M i hlt]; exact List.getElem_mem _)
      have hpe := HP.out e
      have hmo := filter_more p M i hlt
      rw [← he, ← HY.out] at hmo
      have hfull := cut_full p M i hlt
      rw [← he, ← HY.out] at hfull
      obtain ⟨c0, c1, c2, c3, c4, c5⟩ := hce
      have hiz : (i : Int) < (M.length : Int) := by omega
      have HM1 : Aside _ := hmo
      have HFU : Aside _ := hfull
      clear hc he hmo hfull
      go_upto_region 5 with fail
      have cP := prefix_any e.key pr
      have cF := HF.out e
      unfold ev at cF
      obtain ⟨W2, hW2, h2, k2⟩ := box_en wr 48 e
      rw [hW2]
      have HO2 : Aside (EOwn W2 W1'.heap.size _ Y) := HO.out.keep k2
      have HL2 : Aside (Below W1'.heap.size W1' W2) := hop HL.out k2
      have H2 : Aside (EAt W2 wr.heap.size 0 e) := h2
      obtain ⟨d0, d1, d2, d3⟩ := HA.out.keep HL2.out
      dsimp only at d0 d1 d2 d3
      obtain ⟨x0, x1, x2, x3, x4, x5⟩ := h2
      have LW : W1'.heap.size ≤ wr.heap.size := HL.out.size
      clear k2 hW2 HO HL c0 c1 c2 c3 c4 c5
      generalize wr.heap.size = pb at *
      cases hpv : pre (tx e.key) (tx pr) with
      | false =>
        rw [hpv] at hpe cP
        have HY2 : Aside (Y = (M.take (i + 1)).filter p) := by
          show _ = _
          rw [HM1.out, if_neg (by rw [hpe]; simp)]; simp
        clear hpv hpe HM1 HFU HY
        go_wp2_with fail
        go_at_call 31
        refine (cP _ hkp HPS.out).mono ?_
        rintro r w' ⟨rfl, rfl⟩
        go_wp2
        go_roundg (M.length - (i + 1))
        case measure => omega
        case rel => exact ⟨i + 1, Y, by go_num, by omega, Nat.le_refl _, hym, by omega, HY2, HO2, HL2⟩
      | true =>
        rw [hpv] at hpe cP
        cases hfv : f e with
        | false =>
          rw [hfv] at hpe cF
          have HY2 : Aside (Y = (M.take (i + 1)).filter p) := by
            show _ = _
            rw [HM1.out, if_neg (by rw [hpe]; simp)]; simp
          clear hpv hfv hpe HM1 HFU HY
          go_wp2_with fail
          go_at_call 31
          refine (cP _ hkp HPS.out).mono ?_
          rintro r w' ⟨rfl, rfl⟩
          go_wp2_with fail
          go_at_fn F
          refine (cF _).mono ?_
          rintro r w3 ⟨rfl, k3⟩
          have HO3 : Aside (EOwn w3 W1'.heap.size _ Y) := HO2.out.keep k3
          have HL3 : Aside (Below W1'.heap.size W1' w3) := hop HL2.out k3
          clear HO2 HL2 k3
          go_wp2
          go_roundg (M.length - (i + 1))
          case measure => omega
          case rel => exact ⟨i + 1, Y, by go_num, by omega, Nat.le_refl _, hym, by omega, HY2, HO3, HL3⟩
        | true =>
          rw [hfv] at hpe cF
          have hpt : p e = true := by rw [hpe]; rfl
          have HY2 : Aside (Y ++ [e] = (M.take (i + 1)).filter p) := by
            show _ = _
            rw [HM1.out, if_pos hpt]
          have HFU2 : Aside (∀ k, Y.length = k → (M.filter p).take k = Y ∧ k < (M.filter p).length) := HFU.out hpt
          clear hpv hfv hpe hpt HM1 HFU HY
          go_wp2_with fail
          go_at_call 31
          refine (cP _ hkp HPS.out).mono ?_
          rintro r w' ⟨rfl, rfl⟩
          go_wp2_with fail
          go_at_fn F
          refine (cF _).mono ?_
          rintro r w3 ⟨rfl, k3⟩
          have HO3 : Aside (EOwn w3 W1'.heap.size _ Y) := HO2.out.keep k3
          have HL3 : Aside (Below W1'.heap.size W1' w3) := hop HL2.out k3
          obtain ⟨y0, y1, y2, y3⟩ := HA.out.keep HL3.out
          dsimp only at y0 y1 y2 y3
          obtain ⟨z0, z1, z2, z3, z4, z5⟩ := H2.out.keep k3
          obtain ⟨a8, c8, hv8, _, _, _, _⟩ := HO3.out.es
          have hB3 : W1'.heap.size ≤ w3.heap.size := HL3.out.size
          obtain ⟨v5, W5, hr5, ho5, hb5⟩ := push_en e HO3.out (by omega) hB3
          have HO5 : Aside (EOwn W5 W1'.heap.size v5 (Y ++ [e])) := ho5
          have HL5 : Aside (Below W1'.heap.size W1' W5) := HL3.out.trans hb5
          subst hv8
          by_cases hfl : (Y.length : Int) = mo
          · have hflb : ((Y.length : Int) == mo) = true := by simp [hfl]
            have HR := HFU2.out mo.toNat (by omega)
            have HR2 : Aside (EOwn w3 B (.slice a8 Y.length c8) ((M.filter p).take mo.toNat) ∧ decide (mo < ((M.filter p).length : Int)) = true) := by
              refine ⟨by rw [HR.1]; exact HO3.out.mono (by omega), decide_eq_true (by omega)⟩
            have HR3 : Aside (Below B w w3) := by
              rw [HBB.out]; exact hop HB.out HL3.out
            clear HR HFU2 HO2 HL2 k3 hr5 ho5 hb5 HO3 HL3 HO5 HL5
            go_wp2
            refine bodyPost_ret (v := .tuple #[.slice a8 Y.length c8, .bool true]) (by simp [results, Try.results24, go_sem, *]) rfl ?_
            exact ⟨_, by rw [HR2.out.2], by rw [← HBB.out]; exact HR2.out.1, by rw [← HBB.out]; exact HR3.out⟩
          · have hflb : ((Y.length : Int) == mo) = false := by simp [hfl]
            clear HFU2 HO2 HL2 k3 ho5 hb5 HO3 HL3
            go_wp2_with (at_builtin; refine wpList_append_ran (by rfl) _ _ 22 (by rfl) _ _ _ _ (by rfl) (by rfl) hr5 ?_)
            go_roundg (M.length - (i + 1))
            case measure => omega
            case rel => exact ⟨i + 1, Y ++ [e], by go_num, by omega, Nat.le_refl _, by simp; omega, by simp; omega, HY2, HO5, HL5⟩
    · have hiz : ¬ (i : Int) < (M.length : Int) := by omega
      obtain ⟨a8, c8, hv8, _, _, _, _⟩ := HO.out.es
      have HYY : M.filter p = Y := by
        have := HY.out
        rw [List.take_of_length_le (by omega)] at this
        exact this.symm
      have HR2 : Aside (EOwn wr B (.slice a8 Y.length c8) ((M.filter p).take mo.toNat) ∧ decide (mo < ((M.filter p).length : Int)) = false) := by
        rw [HYY, List.take_of_length_le (by omega), ← hv8]
        exact ⟨HO.out.mono (by omega), decide_eq_false (by omega)⟩
      have HR3 : Aside (Below B w wr) := by
        rw [HBB.out]; exact hop HB.out HL.out
      subst hv8
      clear HYY HO HL HY
      go_wp2
      refine bodyPost_ret (v := .tuple #[.slice a8 Y.length c8, .bool false]) (by simp [results, Try.results24, go_sem, *]) rfl ?_
      exact ⟨_, by rw [HR2.out.2], by rw [← HBB.out]; exact HR2.out.1, by rw [← HBB.out]; exact HR3.out⟩
end Go.Proofs.Ytahnkkifegdjeaa
