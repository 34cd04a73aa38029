/-
  What shard.appendNumber, appendHead, fileBytes, NewWriter do.
-/
import Derived.Test.YtjbdncgmpccedaaDoorShD
namespace Go.Proofs.YtjbdncgmpccedaaDoor
open Go.RowKit Crc
attribute [local go_sem ↓] Go.wp_at_zero Go.wp_at_succ
set_option linter.unusedVariables false

/-- What is no row of bytes is as it was. -/
def Still (w w' : World) : Prop := ∀ (b : Nat) (cs : Array Value) (t : TypeId) (fr : Nat × Nat), t ≠ 5 → w.heap[b]? = some (.cells cs t fr) → w'.heap[b]? = some (.cells cs t fr)
theorem Still.trans {a b c : World} (h : Still a b) (k : Still b c) : Still a c := fun x cs t fr ht hx => k x cs t fr ht (h x cs t fr ht hx)
theorem still_below {w w' : World} (h : Below w.heap.size w w') : Still w w' := fun b cs t fr _ hx => (h.block b (Array.getElem?_eq_some_iff.1 hx).1).trans hx
theorem Own.still {w W : World} {base n : Nat} {v : Value} {f : Nat → Nat} (o : Own w base v n f) (g : w.grownBy W v.ownBlock) : Still w W := fun b cs t fr ht hx =>
  (g.block b (Array.getElem?_eq_some_iff.1 hx).1 (fun e => by
    rcases o.2 with ⟨rfl, _⟩ | ⟨q, cap, cur, rfl, _, hg, _⟩
    · simp [Value.ownBlock] at e
    · simp [Value.ownBlock] at e
      subst e
      rw [hg] at hx
      injection hx with hx
      injection hx with _ hx _
      exact ht hx.symm)).trans hx
theorem HalfT.keepB {w w' : World} {base : Nat} (h : HalfT w) (hb : Below base w w') (h0 : 0 < base) : HalfT w' := fun i hi =>
  (hb.cell (p := ⟨0, i, none⟩) h0).trans (h i hi)
/-- A head in block p. -/
def HdB (w : World) (p : Nat) (K M I B S D : Int) (t : TypeId) : Prop := w.heap[p]? = some (.cells #[.int .i64 K, .int .i64 M, .int .i64 I, .int .i64 B, .int .i64 S, .int .i64 D] t)
theorem HdB.at {w : World} {p : Nat} {K M I B S D : Int} {t : TypeId} (h : HdB w p K M I B S D t) : HdAt w p K M I B S D :=
  ⟨cell_of_row w p 0 _ _ _ h, cell_of_row w p 1 _ _ _ h, cell_of_row w p 2 _ _ _ h, cell_of_row w p 3 _ _ _ h, cell_of_row w p 4 _ _ _ h, cell_of_row w p 5 _ _ _ h⟩
theorem HdB.still {w w' : World} {p : Nat} {K M I B S D : Int} {t : TypeId} (h : HdB w p K M I B S D t) (k : Still w w') (ht : t ≠ 5) : HdB w' p K M I B S D t := k _ _ _ _ ht h

/-- Four bytes more, that were just written out. -/
theorem push4 {w : World} {base k x y z u : Nat} {v : Value} {F g : Nat → Nat} (h : Own w base v k F) (hg : ∀ i, g i < 256) (h0 : g 0 = x) (h1 : g 1 = y) (h2 : g 2 = z) (h3 : g 3 = u) (hk : k < 1000000) (hb : base ≤ w.heap.size) :
    ∃ v' W, Sem.run Tryd.prog (Builtin.append_ #[24, 24] 24 #[v, .slice (some ⟨w.heap.size, 0, none⟩) 4 4]) (w.alloc (.cells #[.int .u8 ((x : Nat) : Int), .int .u8 ((y : Nat) : Int), .int .u8 ((z : Nat) : Int), .int .u8 ((u : Nat) : Int)] 5)) = .ok v' W ∧ Own W base v' (k + 4) (cat k F g) ∧ Below base w W ∧ Still w W := by
  have b1 : Below w.heap.size w (w.alloc (.cells #[.int .u8 ((x : Nat) : Int), .int .u8 ((y : Nat) : Int), .int .u8 ((z : Nat) : Int), .int .u8 ((u : Nat) : Int)] 5)) := bal w _
  obtain ⟨v', W, hr, ho, hbl, hgr⟩ := appendG (c := 4) (h.keep b1) ((lit4 w x y z u g h0 h1 h2 h3).row hg) (fun e => by cases e) (by omega) (by have := b1.size; omega)
  exact ⟨v', W, hr, ho, (b1.mono hb).trans hbl, (still_below b1).trans ((h.keep b1).still hgr)⟩

set_option maxRecDepth 100000 in
theorem appNum_any (w : World) (base n x : Nat) (v : Value) (F : Nat → Nat) (ho : Own w base v n F) (hb : base ≤ w.heap.size) (hn : n < 1000000) (hx : x < 4294967296) :
    Calls Tryd.prog 29 #[v, .int .i64 (x : Int)] w fun e w' => ∃ v', e = .returned v' ∧ Own w' base v' (n + 4) (cat n F (by4 x)) ∧ Below base w w' ∧ Still w w' := by
  obtain ⟨v', W, hr, ho', hb', hst⟩ := push4 ho (by4_lt x) rfl rfl rfl rfl hn hb
  have e0 : (x : Int) % 256 = ((by4 x 0 : Nat) : Int) := by unfold by4; simp
  have e1 : (x : Int) / 256 % 256 = ((by4 x 1 : Nat) : Int) := by unfold by4; simp
  have e2 : (x : Int) / 65536 % 256 = ((by4 x 2 : Nat) : Int) := by unfold by4; simp
  have e3 : (x : Int) / 16777216 = ((by4 x 3 : Nat) : Int) := by
    unfold by4
    rw [Nat.mod_eq_of_lt (by simp; omega)]
    simp
  have HA : Hid _ := hr
  have HO : Hid (Own W base v' (n + 4) (cat n F (by4 x))) := ho'
  clear hr ho' ho
  have HST : Hid (Still w W) := hst
  clear hst
  generalize by4 x 0 = y0 at *
  generalize by4 x 1 = y1 at *
  generalize by4 x 2 = y2 at *
  generalize by4 x 3 = y3 at *
  go_enter Tryd.func29, Tryd.ntmps29
  go_wp2_with (at_builtin; refine wpList_append_ran (by rfl) _ _ 24 (by rfl) _ _ _ _ (by rfl) (by rfl) HA.out ?_)
  go_ret
  exact ⟨_, rfl, HO.out, hb', HST.out⟩

theorem wpList_append_ran2 {P : Program} {w : World} {ops : Array Oper} {rest : List Oper} {o : Oper} {a : Act} {Q : Exit → Act → World → Prop} (hgd : o.guard = none) (s x : Operand) (t t' : TypeId)
    (ho : o.op = .call { callee := .builtin .append, args := #[s, x], argTypes := #[t, t'] }) (u v r : Value) (w' : World) (hs : a.eval s = u) (hx : a.eval x = v)
    (hr : Sem.run P (Builtin.append_ #[t, t'] o.type #[u, v]) w = .ok r w') (h : wpList P ops Q rest (a.put o.dst r) w') : wpList P ops Q (o :: rest) a w := by
  refine wpList_plain hgd fun K hK => ?_
  unfold Oper.wp execOp
  simp only [ho, resolve, invoke, builtin, Sem.run_bind, Sem.run_pure, Result.andThen_ok, List.map_toArray, List.map_cons, List.map_nil, hs, hx, hr]
  exact hK _ _ h
def sbx : Nat → Nat := fun p => if p = 0 then 83 else if p = 1 then 66 else if p = 2 then 88 else 49
theorem push_sbx {w : World} {base k : Nat} {v : Value} {F : Nat → Nat} (h : Own w base v k F) (hk : k < 1000000) (hb : base ≤ w.heap.size) :
    ∃ v' W, Sem.run Tryd.prog (Builtin.append_ #[24, 9] 24 #[v, .string { data := #[83, 66, 88, 49] }]) w = .ok v' W ∧ Own W base v' (k + 4) (cat k F sbx) ∧ Below base w W ∧ Still w W := by
  obtain ⟨i, hi, hzz⟩ := Option.map_eq_some_iff.1 info5
  simp only [Prod.mk.injEq] at hzz
  obtain ⟨hz, hs, hby⟩ := hzz
  obtain ⟨v', W, hr, ho, hg, _⟩ := Lib.run_append_own_string (P := Tryd.prog) w base 24 9 24 5 i Tryd.underlying24 Tryd.underlying9 hi hz hs hby v k (bs F k) h { data := #[83, 66, 88, 49] } (by unfold maxLen; show k + 4 ≤ _; omega) (by show k + 4 ≤ _; omega) hb
  refine ⟨v', W, hr, ?_, Below.ofGrown h hg hb, h.still hg⟩
  unfold Own
  rw [← bs_cat]
  exact ho

theorem head_cat (K M I B S D : Nat) (f g : Nat → Nat) (h0 : g 0 = K % 256) (h1 : g 1 = M % 256) (h2 : g 2 = I % 256) (h3 : g 3 = 0) (z : Nat → Nat) (i : Nat) (hi : i < 20) :
    cat 16 (cat 12 (cat 8 (cat 4 (cat 0 z sbx) g) (by4 B)) (by4 S)) (by4 D) i = hd20 K M I B S D i := by
  unfold cat hd20 sbx
  by_cases a1 : i < 4
  · rw [if_pos (by omega), if_pos (by omega), if_pos (by omega), if_pos a1, if_neg (by omega), if_pos a1, Nat.sub_zero]
  · by_cases a2 : i < 8
    · rw [if_pos (by omega), if_pos (by omega), if_pos (by omega), if_neg a1, if_neg a1, if_pos a2]
      rcases (by omega : i = 4 ∨ i = 5 ∨ i = 6 ∨ i = 7) with rfl | rfl | rfl | rfl <;> simp [h0, h1, h2, h3]
    · by_cases a3 : i < 12
      · rw [if_pos (by omega), if_pos (by omega), if_neg a2, if_neg a1, if_neg a2, if_pos a3]
      · by_cases a4 : i < 16
        · rw [if_pos (by omega), if_neg a3, if_neg a1, if_neg a2, if_neg a3, if_pos a4]
        · rw [if_neg a4, if_neg a1, if_neg a2, if_neg a3, if_neg a4, if_pos hi]

set_option maxRecDepth 100000 in
set_option maxHeartbeats 1000000 in
theorem appHead_any (w : World) (base K M I B S D : Nat) (v : Value) (F f : Nat → Nat) (T : HalfT w) (ho : Own w base v 0 F) (hb : base ≤ w.heap.size) (hT : 0 < base)
    (hK : K < 256) (hM : M < 256) (hI : I < 256) (hB : B < 4294967296) (hS : S < 4294967296) (hD : D < 4294967296) :
    Calls Tryd.prog 24 #[v, hv K M I B S D] w fun e w' => ∃ v', e = .returned v' ∧ Own w' base v' 24 (file K M I B S D f) ∧ Below base w w' := by
  have hb0 : Below w.heap.size w (w.alloc (.cells #[.int .i64 (K : Int), .int .i64 (M : Int), .int .i64 (I : Int), .int .i64 (B : Int), .int .i64 (S : Int), .int .i64 (D : Int)] 29)) := bal _ _
  have hd0 : HdB (w.alloc (.cells #[.int .i64 (K : Int), .int .i64 (M : Int), .int .i64 (I : Int), .int .i64 (B : Int), .int .i64 (S : Int), .int .i64 (D : Int)] 29)) w.heap.size K M I B S D 29 := heap_alloc_new _ _
  obtain ⟨W0, hbx⟩ : ∃ W0, w.alloc (.cells #[.int .i64 (K : Int), .int .i64 (M : Int), .int .i64 (I : Int), .int .i64 (B : Int), .int .i64 (S : Int), .int .i64 (D : Int)] 29) = W0 := ⟨_, rfl⟩
  rw [hbx] at hb0 hd0
  have hbs : base ≤ W0.heap.size := Nat.le_trans hb hb0.size
  obtain ⟨v1, W1, hr1, ho1, hb1, st1⟩ := push_sbx (ho.keep hb0) (by omega) hbs
  have hd1 := hd0.still st1 (by decide)
  obtain ⟨c0, c1, c2, c3, c4, c5⟩ := hd1.at
  have hb01 : Below base w W1 := (hb0.mono hb).trans hb1
  obtain ⟨g, hg0, hg1, hg2, hg3, hgl⟩ : ∃ g : Nat → Nat, g 0 = K % 256 ∧ g 1 = M % 256 ∧ g 2 = I % 256 ∧ g 3 = 0 ∧ ∀ i, g i < 256 := ⟨fun i => if i = 0 then K % 256 else if i = 1 then M % 256 else if i = 2 then I % 256 else 0, rfl, rfl, rfl, rfl, fun i => by dsimp only; (repeat' split) <;> omega⟩
  obtain ⟨v2, W2, hr2, ho2, hb2, st2⟩ := push4 (x := K) (y := M) (z := I) (u := 0) ho1 hgl (by omega) (by omega) (by omega) hg3 (by omega) (Nat.le_trans hb hb01.size)
  have hd2 := hd1.still st2 (by decide)
  have hb02 := hb01.trans hb2
  have HA1 : Hid _ := hr1
  have HA2 : Hid _ := hr2
  have cN1 := appNum_any W2 base _ B v2 _ ho2 (Nat.le_trans hb hb02.size) (by omega) hB
  have HD2 : Hid (HdB W2 w.heap.size K M I B S D 29) := hd2
  have HB2 : Hid (Below base w W2) := hb02
  have d3 := hd2.at.c3
  have i0 : (0 : Int) ≤ (K : Int) := by omega
  have i1 : (K : Int) < 256 := by omega
  have i2 : (M : Int) < 256 := by omega
  have i3 : (I : Int) < 256 := by omega
  clear hr1 hr2 ho1 ho2 hb1 hb2 st1 st2 hd0 hd1 hd2 hb0 hb01 hb02 hbs ho
  unfold hv
  go_enter Tryd.func24, Tryd.ntmps24
  go_wp2_with (at_builtin; first | refine wpList_append_ran2 (by rfl) _ _ 24 9 (by rfl) _ _ _ _ (by rfl) (by rfl) HA1.out ?_ | refine wpList_append_ran (by rfl) _ _ 24 (by rfl) _ _ _ _ (by rfl) (by rfl) HA2.out ?_)
  go_at_call 29
  refine cN1.mono ?_
  rintro e W3 ⟨v3, rfl, ho3, hb3, st3⟩
  clear cN1 HA1 HA2
  have hd3 := HD2.out.still st3 (by decide)
  have hb03 := HB2.out.trans hb3
  have cN2 := appNum_any W3 base _ S v3 _ ho3 (Nat.le_trans hb hb03.size) (by omega) hS
  have HD3 : Hid (HdB W3 w.heap.size K M I B S D 29) := hd3
  have HB3 : Hid (Below base w W3) := hb03
  have d4 := hd3.at.c4
  clear hd3 hb03 ho3 hb3 st3 HD2 HB2
  go_wp2_with fail
  go_at_call 29
  refine cN2.mono ?_
  rintro e W4 ⟨v4, rfl, ho4, hb4, st4⟩
  clear cN2
  have hd4 := HD3.out.still st4 (by decide)
  have hb04 := HB3.out.trans hb4
  have cN3 := appNum_any W4 base _ D v4 _ ho4 (Nat.le_trans hb hb04.size) (by omega) hD
  have HB4 : Hid (Below base w W4) := hb04
  have d5 := hd4.at.c5
  clear hd4 hb04 ho4 hb4 st4 HD3 HB3
  go_wp2_with fail
  go_at_call 29
  refine cN3.mono ?_
  rintro e W5 ⟨v5, rfl, ho5, hb5, st5⟩
  clear cN3
  have hb05 := HB4.out.trans hb5
  have ho5' : Own W5 base v5 20 (hd20 K M I B S D) := ho5.congr fun i hi => head_cat K M I B S D f g hg0 hg1 hg2 hg3 _ i hi
  obtain ⟨g5, c5', rfl, z1, z2, z3, r5⟩ := ho5'.row (by omega) (hd20_lt K M I B S D)
  have T5 : HalfT W5 := T.keepB hb05 hT
  have cS := sum_any (some ⟨g5, 0, none⟩) 20 c5' _ W5 T5 r5 (by unfold maxLen; omega)
  have ls : sum 20 (hd20 K M I B S D) < 4294967296 := more_lt (by omega) (hd20_lt K M I B S D)
  have cB := bytes_any (sum 20 (hd20 K M I B S D)) W5 ls
  have HO5 : Hid (Own W5 base (.slice (some ⟨g5, 0, none⟩) 20 c5') 20 (hd20 K M I B S D)) := ho5'
  have HB5 : Hid (Below base w W5) := hb05
  clear ho5 ho5' hb05 hb5 st5 HB4 r5 T5
  go_wp2_with fail
  go_at_call 31
  refine cS.mono ?_
  rintro e w' ⟨rfl, rfl⟩
  clear cS
  go_wp2_with fail
  go_at_call 30
  refine cB.mono ?_
  rintro e W6 ⟨rfl, m4, b6⟩
  clear cB
  have hb06 : Below base w W6 := HB5.out.trans (b6.mono (Nat.le_trans hb HB5.out.size))
  obtain ⟨v7, W7, hr7, ho7, hbl7, _⟩ := appendG (c := 4) (HO5.out.keep b6) (m4.row (by4_lt _)) (fun e => by cases e) (by omega) (Nat.le_trans hb hb06.size)
  have HA7 : Hid _ := hr7
  have HO7 : Hid (Own W7 base v7 24 (file K M I B S D f)) := ho7.congr fun i hi => by
    unfold cat file
    split
    · rfl
    · rfl
  have HB7 : Hid (Below base w W7) := hb06.trans hbl7
  clear hr7 ho7 hbl7 hb06 m4 b6 HO5 HB5
  go_wp2_with (at_builtin; refine wpList_append_ran (by rfl) _ _ 24 (by rfl) _ _ _ _ (by rfl) (by rfl) HA7.out ?_)
  go_ret
  exact ⟨_, rfl, HO7.out, HB7.out⟩

set_option maxRecDepth 100000 in
theorem fileBytes_any (w : World) (K M I D : Int) (B S : Nat) (hB : 16 ≤ B) (hB2 : B ≤ 4096) (hS : S ≤ 65536) :
    Calls Tryd.prog 23 #[hv K M I B S D] w fun e w' => ∃ x : Nat, x ≤ 1000000 ∧ e = .returned (.int .i64 (x : Int)) ∧ Below w.heap.size w w' := by
  obtain ⟨W, hbx, ⟨c0, c1, c2, c3, c4, c5⟩, hb⟩ := box_head w 29 K M I B S D
  unfold hv
  obtain ⟨q, hq⟩ : ∃ q : Nat, ((S : Int) + (B : Int) - 1) / (B : Int) = (q : Int) := ⟨(S + B - 1) / B, by rw [show (S : Int) + (B : Int) - 1 = ((S + B - 1 : Nat) : Int) by omega]; simp⟩
  have hq2 : q ≤ 70000 := by
    have e : ((S : Int) + (B : Int) - 1) / (B : Int) ≤ (S : Int) + (B : Int) - 1 := Int.ediv_le_self _ (by omega)
    omega
  have i1 : (0 : Int) < (B : Int) := by omega
  have i2 : (0 : Int) ≤ (S : Int) + (B : Int) - 1 := by omega
  have HB : Hid (Below w.heap.size w W) := hb
  clear hb
  go_enter Tryd.func23, Tryd.ntmps23
  go_wp2
  go_ret
  exact ⟨24 + S + q * 4, by omega, by simp, HB.out⟩
end Go.Proofs.YtjbdncgmpccedaaDoor
