/-
  What journal.fileBytes, appendNumber, appendVersion, Encode do.
-/
import Derived.Test.YtfgngecenbopnaaDoorJnO
import Derived.Lib.AppendStr
namespace Go.Proofs.YtfgngecenbopnaaDoor
open Go.RowKit Crc
attribute [local go_sem ↓] Go.wp_at_zero Go.wp_at_succ
set_option linter.unusedVariables false

/-- What is no row of bytes is as it was. -/
def Still (w w' : World) : Prop := ∀ (b : Nat) (cs : Array Value) (t : TypeId) (fr : Nat × Nat), t ≠ 5 → w.heap[b]? = some (.cells cs t fr) → w'.heap[b]? = some (.cells cs t fr)
theorem Still.trans {a b c : World} (h : Still a b) (k : Still b c) : Still a c := fun x cs t fr ht hx => k x cs t fr ht (h x cs t fr ht hx)
theorem still_below {w w' : World} (h : Below w.heap.size w w') : Still w w' := fun b cs t fr _ hx => (h.block b (Array.getElem?_eq_some_iff.1 hx).1).trans hx
theorem Own.still {w W : World} {base n : Nat} {v : Value} {f : Nat → Nat} (o : Own w base v n f) (g : w.grownBy W v.ownBlock) : Still w W := fun b cs t fr ht hx =>
  (g.block b (Array.getElem?_eq_some_iff.1 hx).1 (fun e => by
    rcases o.2 with ⟨rfl, _⟩ | ⟨q, cap, cur, rfl, _, hg, _⟩
    · simp [Value.ownBlock] at e
    · simp [Value.ownBlock] at e
      subst e
      rw [hg] at hx
      injection hx with hx
      injection hx with _ hx _
      exact ht hx.symm)).trans hx
theorem HalfT.keepB {w w' : World} {base : Nat} (h : HalfT w) (hb : Below base w w') (h0 : 0 < base) : HalfT w' := fun i hi =>
  (hb.cell (p := ⟨0, i, none⟩) h0).trans (h i hi)
theorem HalfT.lt {w : World} (h : HalfT w) : 0 < w.heap.size := block_lt_of_cell (h 0 (by omega))
/-- A version in a block of its own. -/
def VerB (w : World) (p : Nat) (v : Ver) : Prop := w.heap[p]? = some (.cells #[.int .i64 v.id, .bool v.mr, .int .i64 v.sz, .int .u32 (v.sm : Int)] 33)
theorem VerB.at {w : World} {p : Nat} {v : Ver} (h : VerB w p v) : VAt w p 0 v :=
  ⟨cell_of_row w p 0 _ _ _ h, cell_of_row w p 1 _ _ _ h, cell_of_row w p 2 _ _ _ h, cell_of_row w p 3 _ _ _ h⟩
theorem VerB.still {w w' : World} {p : Nat} {v : Ver} (h : VerB w p v) (k : Still w w') : VerB w' p v := k _ _ _ _ (by decide) h

theorem appendG {w : World} {base n m c : Nat} {v : Value} {f g : Nat → Nat} {a : Option Addr} (h : Own w base v n f) (r : Row w a m g) (z : a = none → m = 0 ∧ c = 0) (hl : n + m ≤ 140737488355328) (hb : base ≤ w.heap.size) :
    ∃ v' W, Sem.run Tryd.prog (Builtin.append_ #[22, 22] 22 #[v, .slice a m c]) w = .ok v' W ∧ Own W base v' (n + m) (cat n f g) ∧ Below base w W ∧ w.grownBy W v.ownBlock := by
  cases a with
  | none =>
    obtain ⟨rfl, rfl⟩ := z rfl
    obtain ⟨i, hi, _⟩ := Option.map_eq_some_iff.1 info5
    exact ⟨v, w, run_append_owned_none (P := Tryd.prog) w base 22 22 5 i 1 Tryd.underlying22 hi v n (bs f n) h, h.congr (fun i hi => by unfold cat; rw [if_pos hi]), Below.refl _ _, ⟨rfl, rfl, rfl, Nat.le_refl _, fun _ _ _ => rfl⟩⟩
  | some x =>
    obtain ⟨v', W, hr, ho, hg, hbl⟩ := appendB (c := c) h r (fun _ => ⟨x, rfl⟩) hl hb
    exact ⟨v', W, hr, ho, hbl, hg⟩
/-- Four bytes more, that were just written out. -/
theorem push4 {w : World} {base k x y z u : Nat} {v : Value} {F g : Nat → Nat} (h : Own w base v k F) (hg : ∀ i, g i < 256) (h0 : g 0 = x) (h1 : g 1 = y) (h2 : g 2 = z) (h3 : g 3 = u) (hk : k < 1000000) (hb : base ≤ w.heap.size) :
    ∃ v' W, Sem.run Tryd.prog (Builtin.append_ #[22, 22] 22 #[v, .slice (some ⟨w.heap.size, 0, none⟩) 4 4]) (w.alloc (.cells #[.int .u8 ((x : Nat) : Int), .int .u8 ((y : Nat) : Int), .int .u8 ((z : Nat) : Int), .int .u8 ((u : Nat) : Int)] 5)) = .ok v' W ∧ Own W base v' (k + 4) (cat k F g) ∧ Below base w W ∧ Still w W := by
  have b1 : Below w.heap.size w (w.alloc (.cells #[.int .u8 ((x : Nat) : Int), .int .u8 ((y : Nat) : Int), .int .u8 ((z : Nat) : Int), .int .u8 ((u : Nat) : Int)] 5)) := bal w _
  obtain ⟨v', W, hr, ho, hbl, hgr⟩ := appendG (c := 4) (h.keep b1) ((lit4 w x y z u g h0 h1 h2 h3).row hg) (fun e => by cases e) (by omega) (by have := b1.size; omega)
  exact ⟨v', W, hr, ho, (b1.mono hb).trans hbl, (still_below b1).trans ((h.keep b1).still hgr)⟩
theorem pushB {w : World} {base k x : Nat} {v : Value} {F : Nat → Nat} (h : Own w base v k F) (hx : x < 256) (hk : k < 1000000) (hb : base ≤ w.heap.size) :
    ∃ v' W, Sem.run Tryd.prog (Builtin.append_ #[22, 22] 22 #[v, .slice (some ⟨w.heap.size, 0, none⟩) 1 1]) (w.alloc (.cells #[.int .u8 ((x : Nat) : Int)] 5)) = .ok v' W ∧ Own W base v' (k + 1) (cat k F (fun _ => x)) ∧ Below base w W ∧ Still w W := by
  have b1 : Below w.heap.size w (w.alloc (.cells #[.int .u8 ((x : Nat) : Int)] 5)) := bal w _
  obtain ⟨v', W, hr, ho, hbl, hgr⟩ := appendG (c := 1) (h.keep b1) (lit1 w x hx) (fun e => by cases e) (by omega) (by have := b1.size; omega)
  exact ⟨v', W, hr, ho, (b1.mono hb).trans hbl, (still_below b1).trans ((h.keep b1).still hgr)⟩
theorem lit2 (w : World) (x y : Nat) (f : Nat → Nat) (hf : ∀ i, f i < 256) (h0 : f 0 = x) (h1 : f 1 = y) : Row (w.alloc (.cells #[.int .u8 ((x : Nat) : Int), .int .u8 ((y : Nat) : Int)] 5)) (some ⟨w.heap.size, 0, none⟩) 2 f :=
  ⟨hf, fun _ => ⟨w.heap.size, 0, rfl, fun i hi => by
    rw [Nat.zero_add, World.cell?_alloc_new]
    match i, hi with
    | 0, _ => rw [h0]; rfl
    | 1, _ => rw [h1]; rfl⟩⟩
theorem push2 {w : World} {base k x y : Nat} {v : Value} {F g : Nat → Nat} (h : Own w base v k F) (hg : ∀ i, g i < 256) (h0 : g 0 = x) (h1 : g 1 = y) (hk : k < 1000000) (hb : base ≤ w.heap.size) :
    ∃ v' W, Sem.run Tryd.prog (Builtin.append_ #[22, 22] 22 #[v, .slice (some ⟨w.heap.size, 0, none⟩) 2 2]) (w.alloc (.cells #[.int .u8 ((x : Nat) : Int), .int .u8 ((y : Nat) : Int)] 5)) = .ok v' W ∧ Own W base v' (k + 2) (cat k F g) ∧ Below base w W ∧ Still w W := by
  have b1 : Below w.heap.size w (w.alloc (.cells #[.int .u8 ((x : Nat) : Int), .int .u8 ((y : Nat) : Int)] 5)) := bal w _
  obtain ⟨v', W, hr, ho, hbl, hgr⟩ := appendG (c := 2) (h.keep b1) (lit2 w x y g hg h0 h1) (fun e => by cases e) (by omega) (by have := b1.size; omega)
  exact ⟨v', W, hr, ho, (b1.mono hb).trans hbl, (still_below b1).trans ((h.keep b1).still hgr)⟩
/-- A text's bytes as numbers. -/
def sb (s : ByteArray) : Nat → Nat := fun i => (s.data.toList.getD i 0).toNat
theorem sb_lt (s : ByteArray) (i : Nat) : sb s i < 256 := (s.data.toList.getD i 0).toNat_lt
theorem strCells_bs (s : ByteArray) : Lib.strCells s = bs (sb s) s.size := by
  apply List.ext_getElem?
  intro j
  by_cases hj : j < s.size
  · rw [bs_at hj]
    unfold Lib.strCells sb
    have hj' : j < s.data.toList.length := by rw [Array.length_toList]; exact hj
    simp [List.getElem?_eq_getElem hj', List.getD_eq_getElem?_getD]
  · rw [List.getElem?_eq_none (by rw [Lib.strCells_length]; omega), List.getElem?_eq_none (by rw [bs_length]; omega)]
theorem pushS {w : World} {base k : Nat} {v : Value} {F : Nat → Nat} (s : ByteArray) (h : Own w base v k F) (hk : k + s.size < 1000000) (hb : base ≤ w.heap.size) :
    ∃ v' W, Sem.run Tryd.prog (Builtin.append_ #[22, 9] 22 #[v, .string s]) w = .ok v' W ∧ Own W base v' (k + s.size) (cat k F (sb s)) ∧ Below base w W ∧ Still w W := by
  obtain ⟨i, hi, hzz⟩ := Option.map_eq_some_iff.1 info5
  simp only [Prod.mk.injEq] at hzz
  obtain ⟨hz, hs, hby⟩ := hzz
  obtain ⟨v', W, hr, ho, hg, _⟩ := Lib.run_append_own_string (P := Tryd.prog) w base 22 9 22 5 i Tryd.underlying22 Tryd.underlying9 hi hz hs hby v k (bs F k) h s (by unfold maxLen; omega) (by omega) hb
  refine ⟨v', W, hr, ?_, Below.ofGrown h hg hb, h.still hg⟩
  unfold Own
  rw [← bs_cat, ← strCells_bs]
  exact ho
theorem wpList_append_ran2 {P : Program} {w : World} {ops : Array Oper} {rest : List Oper} {o : Oper} {a : Act} {Q : Exit → Act → World → Prop} (hgd : o.guard = none) (s x : Operand) (t t' : TypeId)
    (ho : o.op = .call { callee := .builtin .append, args := #[s, x], argTypes := #[t, t'] }) (u v r : Value) (w' : World) (hs : a.eval s = u) (hx : a.eval x = v)
    (hr : Sem.run P (Builtin.append_ #[t, t'] o.type #[u, v]) w = .ok r w') (h : wpList P ops Q rest (a.put o.dst r) w') : wpList P ops Q (o :: rest) a w := by
  refine wpList_plain hgd fun K hK => ?_
  unfold Oper.wp execOp
  simp only [ho, resolve, invoke, builtin, Sem.run_bind, Sem.run_pure, Result.andThen_ok, List.map_toArray, List.map_cons, List.map_nil, hs, hx, hr]
  exact hK _ _ h

set_option maxRecDepth 100000 in
theorem appNum_any (w : World) (base n x : Nat) (v : Value) (F : Nat → Nat) (ho : Own w base v n F) (hb : base ≤ w.heap.size) (hn : n < 1000000) (hx : x < 4294967296) :
    Calls Tryd.prog 19 #[v, .int .u32 (x : Int)] w fun e w' => ∃ v', e = .returned v' ∧ Own w' base v' (n + 4) (cat n F (by4 x)) ∧ Below base w w' ∧ Still w w' := by
  obtain ⟨v', W, hr, ho', hb', hst⟩ := push4 ho (by4_lt x) rfl rfl rfl rfl hn hb
  have e0 : (x : Int) % 256 = ((by4 x 0 : Nat) : Int) := by unfold by4; simp
  have e1 : (x : Int) / 256 % 256 = ((by4 x 1 : Nat) : Int) := by unfold by4; simp
  have e2 : (x : Int) / 65536 % 256 = ((by4 x 2 : Nat) : Int) := by unfold by4; simp
  have e3 : (x : Int) / 16777216 = ((by4 x 3 : Nat) : Int) := by
    unfold by4
    rw [Nat.mod_eq_of_lt (by simp; omega)]
    simp
  have HA : Hid _ := hr
  have HO : Hid (Own W base v' (n + 4) (cat n F (by4 x))) := ho'
  clear hr ho' ho
  have HST : Hid (Still w W) := hst
  clear hst
  generalize by4 x 0 = y0 at *
  generalize by4 x 1 = y1 at *
  generalize by4 x 2 = y2 at *
  generalize by4 x 3 = y3 at *
  go_enter Tryd.func19, Tryd.ntmps19
  go_wp2_with (at_builtin; refine wpList_append_ran (by rfl) _ _ 22 (by rfl) _ _ _ _ (by rfl) (by rfl) HA.out ?_)
  go_ret
  exact ⟨_, rfl, HO.out, hb', HST.out⟩
set_option maxRecDepth 100000 in
theorem fileBytes_any (N n : Nat) (w : World) (hN : N ≤ 1000000) (hn : n ≤ 1000000) :
    Calls Tryd.prog 18 #[.int .i64 (N : Int), .int .i64 (n : Int)] w fun e w' => e = .returned (.int .i64 ((15 + N + 13 * n : Nat) : Int)) ∧ w = w' := by
  have HE : Hid ((15 : Int) + (N : Int) + (n : Int) * 13 = ((15 + N + 13 * n : Nat) : Int)) := by unfold Hid; omega
  go_enter Tryd.func18, Tryd.ntmps18
  go_wp2
  go_ret
  exact ⟨by rw [← HE.out]; rfl, rfl⟩

theorem vb_cat {v : Ver} {F : Nat → Nat} {n : Nat} (i : Nat) (hi : i < n + 13) :
    cat (n + 9) (cat (n + 5) (cat (n + 4) (cat n F (by4 v.id.toNat)) (fun _ => if v.mr then 1 else 0)) (by4 v.sz.toNat)) (by4 v.sm) i = cat n F (vb v) i := by
  unfold cat vb
  by_cases h1 : i < n
  · rw [if_pos (by omega), if_pos (by omega), if_pos (by omega), if_pos h1, if_pos h1]
  · rw [if_neg h1, if_neg h1]
    by_cases h2 : i - n < 4
    · rw [if_pos (by omega), if_pos (by omega), if_pos (by omega), if_pos h2]
    · by_cases h3 : i - n < 5
      · rw [if_pos (by omega), if_pos (by omega), if_neg (by omega), if_neg h2, if_pos h3]
      · by_cases h4 : i - n < 9
        · rw [if_pos (by omega), if_neg (by omega), if_neg h2, if_neg h3, if_pos h4, Nat.sub_sub]
        · rw [if_neg (by omega), if_neg h2, if_neg h3, if_neg h4, Nat.sub_sub]
set_option maxRecDepth 100000 in
set_option maxHeartbeats 1000000 in
theorem appVer_any (w : World) (base n : Nat) (x : Ver) (v : Value) (F : Nat → Nat) (ho : Own w base v n F) (hb : base ≤ w.heap.size) (hn : n < 10000) (hx : mayV x = true) (hs : x.sm < 4294967296) :
    Calls Tryd.prog 20 #[v, vv x] w fun e w' => ∃ v', e = .returned v' ∧ Own w' base v' (n + 13) (cat n F (vb x)) ∧ Below base w w' := by
  obtain ⟨W, hW⟩ : ∃ W, w.alloc (.cells #[.int .i64 x.id, .bool x.mr, .int .i64 x.sz, .int .u32 (x.sm : Int)] 33) = W := ⟨_, rfl⟩
  have hb0 : Below w.heap.size w W := by rw [← hW]; exact bal _ _
  have hv0 : VerB W w.heap.size x := by rw [← hW]; exact heap_alloc_new _ _
  have hB0 : Below base w W := hb0.mono hb
  obtain ⟨q1, q2, q3, q4, q5⟩ := mayV_iff.1 hx
  have HVC : Hid (∀ i, i < n + 13 → cat (n + 9) (cat (n + 5) (cat (n + 4) (cat n F (by4 x.id.toNat)) (fun _ => if x.mr then 1 else 0)) (by4 x.sz.toNat)) (by4 x.sm) i = cat n F (vb x) i) := fun i hi => vb_cat i hi
  obtain ⟨i, mr, z, s⟩ := x
  dsimp only at *
  obtain ⟨j, rfl⟩ : ∃ j : Nat, i = (j : Int) := ⟨i.toNat, by omega⟩
  obtain ⟨y, rfl⟩ : ∃ y : Nat, z = (y : Int) := ⟨z.toNat, by omega⟩
  simp only [Int.toNat_natCast] at HVC
  have hbW : base ≤ W.heap.size := Nat.le_trans hb hB0.size
  have cI := appNum_any W base n j v F (ho.keep hb0) hbW (by omega) (by omega)
  obtain ⟨c0, c1, c2, c3⟩ := hv0.at
  dsimp only at c0 c1 c2 c3
  have HV0 : Hid (VerB W w.heap.size ⟨j, mr, y, s⟩) := hv0
  have HB0 : Hid (Below base w W) := hB0
  have i1 : (j : Int) < 4294967296 := by omega
  have i2 : (y : Int) < 4294967296 := by omega
  unfold vv
  dsimp only
  clear ho hb0 hv0 hB0 hx q1 q2 q3 q4 q5
  go_enter Tryd.func20, Tryd.ntmps20
  go_wp2_with fail
  go_at_call 19
  refine cI.mono ?_
  rintro e W1 ⟨v1, rfl, ho1, b1, st1⟩
  clear cI c0 c1 c2 c3
  have hv1 := HV0.out.still st1
  obtain ⟨c0, c1, c2, c3⟩ := hv1.at
  dsimp only at c0 c1 c2 c3
  have hB1 := HB0.out.trans b1
  have hbW1 : base ≤ W1.heap.size := Nat.le_trans hb hB1.size
  obtain ⟨v2, W2, hr2, ho2, b2, st2⟩ := pushB (x := if mr then 1 else 0) ho1 (by split <;> omega) (by omega) hbW1
  have hv2 := hv1.still st2
  obtain ⟨d0, d1, d2, d3⟩ := hv2.at
  dsimp only at d0 d1 d2 d3
  have hB2 := hB1.trans b2
  have cS := appNum_any W2 base _ y v2 _ ho2 (Nat.le_trans hb hB2.size) (by omega) (by omega)
  have HV2 : Hid (VerB W2 w.heap.size ⟨j, mr, y, s⟩) := hv2
  have HB2 : Hid (Below base w W2) := hB2
  have HA2 : Hid _ := hr2
  clear ho1 b1 st1 hv1 hB1 hbW1 hr2 ho2 b2 st2 hv2 hB2 HV0 HB0
  cases mr with
  | false =>
    go_wp2_with (at_builtin; refine wpList_append_ran (by rfl) _ _ 22 (by rfl) _ _ _ _ (by rfl) (by rfl) HA2.out ?_)
    go_at_call 19
    refine cS.mono ?_
    rintro e W3 ⟨v3, rfl, ho3, b3, st3⟩
    clear cS c0 c1 c2 c3 d0 d1 d2 d3 HA2
    obtain ⟨c0, c1, c2, c3⟩ := (HV2.out.still st3).at
    dsimp only at c0 c1 c2 c3
    have hB3 := HB2.out.trans b3
    have cM := appNum_any W3 base _ s v3 _ ho3 (Nat.le_trans hb hB3.size) (by omega) hs
    have HB3 : Hid (Below base w W3) := hB3
    clear ho3 b3 st3 hB3 HB2 HV2
    go_wp2_with fail
    go_at_call 19
    refine cM.mono ?_
    rintro e W4 ⟨v4, rfl, ho4, b4, st4⟩
    clear cM
    have HO4 : Hid _ := ho4.congr HVC.out
    have HB4 : Hid (Below base w W4) := HB3.out.trans b4
    clear ho4 b4 st4 HB3 HVC
    go_wp2
    go_ret
    exact ⟨_, rfl, HO4.out, HB4.out⟩
  | true =>
    go_wp2_with (at_builtin; refine wpList_append_ran (by rfl) _ _ 22 (by rfl) _ _ _ _ (by rfl) (by rfl) HA2.out ?_)
    go_at_call 19
    refine cS.mono ?_
    rintro e W3 ⟨v3, rfl, ho3, b3, st3⟩
    clear cS c0 c1 c2 c3 d0 d1 d2 d3 HA2
    obtain ⟨c0, c1, c2, c3⟩ := (HV2.out.still st3).at
    dsimp only at c0 c1 c2 c3
    have hB3 := HB2.out.trans b3
    have cM := appNum_any W3 base _ s v3 _ ho3 (Nat.le_trans hb hB3.size) (by omega) hs
    have HB3 : Hid (Below base w W3) := hB3
    clear ho3 b3 st3 hB3 HB2 HV2
    go_wp2_with fail
    go_at_call 19
    refine cM.mono ?_
    rintro e W4 ⟨v4, rfl, ho4, b4, st4⟩
    clear cM
    have HO4 : Hid _ := ho4.congr HVC.out
    have HB4 : Hid (Below base w W4) := HB3.out.trans b4
    clear ho4 b4 st4 HB3 HVC
    go_wp2
    go_ret
    exact ⟨_, rfl, HO4.out, HB4.out⟩
end Go.Proofs.YtfgngecenbopnaaDoor
