/-
  What the document's pages answers.
-/
import Derived.Test.YtahnkkifegdjeaaRfS
import Derived.Test.YtahnkkifegdjeaaEnQ
import Derived.Deep.DeepCutAuto
namespace Go.Proofs.Ytahnkkifegdjeaa
open Go.RowKit Go.Shelf Go.Sort Nq Pg
attribute [local go_sem ↓] Go.wp_at_zero Go.wp_at_succ
set_option linter.unusedVariables false

def rin1 (q : Aq) (v : Bool) (e : En) : Bool := pre (tx e.key) (tx q.pr) && (v || (e.la && !e.mr))
def rin (q : Aq) (v : Bool) (e : En) : Bool := rin1 q v e && (abv q e || (v && (decide (e.key = q.fr) && decide (e.id < q.fi))))
/-- An answer's cells, as a block. -/
def AB (w : World) (b : Nat) (v : Value) (m : Bool) (k : ByteArray) (i : Int) : Prop := w.heap[b]? = some (.cells #[v, .bool m, .string k, .int .i64 i] 34)
theorem gb_below {a b c : World} {ob : Nat} (h : a.grownBy b (some ob)) (k : Below a.heap.size b c) : a.grownBy c (some ob) :=
  ⟨k.os.trans h.os, k.tape.trans h.tape, k.output.trans h.output, Nat.le_trans h.size k.size, fun i hi hn => (k.block i hi).trans (h.block i hi hn)⟩
theorem gb_hop {a b c : World} {ob : Nat} (h : a.grownBy b (some ob)) (k : Below b.heap.size b c) : a.grownBy c (some ob) := gb_below h (k.mono h.size)
theorem gb_set {a b : World} {ob : Nat} (h : a.grownBy b (some ob)) (j : Nat) (v : Value) : a.grownBy (b.setCell ⟨ob, j, none⟩ v) (some ob) :=
  ⟨h.os, h.tape, h.output, by have := h.size; simp [World.setCell]; exact this, fun i hi hn => by
    rw [Below.heap_setCell _ _ _ _ (by show i ≠ ob; intro e; exact hn (by rw [e]))]; exact h.block i hi hn⟩
theorem gb_cell {a b : World} {ob p o : Nat} (h : a.grownBy b (some ob)) (hp : p < a.heap.size) (hn : p ≠ ob) : b.cell? ⟨p, o, none⟩ = a.cell? ⟨p, o, none⟩ :=
  World.cell?_of_block (w := a) (h.block p hp (fun e => hn (by injection e)))
theorem gb_eat {a b : World} {ob p o : Nat} {e : En} (h : a.grownBy b (some ob)) (hn : p ≠ ob) (k : EAt a p o e) : EAt b p o e := by
  have hp : p < a.heap.size := block_lt_of_cell k.c0
  exact ⟨(gb_cell h hp hn).trans k.c0, (gb_cell h hp hn).trans k.c1, (gb_cell h hp hn).trans k.c2, (gb_cell h hp hn).trans k.c3, (gb_cell h hp hn).trans k.c4, (gb_cell h hp hn).trans k.c5⟩
theorem gb_aat {a b : World} {ob p : Nat} {q : Aq} (h : a.grownBy b (some ob)) (hn : p ≠ ob) (k : AAt a p q) : AAt b p q := by
  have hp : p < a.heap.size := block_lt_of_cell k.c0
  exact ⟨(gb_cell h hp hn).trans k.c0, (gb_cell h hp hn).trans k.c1, (gb_cell h hp hn).trans k.c2, (gb_cell h hp hn).trans k.c3⟩
theorem AB.keep {w w' : World} {b B : Nat} {v : Value} {m : Bool} {k : ByteArray} {i : Int} (h : AB w b v m k i) (hb : Below B w w') (hB : b < B) : AB w' b v m k i := (hb.block b hB).trans h
theorem AB.set0 {w : World} {b : Nat} {v : Value} {m : Bool} {k : ByteArray} {i : Int} (h : AB w b v m k i) (v' : Value) : AB (w.setCell ⟨b, 0, none⟩ v') b v' m k i := heap_setCell_same _ b 0 _ _ v' h
theorem AB.set1 {w : World} {b : Nat} {v : Value} {m : Bool} {k : ByteArray} {i : Int} (h : AB w b v m k i) (m' : Bool) : AB (w.setCell ⟨b, 1, none⟩ (.bool m')) b v m' k i := heap_setCell_same _ b 1 _ _ (.bool m') h
theorem AB.cells {w : World} {b : Nat} {v : Value} {m : Bool} {k : ByteArray} {i : Int} (h : AB w b v m k i) :
    w.cell? ⟨b, 0, none⟩ = some v ∧ w.cell? ⟨b, 1, none⟩ = some (.bool m) ∧ w.cell? ⟨b, 2, none⟩ = some (.string k) ∧ w.cell? ⟨b, 3, none⟩ = some (.int .i64 i) ∧ ∀ j, w.frozen? ⟨b, j, none⟩ = false :=
  ⟨cell_of_row w b 0 _ _ _ h, cell_of_row w b 1 _ _ _ h, cell_of_row w b 2 _ _ _ h, cell_of_row w b 3 _ _ _ h, fun j => frozen_of_row w b j _ _ h⟩
theorem AB.gb {a w : World} {b ob : Nat} {v : Value} {m : Bool} {k : ByteArray} {i : Int} (h : AB a b v m k i) (g : a.grownBy w (some ob)) (hn : b ≠ ob) : AB w b v m k i := (g.block b (Array.getElem?_eq_some_iff.1 h).1 (fun e => hn (by injection e))).trans h
theorem AB.lt {w : World} {b : Nat} {v : Value} {m : Bool} {k : ByteArray} {i : Int} (h : AB w b v m k i) : b < w.heap.size := (Array.getElem?_eq_some_iff.1 h).1

set_option maxRecDepth 100000 in
set_option maxHeartbeats 8000000 in
theorem rpages_good (a : Option Addr) (c : Nat) (L M : List En) (q : Aq) (vs : Bool) (w : World) (h0 : Es w a L) (hl : L.length ≤ 900000) (hU : ∀ M', SortOf L M' → M' = M) (hks : ∀ e ∈ L, e.key.size ≤ maxLen) (hps : q.pr.size ≤ maxLen) (hfs : q.fr.size ≤ maxLen) (hm : 1 ≤ q.mo ∧ q.mo ≤ 1000) :
    Calls Try.prog 27 #[.slice a L.length c, av q, .bool vs] w fun r w' => ∃ v, r = .returned (.tuple #[anv v (cutA (M.filter (rin q vs)) q.mo vs).more (cutA (M.filter (rin q vs)) q.mo vs).key (cutA (M.filter (rin q vs)) q.mo vs).id, .int .i64 0]) ∧
      EOwn w' w.heap.size v (cutA (M.filter (rin q vs)) q.mo vs).L ∧ Below w.heap.size w w' := by
  obtain ⟨pr, fr, fi, mo⟩ := q
  dsimp only at hm hps hfs
  obtain ⟨p, hp⟩ : ∃ p : En → Bool, p = rin ⟨pr, fr, fi, mo⟩ vs := ⟨_, rfl⟩
  rw [← hp]
  have HP : Aside (p = rin ⟨pr, fr, fi, mo⟩ vs) := hp
  clear hp
  obtain ⟨W1, hbx, hA, b1⟩ := box_aq w 24 ⟨pr, fr, fi, mo⟩
  obtain ⟨W2, hb2⟩ : ∃ W2, W1.alloc (.cells #[.slice none 0 0, .bool false, .string ⟨#[]⟩, .int .i64 0] 34) = W2 := ⟨_, rfl⟩
  have b2 : Below W1.heap.size W1 W2 := by rw [← hb2]; exact bal _ _
  have hd2 : AB W2 W1.heap.size (.slice none 0 0) false ⟨#[]⟩ 0 := by rw [← hb2]; exact heap_alloc_new _ _
  obtain ⟨W3, hb3⟩ : ∃ W3, W2.alloc (.cells #[.slice none 0 0, .bool false, .string ⟨#[]⟩, .int .i64 0] 34) = W3 := ⟨_, rfl⟩
  have b3 : Below W2.heap.size W2 W3 := by rw [← hb3]; exact bal _ _
  have hd3 : AB W3 W2.heap.size (.slice none 0 0) false ⟨#[]⟩ 0 := by rw [← hb3]; exact heap_alloc_new _ _
  have bW : Below w.heap.size w W3 := hop (hop b1 b2) b3
  have cS := rsort_any a c L W3 (h0.keep bW) hl hks
  obtain ⟨qb, hqb⟩ : ∃ qb, qb = w.heap.size := ⟨_, rfl⟩
  obtain ⟨pb, hpb⟩ : ∃ pb, pb = W1.heap.size := ⟨_, rfl⟩
  obtain ⟨ob, hob⟩ : ∃ ob, ob = W2.heap.size := ⟨_, rfl⟩
  have hqp : qb < pb := by rw [hqb, hpb]; exact block_lt_of_cell hA.c0
  have hpo : pb < ob := by rw [hpb, hob]; exact hd2.lt
  have ho3 : ob < W3.heap.size := by rw [hob]; exact hd3.lt
  have HAA : Aside (AAt W3 qb ⟨pr, fr, fi, mo⟩) := by rw [hqb]; exact (hA.keep b2).keep b3
  have HD2 : Aside (AB W3 pb (.slice none 0 0) false ⟨#[]⟩ 0) := by rw [hpb]; exact hd2.keep b3 hd2.lt
  have HD3 : Aside (AB W3 ob (.slice none 0 0) false ⟨#[]⟩ 0) := by rw [hob]; exact hd3
  have HBW : Aside (Below qb w W3) := by rw [hqb]; exact bW
  have HKS : Aside (∀ e ∈ L, e.key.size ≤ maxLen) := hks
  have HPS : Aside (pr.size ≤ maxLen ∧ fr.size ≤ maxLen) := ⟨hps, hfs⟩
  have HU : Aside (∀ M', SortOf L M' → M' = M) := hU
  have HQ : Aside (qb = w.heap.size) := hqb
  have hm1 : ¬ mo < 1 := by omega
  have hm2 : ¬ 1000 < mo := by omega
  have gm1 : decide (mo < 1) = false := decide_eq_false hm1
  have gm2 : decide ((1000 : Int) < mo) = false := decide_eq_false hm2
  have hz := fr_nil fr
  obtain ⟨a0, a1, a2, a3⟩ := hA.keep b2
  have HB3 : Hid (W2.alloc (.cells #[.slice none 0 0, .bool false, .string ⟨#[]⟩, .int .i64 0] 34) = W3) := hb3
  clear hb3
  unfold av anv
  dsimp only at *
  clear hA b1 b2 hd2 b3 hd3 bW h0 hU hks hps hfs
  go_enter Try.func27, Try.ntmps27
  go_upto_region 4 with fail
  rw [← hob, ← hpb, ← hqb]
  rw [HB3.out]
  clear hob hpb hqb hb2 hbx a0 a1 a2 a3
  go_wp2_with fail
  go_at_call 20
  refine cS.mono ?_
  rintro r W4 ⟨vl, M1, rfl, o4, s4, k4⟩
  obtain rfl := HU.out M1 s4
  have hml : M1.length = L.length := s4.1.length_eq
  have HKM : Aside (∀ e ∈ M1, e.key.size ≤ maxLen) := fun e he => HKS.out e (s4.1.mem_iff.1 he)
  obtain ⟨al, cl, rfl, es4⟩ := out_es o4
  have HA4 : Aside (AAt W4 qb ⟨pr, fr, fi, mo⟩) := HAA.out.keep k4
  have HD4 : Aside (AB W4 pb (.slice none 0 0) false ⟨#[]⟩ 0) := HD2.out.keep k4 HD2.out.lt
  have HO4 : Aside (AB W4 ob (.slice none 0 0) false ⟨#[]⟩ 0) := HD3.out.keep k4 ho3
  have HB4 : Aside (Below qb w W4) := HBW.out.trans (k4.mono (by omega))
  have HE4 : Aside (∀ i, i < M1.length → ∃ b o, al = some ⟨b, o, none⟩ ∧ b ≠ ob ∧ ∀ j, j < M1.length → EAt W4 b (o + j * 6) M1[j]!) := fun i hi => by
    obtain ⟨g, cur, e1, e2, e3, e4, _⟩ := o4.row (by omega)
    subst e1
    obtain ⟨b, o, e5, e6⟩ := es4 (by omega)
    injection e5 with e5
    injection e5 with e5 e7
    subst e5; subst e7
    exact ⟨g, 0, rfl, by omega, e6⟩
  have ho4 : ob < W4.heap.size := HO4.out.lt
  have hp4 : pb < W4.heap.size := HD4.out.lt
  clear cS HAA HD2 HD3 HBW k4 o4 es4 HU s4 ho3
  go_wp2_with fail
  go_loopg [10] (M1.length) (fun kx s10 wr => ∃ (i : Nat) (v : Value) (Y : List En), s10 = .int .i64 i ∧ i ≤ M1.length ∧ M1.length - i ≤ kx ∧ (Y.length : Int) ≤ mo ∧ Y.length ≤ i ∧ Aside (Y = (M1.take i).filter p) ∧ Aside (EOwn wr W4.heap.size v Y) ∧ Aside (AB wr ob v false ⟨#[]⟩ 0) ∧ Aside (W4.grownBy wr (some ob)))
  case atStart => exact ⟨0, .slice none 0 0, [], rfl, Nat.zero_le _, by omega, by simp; omega, Nat.le_refl _, by show _ = _; simp, EOwn.start _ _, HO4.out, ⟨rfl, rfl, rfl, Nat.le_refl _, fun _ _ _ => rfl⟩⟩
  case round =>
    obtain ⟨i, v, Y, rfl, hi, hkx, hym, hyi, HY, HO, HAB, HG⟩ := hrel
    by_cases hlt : i < M1.length
    · obtain ⟨b, o, rfl, hbo, hc⟩ := HE4.out i hlt
      obtain ⟨e, he⟩ : ∃ e, e = M1[i]! := ⟨_, rfl⟩
      have hce := gb_eat HG.out hbo (hc i hlt)
      rw [← he] at hce
      have hke : e.key.size ≤ maxLen := HKM.out e (by rw [he, getElem!_pos M1 i hlt]; exact List.getElem_mem _)
      have hmo := filter_more p M1 i hlt
      rw [← he, ← HY.out] at hmo
      have hfull := cut_full p M1 i hlt
      rw [← he, ← HY.out] at hfull
      have HM1 : Aside _ := hmo
      have HFU : Aside _ := hfull
      obtain ⟨c0, c1, c2, c3, c4, c5⟩ := hce
      have hiz : (i : Int) < (M1.length : Int) := by omega
      obtain ⟨W5, hW5, h5, k5⟩ := box_en wr 48 e
      have HO5 : Aside (EOwn W5 W4.heap.size v Y) := HO.out.keep k5
      have HAB5 : Aside (AB W5 ob v false ⟨#[]⟩ 0) := HAB.out.keep k5 HAB.out.lt
      have HG5 : Aside (W4.grownBy W5 (some ob)) := gb_hop HG.out k5
      have H5 : Aside (EAt W5 wr.heap.size 0 e) := h5
      obtain ⟨d0, d1, d2, d3⟩ := gb_aat HG5.out (by omega) HA4.out
      dsimp only at d0 d1 d2 d3
      obtain ⟨x0, x1, x2, x3, x4, x5⟩ := h5
      have cP := fun w => rprefix_any e.key pr w hke HPS.out.1
      have cL := fun w => rless_any fr e.key w HPS.out.2 hke
      have hkb := key_beq e.key fr
      clear hc he hmo hfull k5 HO HAB HG
      go_upto_region 9 with fail
      generalize wr.heap.size = eb at *
      clear hW5 c0 c1 c2 c3 c4 c5
      go_cut [12] (fun s12 wx => s12 = .bool (rin1 ⟨pr, fr, fi, mo⟩ vs e) ∧ wx = W5)
      case first =>
        clear hkb cL hz gm1 gm2 hm1 hm2
        cases hpv : pre (tx e.key) (tx pr) with
        | false =>
          have R1 : Hid (rin1 ⟨pr, fr, fi, mo⟩ vs e = false) := by show _ = _; unfold rin1; rw [hpv]; rfl
          rw [hpv] at cP
          clear hpv
          go_wp2_with fail
          go_at_call 22
          refine (cP _).mono ?_
          rintro r w' ⟨rfl, rfl⟩
          go_wp2
          go_meet
          exact ⟨by rw [R1.out], rfl⟩
        | true =>
          rw [hpv] at cP
          cases vs with
          | true =>
            have R1 : Hid (rin1 ⟨pr, fr, fi, mo⟩ true e = true) := by show _ = _; unfold rin1; rw [hpv]; rfl
            clear hpv
            go_wp2_with fail
            go_at_call 22
            refine (cP _).mono ?_
            rintro r w' ⟨rfl, rfl⟩
            go_wp2
            go_meet
            exact ⟨by rw [R1.out], rfl⟩
          | false =>
            cases hla : e.la with
            | false =>
              have R1 : Hid (rin1 ⟨pr, fr, fi, mo⟩ false e = false) := by show _ = _; unfold rin1; rw [hpv, hla]; rfl
              rw [hla] at x5
              clear hpv hla
              go_wp2_with fail
              go_at_call 22
              refine (cP _).mono ?_
              rintro r w' ⟨rfl, rfl⟩
              go_wp2
              go_meet
              exact ⟨by rw [R1.out], rfl⟩
            | true =>
              have R1 : Hid (rin1 ⟨pr, fr, fi, mo⟩ false e = !e.mr) := by show _ = _; unfold rin1; rw [hpv, hla]; rfl
              rw [hla] at x5
              clear hpv hla
              go_wp2_with fail
              go_at_call 22
              refine (cP _).mono ?_
              rintro r w' ⟨rfl, rfl⟩
              go_wp2
              go_meet
              exact ⟨by rw [R1.out], rfl⟩
      case rest =>
      obtain ⟨rfl, hw5⟩ := hcut
      obtain rfl : W5 = wc := hw5.symm
      go_upto_region 10 with fail
      go_cut [12] (fun s12 wx => s12 = .bool (rin ⟨pr, fr, fi, mo⟩ vs e) ∧ ∃ n, wx = W5.drewN n)
      case first =>
        clear cP
        cases hr1 : rin1 ⟨pr, fr, fi, mo⟩ vs e with
        | false =>
          have R2 : Hid (rin ⟨pr, fr, fi, mo⟩ vs e = false) := by show _ = _; unfold rin; rw [hr1]; rfl
          clear hr1
          go_wp2
          go_meet
          exact ⟨by rw [R2.out], 0, rfl⟩
        | true =>
          cases hfz : decide (tx fr = []) with
          | true =>
            have R2 : Hid (rin ⟨pr, fr, fi, mo⟩ vs e = true) := by show _ = _; unfold rin abv; rw [hr1]; dsimp only; rw [hfz]; rfl
            rw [hfz] at hz
            clear hr1 hfz
            go_wp2
            go_meet
            exact ⟨by rw [R2.out], 0, rfl⟩
          | false =>
            cases hls : ls (tx fr) (tx e.key) with
            | true =>
              have R2 : Hid (rin ⟨pr, fr, fi, mo⟩ vs e = true) := by show _ = _; unfold rin abv; rw [hr1]; dsimp only; rw [hfz, hls]; rfl
              rw [hfz] at hz
              rw [hls] at cL
              clear hr1 hfz hls
              go_wp2_with (go_at_call 21; refine (cL _).mono ?_; rintro r w9 ⟨rfl, q9, rfl⟩)
              go_meet
              exact ⟨by rw [R2.out], q9, rfl⟩
            | false =>
              cases vs with
              | false =>
                have R2 : Hid (rin ⟨pr, fr, fi, mo⟩ false e = false) := by show _ = _; unfold rin abv; rw [hr1]; dsimp only; rw [hfz, hls]; rfl
                rw [hfz] at hz
                rw [hls] at cL
                clear hr1 hfz hls
                go_wp2_with (go_at_call 21; refine (cL _).mono ?_; rintro r w9 ⟨rfl, q9, rfl⟩)
                go_meet
                exact ⟨by rw [R2.out], q9, rfl⟩
              | true =>
                cases hke : decide (e.key = fr) with
                | false =>
                  have R2 : Hid (rin ⟨pr, fr, fi, mo⟩ true e = false) := by show _ = _; unfold rin abv; rw [hr1]; dsimp only; rw [hfz, hls, hke]; rfl
                  rw [hfz] at hz
                  rw [hls] at cL
                  rw [hke] at hkb
                  clear hr1 hfz hls hke
                  go_wp2_with (go_at_call 21; refine (cL _).mono ?_; rintro r w9 ⟨rfl, q9, rfl⟩)
                  go_meet
                  exact ⟨by rw [R2.out], q9, rfl⟩
                | true =>
                  have R2 : Hid (rin ⟨pr, fr, fi, mo⟩ true e = decide (e.id < fi)) := by show _ = _; unfold rin abv; rw [hr1]; dsimp only; rw [hfz, hls, hke]; simp
                  rw [hfz] at hz
                  rw [hls] at cL
                  rw [hke] at hkb
                  clear hr1 hfz hls hke
                  go_wp2_with (go_at_call 21; refine (cL _).mono ?_; rintro r w9 ⟨rfl, q9, rfl⟩)
                  go_meet
                  exact ⟨by rw [R2.out], q9, rfl⟩
      case rest =>
      obtain ⟨rfl, nq, hw6⟩ := hcut
      subst hw6
      have HO6 : Aside (EOwn (W5.drewN nq) W4.heap.size v Y) := HO5.out.keep (bdn _ _)
      have HAB6 : Aside (AB (W5.drewN nq) ob v false ⟨#[]⟩ 0) := HAB5.out.keep (bdn _ _) HAB5.out.lt
      have HG6 : Aside (W4.grownBy (W5.drewN nq) (some ob)) := gb_hop HG5.out (bdn _ _)
      have H6 : Aside (EAt (W5.drewN nq) eb 0 e) := H5.out.keep (bdn _ _)
      clear cL hkb d0 d1 d2 d3 x0 x1 x2 x3 x4 x5 HO5 HAB5 HG5 H5
      generalize W5.drewN nq = W6 at *
      have HR : Aside (p e = rin ⟨pr, fr, fi, mo⟩ vs e) := by show _ = _; rw [HP.out]
      generalize rin ⟨pr, fr, fi, mo⟩ vs e = rb at *
      cases rb with
      | false =>
        have HY2 : Aside (Y = (M1.take (i + 1)).filter p) := by
          show _ = _
          rw [HM1.out, if_neg (by rw [HR.out]; simp)]; simp
        clear HM1 HFU HY
        go_wp2
        go_roundg (M1.length - (i + 1))
        case measure => omega
        case rel => exact ⟨i + 1, v, Y, by go_num, by omega, by omega, hym, by omega, HY2, HO6, HAB6, HG6⟩
      | true =>
        have HY2 : Aside (Y ++ [e] = (M1.take (i + 1)).filter p) := by
          show _ = _
          rw [HM1.out, if_pos HR.out]
        have HFU2 : Aside (∀ k, Y.length = k → (M1.filter p).take k = Y ∧ k < (M1.filter p).length) := HFU.out HR.out
        obtain ⟨o0, o1, o2, o3, of⟩ := HAB6.out.cells
        obtain ⟨d0, d1, d2, d3⟩ := gb_aat HG6.out (by omega) HA4.out
        dsimp only at d0 d1 d2 d3
        obtain ⟨x0, x1, x2, x3, x4, x5⟩ := H6.out
        obtain ⟨a8, c8, rfl, es8, _, _, _⟩ := HO6.out.es
        clear HM1 HFU HY HR
        by_cases hfl : (Y.length : Int) = mo
        · have hflb : ((Y.length : Int) == mo) = true := by simp [hfl]
          have HRR := HFU2.out mo.toNat (by omega)
          have hYX : Aside ((M1.filter p).take mo.toNat = Y ∧ mo < ((M1.filter p).length : Int)) := ⟨HRR.1, by omega⟩
          have hy1 : 1 ≤ Y.length := by omega
          have HFL : Aside ((Y.length : Int) = mo) := hfl
          clear HFU2 HY2 hfl HRR
          go_upto_region 16 with fail
          have HO7 : Aside (EOwn (W6.setCell ⟨ob, 1, none⟩ (.bool true)) W4.heap.size (.slice a8 Y.length c8) Y) := HO6.out.set ho4
          have HAB7 : Aside (AB (W6.setCell ⟨ob, 1, none⟩ (.bool true)) ob (.slice a8 Y.length c8) true ⟨#[]⟩ 0) := HAB6.out.set1 true
          have HG7 : Aside (W4.grownBy (W6.setCell ⟨ob, 1, none⟩ (.bool true)) (some ob)) := gb_set HG6.out 1 _
          clear HO6 HAB6 HG6 H6 o0 o1 o2 o3 of d0 d1 d2 d3 x0 x1 x2 x3 x4 x5 es8
          generalize W6.setCell ⟨ob, 1, none⟩ (.bool true) = W7 at *
          obtain ⟨a9, c9, e9, es9⟩ := out_es HO7.out
          injection e9 with e9a e9b e9c
          subst e9a; subst e9c
          obtain ⟨b8, o8, rfl, hcs⟩ := es9 (by omega)
          obtain ⟨t, ht⟩ : ∃ t, t = Y.length - 1 := ⟨_, rfl⟩
          obtain ⟨y, hy⟩ : ∃ y, y = Y[t]! := ⟨_, rfl⟩
          have hcy := hcs t (by omega)
          rw [← hy] at hcy
          obtain ⟨y0, y1, y2, y3, y4, y5⟩ := hcy
          have i1 : (Y.length : Int) - 1 = (t : Int) := by omega
          have i2 : (t : Int) < (Y.length : Int) := by omega
          have i3 : IntKind.i64.wrap (t : Int) = (t : Int) := by rw [IntKind.wrap_i64]; omega
          have HF : Aside (cutA (M1.filter p) mo vs = ⟨Y, true, y.key, if vs = true then y.id else 0⟩) := by
            show _ = _
            have hfl := HFL.out
            have hy2 := hYX.out.2
            have hx : (M1.filter p)[mo.toNat - 1]! = y := by
              have hk := take_at (M1.filter p) mo.toNat (mo.toNat - 1) (by omega) (by omega)
              rw [← hk, hYX.out.1, hy, ht]; congr 1; omega
            rw [cutA_more (decide_eq_true hy2), hYX.out.1, hx]
          obtain ⟨W8, hW8, h8, k8⟩ := box_en W7 48 y
          have HO8 : Aside (EOwn W8 W4.heap.size (.slice (some ⟨b8, o8, none⟩) Y.length c8) Y) := HO7.out.keep k8
          have HAB8 : Aside (AB W8 ob (.slice (some ⟨b8, o8, none⟩) Y.length c8) true ⟨#[]⟩ 0) := HAB7.out.keep k8 HAB7.out.lt
          have HG8 : Aside (W4.grownBy W8 (some ob)) := gb_hop HG7.out k8
          have HD8 : Aside (AB W8 pb (.slice none 0 0) false ⟨#[]⟩ 0) := HD4.out.gb HG8.out (by omega)
          have HBF : Aside (Below qb w W8) := HB4.out.grown HG8.out (by omega) (fun k hk => by injection hk with hk; omega)
          obtain ⟨o0, o1, o2, o3, of⟩ := HAB7.out.cells
          obtain ⟨z0, z1, z2, z3, zf⟩ := HAB8.out.cells
          obtain ⟨p0, p1, p2, p3, pf⟩ := HD8.out.cells
          obtain ⟨x0, x1, x2, x3, x4, x5⟩ := h8
          clear hcs es9 hy ht k8 HO7 HAB7 HG7 hYX
          have nn : pb ≠ ob := by omega
          have nn2 : ob ≠ pb := by omega
          cases vs with
          | true =>
            go_wp2_with fail
            refine bodyPost_ret (v := .tuple #[.agg #[.slice (some ⟨b8, o8, none⟩) Y.length c8, .bool true, .string y.key, .int .i64 y.id], .int .i64 0]) (by simp [results, Try.results27, go_sem, *]) rfl ?_
            rw [HF.out]
            exact ⟨_, rfl, ((((((HO8.out.set ho4).set ho4).set hp4).set hp4).set hp4).set hp4).mono (by have := HB4.out.size; omega), by
              rw [← HQ.out]
              exact (((((HBF.out.setCell (p := ⟨ob, 2, none⟩) (by show qb ≤ ob; omega) _).setCell (p := ⟨ob, 3, none⟩) (by show qb ≤ ob; omega) _).setCell (p := ⟨pb, 0, none⟩) (by show qb ≤ pb; omega) _).setCell (p := ⟨pb, 1, none⟩) (by show qb ≤ pb; omega) _).setCell (p := ⟨pb, 2, none⟩) (by show qb ≤ pb; omega) _).setCell (p := ⟨pb, 3, none⟩) (by show qb ≤ pb; omega) _⟩
          | false =>
            go_wp2_with fail
            refine bodyPost_ret (v := .tuple #[.agg #[.slice (some ⟨b8, o8, none⟩) Y.length c8, .bool true, .string y.key, .int .i64 0], .int .i64 0]) (by simp [results, Try.results27, go_sem, *]) rfl ?_
            rw [HF.out]
            exact ⟨_, rfl, (((((HO8.out.set ho4).set hp4).set hp4).set hp4).set hp4).mono (by have := HB4.out.size; omega), by
              rw [← HQ.out]
              exact ((((HBF.out.setCell (p := ⟨ob, 2, none⟩) (by show qb ≤ ob; omega) _).setCell (p := ⟨pb, 0, none⟩) (by show qb ≤ pb; omega) _).setCell (p := ⟨pb, 1, none⟩) (by show qb ≤ pb; omega) _).setCell (p := ⟨pb, 2, none⟩) (by show qb ≤ pb; omega) _).setCell (p := ⟨pb, 3, none⟩) (by show qb ≤ pb; omega) _⟩
        · have hflb : ((Y.length : Int) == mo) = false := by simp [hfl]
          obtain ⟨v5, W5', hr5, ho5, hb5⟩ := push_en e HO6.out (by omega) HG6.out.size
          obtain ⟨a5, c5, e5', _, _, _, _⟩ := EOwn.es ho5
          generalize (Y ++ [e]).length = n5 at e5'
          subst e5'
          have HAB7 : Aside (AB W5' ob (.slice a8 Y.length c8) false ⟨#[]⟩ 0) := HAB6.out.keep hb5 ho4
          have HO7 : Aside (EOwn (W5'.setCell ⟨ob, 0, none⟩ (.slice a5 n5 c5)) W4.heap.size (.slice a5 n5 c5) (Y ++ [e])) := EOwn.set ho5 ho4
          have HAB8 : Aside (AB (W5'.setCell ⟨ob, 0, none⟩ (.slice a5 n5 c5)) ob (.slice a5 n5 c5) false ⟨#[]⟩ 0) := HAB7.out.set0 _
          have HG8 : Aside (W4.grownBy (W5'.setCell ⟨ob, 0, none⟩ (.slice a5 n5 c5)) (some ob)) := gb_set (gb_below HG6.out hb5) 0 _
          obtain ⟨z0, z1, z2, z3, zf⟩ := HAB7.out.cells
          clear HFU2 HO6 HAB6 HG6 ho5 hb5 es8
          go_wp2_with (at_builtin; refine wpList_append_ran (by rfl) _ _ 22 (by rfl) _ _ _ _ (by rfl) (by rfl) hr5 ?_)
          go_roundg (M1.length - (i + 1))
          case measure => omega
          case rel => exact ⟨i + 1, _, Y ++ [e], by go_num, by omega, by omega, by rw [List.length_append, List.length_singleton]; omega, by rw [List.length_append, List.length_singleton]; omega, HY2, HO7, HAB8, HG8⟩
    · have hiz : ¬ (i : Int) < (M1.length : Int) := by omega
      obtain ⟨a8, c8, rfl, es8, _, _, _⟩ := HO.out.es
      have HYY : M1.filter p = Y := by
        have := HY.out
        rw [List.take_of_length_le (by omega)] at this
        exact this.symm
      have HF : Aside (cutA (M1.filter p) mo vs = ⟨Y, false, ⟨#[]⟩, 0⟩) := by
        show _ = _
        rw [HYY]; exact cutA_less (decide_eq_false (by omega))
      have HD8 : Aside (AB wr pb (.slice none 0 0) false ⟨#[]⟩ 0) := HD4.out.gb HG.out (by omega)
      have HBF : Aside (Below qb w wr) := HB4.out.grown HG.out (by omega) (fun k hk => by injection hk with hk; omega)
      obtain ⟨z0, z1, z2, z3, zf⟩ := HAB.out.cells
      obtain ⟨p0, p1, p2, p3, pf⟩ := HD8.out.cells
      have nn : pb ≠ ob := by omega
      have nn2 : ob ≠ pb := by omega
      clear HYY HY es8
      go_wp2_with fail
      refine bodyPost_ret (v := .tuple #[.agg #[.slice a8 Y.length c8, .bool false, .string ⟨#[]⟩, .int .i64 0], .int .i64 0]) (by simp [results, Try.results27, go_sem, *]) rfl ?_
      rw [HF.out]
      exact ⟨_, rfl, ((((HO.out.set hp4).set hp4).set hp4).set hp4).mono (by have := HB4.out.size; omega), by
        rw [← HQ.out]
        exact (((HBF.out.setCell (p := ⟨pb, 0, none⟩) (by show qb ≤ pb; omega) _).setCell (p := ⟨pb, 1, none⟩) (by show qb ≤ pb; omega) _).setCell (p := ⟨pb, 2, none⟩) (by show qb ≤ pb; omega) _).setCell (p := ⟨pb, 3, none⟩) (by show qb ≤ pb; omega) _⟩
end Go.Proofs.Ytahnkkifegdjeaa
