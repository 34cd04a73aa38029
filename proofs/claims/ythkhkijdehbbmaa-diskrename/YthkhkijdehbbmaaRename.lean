/-
  A file that is renamed is there under its new name, as it was, and under its old one no more; what stood there is gone; nothing else is touched: whatever deeds came before.
-/
import Derived.Test.YthkhkijdehbbmaaRows
import Derived.WalkKit
import Derived.ProofKit
import Derived.OpenShut
import Derived.ShutString
import Derived.ChangeOld
import Derived.Below
import Derived.SizedLaws
import Derived.ChangeSame
import Derived.ChangeMaps5
import Derived.Test.YthkhkijdehbbmaaSdG
import Derived.Test.YthkhkijdehbbmaaByt
set_option maxRecDepth 100000
namespace Go.Proofs.Ythkhkijdehbbmaa
namespace diskRename
open Go.ChangeShapes Go.WideShapes Go.ChangeAt Go.RowKit
open _root_.Go.Proofs.Ythkhkijdehbbmaa.Nm _root_.Go.Proofs.Ythkhkijdehbbmaa.Dk
set_option linter.unusedVariables false
attribute [local go_sem ↓] Go.wp_at_zero Go.wp_at_succ

theorem own : ownKnob Try.prog.godebug = none := by kernel_rfl
theorem laidOut : laidOutB Try.prog = true := by kernel_rfl

theorem cells63 : Try.prog.cellsOf 63 = 2 := by kernel_rfl
theorem cells5' : Try.prog.cellsOf 5 = 1 := by kernel_rfl
set_option maxRecDepth 100000 in
theorem open_pair8 {H : Type} {enc : TypeId × Value → H} {W : World} {r : Reach} {b0 base : Nat} {sp : Nat → Bool} {held : Bool} {v : Value} {d : DataW H} {p : List MemPlace} (hv : Value.okWide Try.prog W r b0 63 v) (h : DataW.Trod enc Try.prog W base sp held 63 v d p) :
    ∃ x y : Nat, x < 256 ∧ y < 256 ∧ v = .agg #[.int .u8 (x : Int), .int .u8 (y : Int)] := by
  simp only [Value.okWide, Try.underlying63] at hv
  obtain ⟨cs, rfl, hsz, _⟩ := hv
  rw [cells63] at hsz
  obtain ⟨l⟩ := cs
  match l, hsz with
  | [e0, e1], _ =>
    obtain ⟨fuel, hf⟩ := h
    obtain ⟨xs, m, _, _, _, hlen, hel⟩ := DataW.trod_array Try.underlying63 hf
    have t0 := hel 0 (by omega)
    have t1 := hel 1 (by omega)
    rw [cells5'] at t0 t1
    match xs, hlen with
    | [x0, x1], _ =>
      simp [Value.cells] at t0 t1
      obtain ⟨a, ea, _, wa⟩ := DataW.trod_int Try.underlying5 t0
      obtain ⟨b, eb, _, wb⟩ := DataW.trod_int Try.underlying5 t1
      simp at ea eb
      subst ea eb
      have ba := bounds_u8 wa
      have bb := bounds_u8 wb
      exact ⟨a.toNat, b.toNat, by omega, by omega, by rw [Int.toNat_of_nonneg ba.1, Int.toNat_of_nonneg bb.1]⟩
def tX : ByteArray := ⟨#[120]⟩
def tY : ByteArray := ⟨#[121]⟩
def tNew : ByteArray := ⟨#[110, 101, 119]⟩
theorem inp_ms {w0 w w' : World} {p m : Nat} {s : St} (h : On w0 w p m none s none) (u : Upd (Ms p m none) w w') {A : Option Addr} {n C : Nat} {b : ByteArray} (hi : Inp w A n C b) : Inp w' A n C b := hi.upd u fun k o v hk => by
  obtain ⟨V, F, t⟩ := h.px
  rcases hk with hk | hk | hk
  · subst hk
    intro e
    rw [cell_of_row w k o _ _ _ t.o] at e
    match o, e with
    | 0, e => simp at e
    | 1, e => simp at e
    | 2, e => simp at e
    | 3, e => simp at e
    | 4, e => simp at e
    | 5, e => simp at e
    | o + 6, e => simp at e
  · subst hk
    obtain ⟨es, clock, hb, _⟩ := t.m
    intro e
    simp [World.cell?, hb] at e
  · cases hk
theorem calm_ask {s : St} (h0 : s.off = false) (h1 : s.bad = 0) {ps : List ByteArray} (h : ps.all okPath = true) : askZ none s ps = (0, none, s) := by
  show ((askD s ps).1, none, (askD s ps).2) = _
  rw [askD_go h0 h1 h]
theorem rd_none {s : St} (h0 : s.off = false) (h1 : s.bad = 0) (hf : s.fs = []) {x : ByteArray} (hx : okPath x = true) : readZ none s x = (⟨#[]⟩, 6) ∧ (askZ none s [x]).2.2 = s := by
  have e := calm_ask h0 h1 (ps := [x]) (by simp [hx])
  unfold readZ
  rw [e]
  refine ⟨?_, rfl⟩
  rw [if_neg (by simp), if_neg (by rw [hf]; unfold there; simp)]
theorem rn_none {s : St} (h0 : s.off = false) (h1 : s.bad = 0) (hf : s.fs = []) {x y : ByteArray} (hx : okPath x = true) (hy : okPath y = true) : renZ none s x y = (6, s) := by
  have e := calm_ask h0 h1 (ps := [x, y]) (by simp [hx, hy])
  unfold renZ
  rw [e, if_neg (by simp), if_neg (by rw [hf]; unfold there; simp)]
theorem rn_go {s : St} (h0 : s.off = false) (h1 : s.bad = 0) {x y : ByteArray} (hx : okPath x = true) (hy : okPath y = true) (t : there x s.fs = true) : renZ none s x y = (0, { s with fs := renS s.fs x y }) := by
  have e := calm_ask h0 h1 (ps := [x, y]) (by simp [hx, hy])
  unfold renZ
  rw [e, if_neg (by simp), if_pos t]
/-- A path of the row. -/
theorem on_at {w0 w : World} {p m : Nat} {s : St} (h : On w0 w p m none s none) (hk : ∀ f ∈ s.fs, 1 ≤ f.path.size) {M : List Sv} (hM : (M.map fun y => y.s) = s.fs.map fun f => f.path) {i : Nat} (hi : i < M.length) : there M[i]!.s s.fs = true ∧ okPath M[i]!.s = true := by
  obtain ⟨V, F, x⟩ := h.px
  have h9 := congrArg (fun l => l[i]?) hM
  simp only [List.getElem?_map] at h9
  have hl : i < s.fs.length := by have := congrArg List.length hM; simp at this; omega
  rw [List.getElem?_eq_getElem hi, List.getElem?_eq_getElem hl] at h9
  have h8 : M[i].s = s.fs[i].path := by simpa using h9
  rw [getElem!_pos M i hi, h8]
  have hm : s.fs[i] ∈ s.fs := List.getElem_mem hl
  obtain ⟨f9, hf9⟩ : ∃ f9, s.fs[i] = f9 := ⟨_, rfl⟩
  rw [hf9] at hm ⊢
  refine ⟨?_, okPath_iff.2 ⟨hk _ hm, x.wf.p _ hm⟩⟩
  rw [x.f] at hm ⊢
  obtain ⟨f, hf, e⟩ := List.mem_map.1 hm
  exact (there_mem x.r hf (by rw [← e]; rfl)).1
/-- The round's relation. -/
structure ReW (W0 : World) (p m d j : Nat) (s : St) (w : World) : Prop where
  on : On W0 w p m none s none
  dx : Dx W0 w d none s none
  nx : Nx (newSt 100000) s
theorem zbN' : Zb none := fun y e => by cases e
theorem on_used9 {w0 w : World} {p m : Nat} {s : St} (h : On w0 w p m none s none) : used s.fs ≤ 1073741824 := by
  obtain ⟨V, F, px⟩ := h.px
  have h1 := used_le px.wf.b
  have h2 := px.wf.n
  omega
theorem ren_used {w0 w : World} {p m : Nat} {s : St} (h : On w0 w p m none s none) {x : ByteArray} (t : there x s.fs = true) (y : ByteArray) : used (renS s.fs x y) + (if there y s.fs = true ∧ x ≠ y then (fileL y s.fs).b.size else 0) = used s.fs := by
  obtain ⟨V, F, px⟩ := h.px
  rw [px.f] at t ⊢
  exact (ren_facts px.r t).2.2.2.2
theorem ren_chain {W0 w : World} {p m : Nat} {s : St} (h : On W0 w p m none s none) (h0 : s.off = false) (h1 : s.bad = 0) {x y : ByteArray} (hx : okPath x = true) (hy : okPath y = true) (t : there x s.fs = true) (su th : Bool) (U U' on : Nat) (hsu : (fileL x s.fs).sure = su) (hth : there y s.fs = th) (hU : used s.fs = U) (hU' : used (renS s.fs x y) = U') (hon : (fileL y s.fs).b.size = on) :
    Calls Try.prog 29 #[.pointer (some ⟨p, 0, none⟩), .string x] w fun e w1 => ∃ ba bn bc, e = .returned (.tuple #[.slice ba bn bc, .bool su, .bool true]) ∧ Hid (
    Calls Try.prog 31 #[.pointer (some ⟨p, 0, none⟩)] w1 fun e w2 => e = .returned (.int .i64 (U : Int)) ∧ Hid (
    Calls Try.prog 29 #[.pointer (some ⟨p, 0, none⟩), .string y] w2 fun e w3 => ∃ oa oc so, e = .returned (.tuple #[.slice oa on oc, .bool so, .bool th]) ∧ Hid (
    Calls Try.prog 13 #[.pointer (some ⟨p, 0, none⟩), .string x, .string y] w3 fun e w4 => e = .returned (.int .i64 0) ∧ Hid (
    Calls Try.prog 29 #[.pointer (some ⟨p, 0, none⟩), .string y] w4 fun e w5 => ∃ ca cn cc, e = .returned (.tuple #[.slice ca cn cc, .bool su, .bool true]) ∧ Hid (
    Calls Try.prog 29 #[.pointer (some ⟨p, 0, none⟩), .string x] w5 fun e w6 => ∃ da dn dc sd, e = .returned (.tuple #[.slice da dn dc, .bool sd, .bool (decide (x = y))]) ∧ Hid (
    (∃ B, Sem.run Try.prog (convert 29 9 (.slice ca cn cc)) w6 = .ok (.string B) w6 ∧ Sem.run Try.prog (convert 29 9 (.slice ba bn bc)) w6 = .ok (.string B) w6) ∧ Below W0.heap.size W0 w6 ∧
    Calls Try.prog 31 #[.pointer (some ⟨p, 0, none⟩)] w6 fun e w7 => e = .returned (.int .i64 (U' : Int)) ∧ w7 = w6)))))) := by
  have hxs := okPath_iff.1 hx
  have hys := okPath_iff.1 hy
  have hxm : x.size ≤ maxLen := by unfold maxLen; omega
  have hym : y.size ≤ maxLen := by unfold maxLen; omega
  obtain ⟨V, F, px⟩ := h.px
  have hf := px.f
  have R := ren_facts px.r (x := x) (y := y) (by rw [← hf]; exact t)
  rw [← hf] at R
  obtain ⟨r1, r2, r3, r4, _⟩ := R
  refine (on_look h hxm).mono ?_
  rintro e w1 ⟨ba, bn, bc, rfl, H1⟩
  refine ⟨ba, bn, bc, by rw [hsu, t], ?_⟩
  obtain ⟨i1, o1, _⟩ := H1.out
  refine (on_used o1).mono ?_
  rintro e w2 ⟨rfl, rfl⟩
  refine ⟨by rw [hU], ?_⟩
  refine (on_look o1 hym).mono ?_
  rintro e w3 ⟨oa, n3, oc, rfl, H3⟩
  obtain ⟨i3, o3, b3⟩ := H3.out
  have e3 := i3.len
  rw [hon] at e3
  subst e3
  refine ⟨oa, oc, _, by rw [hth], ?_⟩
  have i13 := i1.keep b3
  refine (on_rename o3 zbN' hxm hym).mono ?_
  rintro e w4 ⟨rfl, o4, u4⟩
  have i14 := inp_ms o3 u4 i13
  have hr := rn_go h0 h1 hx hy t
  rw [hr] at o4 ⊢
  rw [show (askZ none s [x, y]).2.1 = none from ask_z s _] at o4
  refine ⟨rfl, ?_⟩
  refine (on_look o4 hym).mono ?_
  rintro e w5 ⟨ca, cn, cc, rfl, H5⟩
  obtain ⟨i5, o5, b5⟩ := H5.out
  refine ⟨ca, cn, cc, ?_, ?_⟩
  · show _ = Ending.returned (.tuple #[_, .bool su, .bool true])
    rw [← hsu, ← r3, ← r1]
  refine (on_look o5 hxm).mono ?_
  rintro e w6 ⟨da, dn, dc, rfl, H6⟩
  obtain ⟨_, o6, b6⟩ := H6.out
  refine ⟨da, dn, dc, _, by rw [← r4], ⟨_, (i5.keep b6).conv, ?_⟩, o6.b, ?_⟩
  · have := ((i14.keep b5).keep b6).conv
    rw [this]
    show _ = Result.ok (Value.string (fileL y (renS s.fs x y)).b) w6
    rw [r2]
  · refine (on_used o6).mono ?_
    rintro e w7 ⟨rfl, rfl⟩
    exact ⟨by rw [← hU'], rfl⟩
set_option maxHeartbeats 8000000 in
theorem core (a : Option Addr) (c : Nat) (L : List Dd) (x0 y0 : Nat) (w0 : World) (hD : Ds w0 a L) (hz : a = none → L.length = 0 ∧ c = 0) (hl : L.length ≤ maxLen) (hok : ∀ i, i < L.length → Dok L[i]!) (hx0 : x0 < 256) (hy0 : y0 < 256) :
    Calls Try.prog 7 #[.slice a L.length c, .agg #[.int .u8 (x0 : Int), .int .u8 (y0 : Int)]] w0 fun e w' => e = .returned (.bool true) ∧ Below w0.heap.size w0 w' := by
  obtain ⟨W0, hW0⟩ : ∃ W0, w0.alloc (.cells #[.int .u8 (x0 : Int), .int .u8 (y0 : Int)] 63) = W0 := ⟨_, rfl⟩
  have bW0 : Below w0.heap.size w0 W0 := by rw [← hW0]; exact bal _ _
  have hbx : W0.heap[w0.heap.size]? = some (.cells #[.int .u8 (x0 : Int), .int .u8 (y0 : Int)] 63) := by rw [← hW0]; exact heap_alloc_new _ _
  have cA := awake_any W0
  have HFIN : Hid (∀ w', Below W0.heap.size W0 w' → Below w0.heap.size w0 w') := fun w' b => bW0.trans (b.mono bW0.size)
  have HD : Hid (Ds W0 a L) := hD.keep bW0
  have HOK : Hid (∀ i, i < L.length → Dok L[i]!) := hok
  have HW0 : Hid (w0.alloc (.cells #[.int .u8 (x0 : Int), .int .u8 (y0 : Int)] 63) = W0) := hW0
  have HBX : Hid (W0.heap[w0.heap.size]? = some (.cells #[.int .u8 (x0 : Int), .int .u8 (y0 : Int)] 63)) := hbx
  clear hD hok bW0 hbx
  clear hW0
  go_enter Try.func7, Try.ntmps7
  go_wp2_with fail
  rw [HW0.out]
  obtain ⟨bx, hbx⟩ : ∃ bx, w0.heap.size = bx := ⟨_, rfl⟩
  rw [hbx] at HBX ⊢
  have HSZ : Hid (w0.heap.size = bx) := hbx
  clear HW0 hbx
  go_at_call 9
  refine cA.mono ?_
  rintro e w ⟨rfl, b0⟩
  clear cA
  have HB0 : Hid (Below W0.heap.size W0 w) := b0
  have cR := room_any a c L 40 w (HD.out.keep b0) hl
  clear b0
  go_wp2_with fail
  go_at_call 24
  refine cR.mono ?_
  rintro e w ⟨rfl, rfl⟩
  clear cR
  cases hR : roomB L 40 with
  | false =>
    go_wp2
    go_ret
    exact ⟨rfl, HFIN.out _ HB0.out⟩
  | true =>
    obtain ⟨hlen, hsm⟩ := roomB_out hR
    have HSM : Hid (∀ i, i < L.length → L[i]!.a.size ≤ 1000 ∧ L[i]!.b.size ≤ 1000 ∧ L[i]!.v.2.1 ≤ 5000) := hsm
    clear hR hsm
    have cW := on_new W0 w HB0.out none none trivial (fun j e => by cases e) 100000 (by decide) (by decide)
    dsimp only [Option.map] at cW
    go_wp2_with fail
    go_at_call 11
    refine cW.mono ?_
    rintro e x1 ⟨rfl, h1, _⟩
    obtain ⟨m, hm⟩ : ∃ m, w.heap.size = m := ⟨_, rfl⟩
    rw [hm] at h1
    have HO1 : Hid (On W0 x1 (m + 1) m none (newSt 100000) none) := h1
    have cV := dx_new W0 x1 h1.b none none trivial (fun j e => by cases e) 100000 (by decide) (by decide)
    dsimp only [Option.map] at cV
    clear cW h1
    go_wp2_with fail
    go_at_call 25
    refine cV.mono ?_
    rintro e x2 ⟨rfl, h2, b2⟩
    obtain ⟨d, hd⟩ : ∃ d, x1.heap.size = d := ⟨_, rfl⟩
    rw [hd] at h2
    have HW0 : Hid (ReW W0 (m + 1) m d 0 (newSt 100000) x2) := ⟨HO1.out.keep b2, h2, Nx.refl _⟩
    clear cV h2 b2
    go_wp2_with fail
    go_loopw [7] (fun i wr => ∃ (j : Nat) (s : St), j ≤ L.length ∧ i = .int .i64 j ∧ ReW W0 (m + 1) m d j s wr) (fun i _ => L.length - (intOf i).toNat)
    case atStart => exact ⟨0, newSt 100000, by omega, rfl, HW0.out⟩
    case round =>
      obtain ⟨j, s, hj, rfl, hW⟩ := hrel
      have HW : Hid (ReW W0 (m + 1) m d j s wr) := hW
      have hb := hW.on.b
      clear hW
      by_cases hlt : j < L.length
      · have ij : (j : Int) < (L.length : Int) := by omega
        obtain ⟨bb, oo, rfl, hA⟩ := (HD.out.keep hb) (by omega)
        have t0 := (hA j hlt).c0
        have t1 := (hA j hlt).c1
        have t2 := (hA j hlt).c2
        have t3 := (hA j hlt).c3
        have t4 := (hA j hlt).c4
        have hs := HSM.out j hlt
        have hi0 := (HD.out (by omega))
        have HI : Hid (Inp W0 L[j]!.v.1 L[j]!.v.2.1 L[j]!.v.2.2 L[j]!.x) := by
          obtain ⟨_, _, _, hA0⟩ := hi0
          exact (hA0 j hlt).i
        obtain ⟨e, he⟩ : ∃ e, L[j]! = e := ⟨_, rfl⟩
        rw [he] at t0 t1 t2 t3 t4 hs HI
        obtain ⟨ed, en, ea, eb, ⟨va, vn, vc⟩, ex⟩ := e
        dsimp only at t0 t1 t2 t3 t4 hs HI
        clear hA he hi0
        have HMORE : Hid (ReW W0 (m + 1) m d (j + 1) s wr) := ⟨HW.out.on, HW.out.dx, HW.out.nx⟩
        by_cases q0 : 0 ≤ ed
        · by_cases q1 : ed ≤ 6
          · have K : Hid (Calls Try.prog 26 #[.pointer (some ⟨m + 1, 0, none⟩), .pointer none, .pointer (some ⟨d, 0, none⟩), .agg #[.int .i64 ed, .int .i64 en, .string ea, .string eb, .slice va vn vc]] wr fun e w' => e = .returned (.bool true) ∧ ∃ s', Hid (ReW W0 (m + 1) m d (j + 1) s' w')) := by
              refine (both_any W0 wr (m + 1) m d none none s none (.pointer none) ed en ea eb va vn vc ex HW.out.on HW.out.dx zbN' (by unfold maxLen; omega) (by unfold maxLen; omega) HI.out (by unfold maxLen; omega) q0 q1).mono ?_
              rintro e w' ⟨rfl, s', h9⟩
              exact ⟨rfl, s', h9.out.1, h9.out.2.1, HW.out.nx.trans h9.out.2.2⟩
            clear hs
            go_wp2_with fail
            go_at_call 26
            refine K.out.mono ?_
            rintro e w5 ⟨rfl, s', H5⟩
            clear K
            go_wp2_with fail
            go_round
            case rel => exact ⟨j + 1, s', by omega, by go_num, H5.out⟩
            case measure => simp [intOf]; omega
          · have i2 : decide (ed ≤ 6) = false := decide_eq_false q1
            clear hs q1
            go_wp2_with fail
            go_round
            case rel => exact ⟨j + 1, s, by omega, by go_num, HMORE.out⟩
            case measure => simp [intOf]; omega
        · have i1 : decide (0 ≤ ed) = false := decide_eq_false q0
          clear hs q0
          go_wp2_with fail
          go_round
          case rel => exact ⟨j + 1, s, by omega, by go_num, HMORE.out⟩
          case measure => simp [intOf]; omega
      · have hjn : j = L.length := by omega
        subst hjn
        have ij : decide ((L.length : Int) < (L.length : Int)) = false := by simp
        clear hlt hb
        have cF := on_files HW.out.on
        go_wp2_with fail
        go_at_call 28
        refine cF.mono ?_
        rintro e y1 ⟨v1, M1, rfl, H1⟩
        clear cF
        obtain ⟨a1, c1, rfl, hss⟩ := H1.out.1.ss
        have HM : Hid ((M1.map fun y => y.s) = s.fs.map fun f => f.path) := H1.out.2.1
        have HO : Hid (On W0 y1 (m + 1) m none s none) := H1.out.2.2.1
        have HNX : Hid (Nx (newSt 100000) s) := HW.out.nx
        have HSS : Hid (Ss y1 a1 M1) := hss
        clear H1 hss HW
        by_cases hn0 : M1.length = 0
        · have hfs : s.fs = [] := by
            have := congrArg List.length HM.out
            rw [List.length_map, List.length_map, hn0] at this
            exact List.eq_nil_of_length_eq_zero this.symm
          have ho := HNX.out.o rfl
          have hb := HNX.out.b rfl
          obtain ⟨r1, r2⟩ := rd_none ho hb hfs (x := tX) (by decide)
          have r3 := rn_none ho hb hfs (x := tX) (y := tY) (by decide) (by decide)
          have c1 := on_read HO.out zbN' (x := tX) (by decide)
          rw [r1, r2, show (askZ none s [tX]).2.1 = none from ask_z s _] at c1
          have c2 : Calls Try.prog 15 #[.pointer (some ⟨m + 1, 0, none⟩), .string tX] y1 fun e w' => ∃ a n c, e = .returned (.tuple #[.slice a n c, .int .i64 6]) ∧ Hid (Calls Try.prog 13 #[.pointer (some ⟨m + 1, 0, none⟩), .string tX, .string tY] w' fun e w'' => e = .returned (.int .i64 6) ∧ Hid (Below W0.heap.size W0 w'')) := by
            refine c1.mono ?_
            rintro e w' ⟨a, n, c, rfl, h9⟩
            refine ⟨a, n, c, rfl, ?_⟩
            refine (on_rename h9.out.2.1 zbN' (x := tX) (y := tY) (by decide) (by decide)).mono ?_
            rintro e w'' ⟨rfl, k1, _⟩
            rw [r3] at k1 ⊢
            exact ⟨rfl, k1.b⟩
          clear c1 r1 r2 r3 ho hb hfs
          rw [hn0]
          go_wp2_with fail
          go_at_call 15
          refine c2.mono ?_
          rintro e y2 ⟨ra, rn, rc, rfl, H2⟩
          clear c2
          go_wp2_with fail
          go_at_call 13
          refine H2.out.mono ?_
          rintro e y3 ⟨rfl, H3⟩
          clear H2
          go_wp2
          go_ret
          exact ⟨rfl, HFIN.out _ H3.out⟩
        · obtain ⟨n, hn⟩ : ∃ n, M1.length = n := ⟨_, rfl⟩
          rw [hn] at hn0 ⊢
          obtain ⟨k0, hk0⟩ : ∃ k0, x0 % n = k0 := ⟨_, rfl⟩
          obtain ⟨k1, hk1⟩ : ∃ k1, y0 % n = k1 := ⟨_, rfl⟩
          have l0 : k0 < n := by rw [← hk0]; exact Nat.mod_lt _ (by omega)
          have l1 : k1 < n := by rw [← hk1]; exact Nat.mod_lt _ (by omega)
          have tm0 : (x0 : Int).tmod (n : Int) = (k0 : Int) := by rw [← hk0, Int.ofNat_tmod]
          have tm1 : (y0 : Int).tmod (n : Int) = (k1 : Int) := by rw [← hk1, Int.ofNat_tmod]
          obtain ⟨N1, hN1⟩ : ∃ N1, bits .and .u8 (y0 : Int) 128 = N1 := ⟨_, rfl⟩
          have g0 : ((n : Int) == 0) = false := by rw [beq_eq_false_iff_ne]; omega
          have g1 : (n == 0) = false := by rw [beq_eq_false_iff_ne]; omega
          have i0 : (k0 : Int) < (n : Int) := by omega
          have i1 : (k1 : Int) < (n : Int) := by omega
          have hyb := (HO.out.b.block bx (Array.getElem?_eq_some_iff.1 HBX.out).1).trans HBX.out
          have z0 := cell_of_row y1 bx 0 _ _ _ hyb
          have z1 := cell_of_row y1 bx 1 _ _ _ hyb
          obtain ⟨b1, o1, rfl, hA1⟩ := HSS.out (by omega)
          have t0 := (hA1 k0 (by omega)).c0
          have t1 := (hA1 k1 (by omega)).c0
          rw [Nat.mul_one] at t0 t1
          have A0 := on_at HO.out (HNX.out.k (fun f hf => by cases hf)) HM.out (i := k0) (by omega)
          have A1 := on_at HO.out (HNX.out.k (fun f hf => by cases hf)) HM.out (i := k1) (by omega)
          obtain ⟨x, hx⟩ : ∃ x, M1[k0]!.s = x := ⟨_, rfl⟩
          obtain ⟨y, hy⟩ : ∃ y, M1[k1]!.s = y := ⟨_, rfl⟩
          rw [hx] at t0 A0
          rw [hy] at t1 A1
          have HA0 : Hid (there x s.fs = true ∧ okPath x = true) := A0
          have HA1 : Hid (okPath y = true) := A1.2
          have cv0 : Sem.run Try.prog (convert 5 3 (.int .u8 (x0 : Int))) y1 = .ok (.int .i64 (x0 : Int)) y1 := by
            simp [convert, run_underlying Try.underlying5, run_underlying Try.underlying3, Conv.intToInt]
            rw [IntKind.wrap_i64]; omega
          have cv1 : Sem.run Try.prog (convert 5 3 (.int .u8 (y0 : Int))) y1 = .ok (.int .i64 (y0 : Int)) y1 := by
            simp [convert, run_underlying Try.underlying5, run_underlying Try.underlying3, Conv.intToInt]
            rw [IntKind.wrap_i64]; omega
          clear hn hk0 hk1 hyb hA1 A0 A1 hx hy
          have hU9 := on_used9 HO.out
          have HR9 : Hid (∀ y, used (renS s.fs x y) + (if there y s.fs = true ∧ x ≠ y then (fileL y s.fs).b.size else 0) = used s.fs) := fun y => ren_used HO.out HA0.out.1 y
          have ho := HNX.out.o rfl
          have hb := HNX.out.b rfl
          have CH : Hid (∀ y, okPath y = true → ∀ (su th : Bool) (U U' on : Nat) (hsu : (fileL x s.fs).sure = su) (hth : there y s.fs = th) (hU : used s.fs = U) (hU' : used (renS s.fs x y) = U') (hon : (fileL y s.fs).b.size = on), _) := fun y hy su th U U' on e1 e2 e3 e4 e5 => ren_chain HO.out ho hb HA0.out.2 hy HA0.out.1 su th U U' on e1 e2 e3 e4 e5
          clear ho hb
          obtain ⟨U, hU⟩ : ∃ U, used s.fs = U := ⟨_, rfl⟩
          obtain ⟨su, hsu⟩ : ∃ su, (fileL x s.fs).sure = su := ⟨_, rfl⟩
          have HU : Hid (used s.fs = U ∧ (fileL x s.fs).sure = su) := ⟨hU, hsu⟩
          rw [hU] at hU9 HR9
          clear hU hsu
          by_cases qN : N1 = 128
          · subst qN
            go_wp2_with fail
            obtain ⟨yy, hyy⟩ : ∃ yy : ByteArray, (⟨#[110, 101, 119]⟩ : ByteArray) = yy := ⟨_, rfl⟩
            have hyo : okPath yy = true := by rw [← hyy]; decide
            rw [hyy]
            have HYO : Hid (okPath yy = true) := hyo
            clear hyy hyo
            obtain ⟨U', hU'⟩ : ∃ U', used (renS s.fs x yy) = U' := ⟨_, rfl⟩
            obtain ⟨on, hon⟩ : ∃ on, (fileL yy s.fs).b.size = on := ⟨_, rfl⟩
            obtain ⟨th, hth⟩ : ∃ th, there yy s.fs = th := ⟨_, rfl⟩
            have C1 := CH.out yy HYO.out su th U U' on HU.out.2 hth HU.out.1 hU' hon
            have HR := HR9.out yy
            rw [hU', hon, hth] at HR
            clear hU' hon hth CH HR9
            go_at_call 29
            refine C1.mono ?_
            rintro e w1 ⟨ba, bn, bc, rfl, C2⟩
            clear C1
            go_wp2_with fail
            go_at_call 31
            refine C2.out.mono ?_
            rintro e w2 ⟨rfl, C3⟩
            clear C2
            go_wp2_with fail
            go_at_call 29
            refine C3.out.mono ?_
            rintro e w3 ⟨oa, oc, so, rfl, C4⟩
            clear C3
            go_wp2_with fail
            go_at_call 13
            refine C4.out.mono ?_
            rintro e w4 ⟨rfl, C5⟩
            clear C4
            go_wp2_with fail
            go_at_call 29
            refine C5.out.mono ?_
            rintro e w5 ⟨ca, cn, cc, rfl, C6⟩
            clear C5
            go_wp2_with fail
            go_at_call 29
            refine C6.out.mono ?_
            rintro e w6 ⟨da, dn, dc, sd, rfl, C7⟩
            obtain ⟨⟨B, cv2, cv3⟩, hbel, CU⟩ := C7.out
            have HBEL : Hid (Below W0.heap.size W0 w6) := hbel
            clear C6 C7 hbel
            have HU' : Hid (U' ≤ U) := by unfold Hid; omega
            by_cases q : x = yy
            · have q1 : (x.toList == yy.toList) = true := by rw [q]; simp
              have q2 : (x.toList != yy.toList) = false := by rw [q]; simp
              rw [if_neg (fun k => k.2 q)] at HR
              have e9 : U' = U := by omega
              subst e9
              rw [decide_eq_true q]
              clear q HR HU'
              cases th
              all_goals
                go_wp2_with fail
                go_at_call 31
                refine CU.mono ?_
                rintro e w7 ⟨rfl, rfl⟩
                go_wp2
                go_ret
                exact ⟨rfl, HFIN.out _ HBEL.out⟩
            · obtain ⟨q1, q2⟩ := toList_ne q
              rw [decide_eq_false q]
              cases th with
              | true =>
                rw [if_pos ⟨rfl, q⟩] at HR
                have wz : IntKind.i64.wrap ((U : Int) - (on : Int)) = (U' : Int) := by rw [IntKind.wrap_i64]; omega
                clear q HR HU'
                go_wp2_with fail
                go_at_call 31
                refine CU.mono ?_
                rintro e w7 ⟨rfl, rfl⟩
                go_wp2
                go_ret
                exact ⟨rfl, HFIN.out _ HBEL.out⟩
              | false =>
                rw [if_neg (fun k => by cases k.1)] at HR
                have e9 : U' = U := by omega
                subst e9
                clear q HR HU'
                go_wp2_with fail
                go_at_call 31
                refine CU.mono ?_
                rintro e w7 ⟨rfl, rfl⟩
                go_wp2
                go_ret
                exact ⟨rfl, HFIN.out _ HBEL.out⟩
          · have g9 : (N1 == 128) = false := by rw [beq_eq_false_iff_ne]; exact qN
            clear qN
            go_wp2_with fail
            obtain ⟨U', hU'⟩ : ∃ U', used (renS s.fs x y) = U' := ⟨_, rfl⟩
            obtain ⟨on, hon⟩ : ∃ on, (fileL y s.fs).b.size = on := ⟨_, rfl⟩
            obtain ⟨th, hth⟩ : ∃ th, there y s.fs = th := ⟨_, rfl⟩
            have C1 := CH.out y HA1.out su th U U' on HU.out.2 hth HU.out.1 hU' hon
            have HR := HR9.out y
            rw [hU', hon, hth] at HR
            clear hU' hon hth CH HR9
            go_at_call 29
            refine C1.mono ?_
            rintro e w1 ⟨ba, bn, bc, rfl, C2⟩
            clear C1
            go_wp2_with fail
            go_at_call 31
            refine C2.out.mono ?_
            rintro e w2 ⟨rfl, C3⟩
            clear C2
            go_wp2_with fail
            go_at_call 29
            refine C3.out.mono ?_
            rintro e w3 ⟨oa, oc, so, rfl, C4⟩
            clear C3
            go_wp2_with fail
            go_at_call 13
            refine C4.out.mono ?_
            rintro e w4 ⟨rfl, C5⟩
            clear C4
            go_wp2_with fail
            go_at_call 29
            refine C5.out.mono ?_
            rintro e w5 ⟨ca, cn, cc, rfl, C6⟩
            clear C5
            go_wp2_with fail
            go_at_call 29
            refine C6.out.mono ?_
            rintro e w6 ⟨da, dn, dc, sd, rfl, C7⟩
            obtain ⟨⟨B, cv2, cv3⟩, hbel, CU⟩ := C7.out
            have HBEL : Hid (Below W0.heap.size W0 w6) := hbel
            clear C6 C7 hbel
            have HU' : Hid (U' ≤ U) := by unfold Hid; omega
            by_cases q : x = y
            · have q1 : (x.toList == y.toList) = true := by rw [q]; simp
              have q2 : (x.toList != y.toList) = false := by rw [q]; simp
              rw [if_neg (fun k => k.2 q)] at HR
              have e9 : U' = U := by omega
              subst e9
              rw [decide_eq_true q]
              clear q HR HU'
              cases th
              all_goals
                go_wp2_with fail
                go_at_call 31
                refine CU.mono ?_
                rintro e w7 ⟨rfl, rfl⟩
                go_wp2
                go_ret
                exact ⟨rfl, HFIN.out _ HBEL.out⟩
            · obtain ⟨q1, q2⟩ := toList_ne q
              rw [decide_eq_false q]
              cases th with
              | true =>
                rw [if_pos ⟨rfl, q⟩] at HR
                have wz : IntKind.i64.wrap ((U : Int) - (on : Int)) = (U' : Int) := by rw [IntKind.wrap_i64]; omega
                clear q HR HU'
                go_wp2_with fail
                go_at_call 31
                refine CU.mono ?_
                rintro e w7 ⟨rfl, rfl⟩
                go_wp2
                go_ret
                exact ⟨rfl, HFIN.out _ HBEL.out⟩
              | false =>
                rw [if_neg (fun k => by cases k.1)] at HR
                have e9 : U' = U := by omega
                subst e9
                clear q HR HU'
                go_wp2_with fail
                go_at_call 31
                refine CU.mono ?_
                rintro e w7 ⟨rfl, rfl⟩
                go_wp2
                go_ret
                exact ⟨rfl, HFIN.out _ HBEL.out⟩


set_option maxRecDepth 100000 in
theorem lifted (os : Os) (started : os.Started) (H : Type) (enc : TypeId × Value → H) :
    ReturnsInHanded {} Try.checked os 7 .any (Rows.diskRenameSpec.pre6 enc Try.prog Try.f7 Rows.diskRenameRow.domain false) (Rows.diskRenameSpec.post enc Try.prog Try.f7 false true false false) := by
  refine returnsInHanded_of_change_sized (C := Try.checked) own started (by kernel_rfl) Try.func7
    (ChangeSpec.witness6 (enc := enc) (C := Try.checked) false ⟨#[], #[.slice none 0 0, .agg #[.int .u8 0, .int .u8 0]], []⟩ 8 (by kernel_rfl) (by kernel_rfl) (by kernel_rfl) (by kernel_rfl)) ?_
  intro W base args ds gs before hval0 hW hcnd hsz0 _
  have hval : ∀ (j : Nat) t v, Try.f7.params[j]? = some t → args[j]? = some v → Value.okWide Try.prog W .any base t v := hval0
  have hsz : (DataW.weightsEach Try.prog (Try.f7.params.toList ++ Rows.diskRenameSpec.plain.varTypes Try.prog) (ds ++ gs)).all (· ≤ reachBytes) = true := hsz0
  have hW' := hW
  obtain ⟨p, q, hA0, hV, rfl, hfz, hnd⟩ := hW
  have hA : DataW.TrodAll enc Try.prog W 0 (fun _ => true) true Try.f7.params.toList args.toList ds p := hA0
  rw [Try.params7] at hA hval hsz
  obtain ⟨v0, vs0, d0, ds0, p0, q0, hargs, rfl, rfl, h0, r0⟩ := trodAll_cons hA
  obtain ⟨v1, vs1, d1, ds1, p1, q1, rfl, rfl, rfl, h1, r1⟩ := trodAll_cons r0
  obtain ⟨rfl, rfl, rfl⟩ := trodAll_nil r1
  obtain rfl : args = #[v0, v1] := by cases args; simp_all
  obtain ⟨rfl, rfl⟩ := trodVars_none hV
  have k0 := h0
  have lt0 : ∀ x ∈ p0, x.block < W.heap.size := by obtain ⟨m, hm⟩ := k0; exact DataW.trod_lt m _ _ _ hm
  obtain ⟨a0, c0, L0, rfl, m0, z0, e0, g0⟩ := open_deeds (hval 0 45 v0 rfl rfl) h0
  have k1 := h1
  have lt1 : ∀ x ∈ p1, x.block < W.heap.size := by obtain ⟨m, hm⟩ := k1; exact DataW.trod_lt m _ _ _ hm
  obtain ⟨x1, y1, e1, g1, rfl⟩ := open_pair8 (hval 1 63 v1 rfl rfl) h1
  clear hA0 hval0 hsz0
  refine (core a0 c0 L0 x1 y1 W m0 z0 e0 g0 e1 g1).mono fun e W' ⟨he, bel⟩ => ?_
  subst he
  exact ⟨_, rfl, _, _, _, [], _, [], hW', trodAll_mk1 (shut_bool Try.underlying4 _), (trodAll_cons_mk (Below.trod laidOut (by kernel_rfl) (of_decide_eq_true (by kernel_rfl)) k0 bel lt0) (trodAll_cons_mk (Below.trod laidOut (by kernel_rfl) (of_decide_eq_true (by kernel_rfl)) k1 bel lt1) trodAll_mk0)), rfl, bel.frame _, fun h => by cases h⟩

theorem over : Rows.diskRenameRow.holds Try.pinned (OpenSpec.ofChange Rows.diskRenameSpec) :=
  OpenClaim.holds_of_wide 7 Try.f7 rfl rfl rfl rfl rfl rfl rfl ⟨rfl, rfl, rfl, rfl, rfl⟩ rfl rfl rfl rfl rfl (by kernel_rfl) Try.func7 (by kernel_rfl)
    (of_decide_eq_true (by kernel_rfl)) (by unfold Func.isWrapper; first | (rw [if_pos (by decide +kernel)]; kernel_rfl) | (rw [if_neg (by decide +kernel)]; exact ⟨rfl, rfl⟩))
    (fun os started H enc _ => lifted os started H enc)

end diskRename

/-- The statement. -/
theorem diskRename_holds : Rows.DiskRenameSaid := diskRename.over
#print axioms diskRename_holds
end Go.Proofs.Ythkhkijdehbbmaa
