/-
  What was written is listed: every name once, rising, and those that begin with a prefix; each is read as it was written last. For every row of deeds and every prefix.
-/
import Derived.Test.YthkhkijdehbbmaaRows
import Derived.WalkKit
import Derived.ProofKit
import Derived.OpenShut
import Derived.ShutString
import Derived.ChangeOld
import Derived.Below
import Derived.SizedLaws
import Derived.ChangeSame
import Derived.ChangeMaps5
import Derived.Test.YthkhkijdehbbmaaSmLi
set_option maxRecDepth 100000
namespace Go.Proofs.Ythkhkijdehbbmaa
namespace diskLists
open Go.ChangeShapes Go.WideShapes Go.ChangeAt Go.RowKit
open _root_.Go.Proofs.Ythkhkijdehbbmaa.Nm _root_.Go.Proofs.Ythkhkijdehbbmaa.Dk
set_option linter.unusedVariables false
attribute [local go_sem ↓] Go.wp_at_zero Go.wp_at_succ

theorem own : ownKnob Try.prog.godebug = none := by kernel_rfl
theorem laidOut : laidOutB Try.prog = true := by kernel_rfl

structure LiW (w0 : World) (p m : Nat) (j : Nat) (Ns : List Sv) (Ys : List Yv) (vN vY : Value) (s : St) (w : World) : Prop where
  h : On w0 w p m none s none
  n : SOwn w w0.heap.size vN Ns
  dy : YOwn w w0.heap.size vY Ys
  i : ∀ e ∈ Ys, Inp w0 e.v.1 e.v.2.1 e.v.2.2 e.b
  d : Ld Ns Ys s.fs
  off : s.off = false
  bad : s.bad = 0
  most : s.most = 1000000
  us : used s.fs ≤ 5000 * j
  ln : Ns.length ≤ j
/-- Behind a write. -/
structure LiP (w0 : World) (p m : Nat) (j : Nat) (x : ByteArray) (y : Yv) (Ns : List Sv) (Ys : List Yv) (vN vY : Value) (s : St) (w : World) : Prop where
  h : On w0 w p m none s none
  n : SOwn w w0.heap.size vN Ns
  dy : YOwn w w0.heap.size vY Ys
  i : ∀ e ∈ Ys, Inp w0 e.v.1 e.v.2.1 e.v.2.2 e.b
  iy : Inp w0 y.v.1 y.v.2.1 y.v.2.2 y.b
  old : ∀ k, k < Ns.length → Ns[k]!.s = x → Ld Ns (Ys.set k y) s.fs
  new : (∀ k, k < Ns.length → Ns[k]!.s ≠ x) → Ld (Ns ++ [⟨x⟩]) (Ys ++ [y]) s.fs
  len : Ys.length = Ns.length
  off : s.off = false
  bad : s.bad = 0
  most : s.most = 1000000
  us : used s.fs ≤ 5000 * (j + 1)
  ln : Ns.length ≤ j
theorem LiW.keep {w0 w w' : World} {p m j : Nat} {Ns : List Sv} {Ys : List Yv} {vN vY : Value} {s : St} (h : LiW w0 p m j Ns Ys vN vY s w) (b : Below w.heap.size w w') : LiW w0 p m j Ns Ys vN vY s w' :=
  ⟨h.h.keep b, h.n.keep b, h.dy.keep b, h.i, h.d, h.off, h.bad, h.most, h.us, h.ln⟩
theorem LiP.keep {w0 w w' : World} {p m j : Nat} {x : ByteArray} {y : Yv} {Ns : List Sv} {Ys : List Yv} {vN vY : Value} {s : St} (h : LiP w0 p m j x y Ns Ys vN vY s w) (b : Below w.heap.size w w') : LiP w0 p m j x y Ns Ys vN vY s w' :=
  ⟨h.h.keep b, h.n.keep b, h.dy.keep b, h.i, h.iy, h.old, h.new, h.len, h.off, h.bad, h.most, h.us, h.ln⟩
def nilY : Yv := ⟨(none, 0, 0), ⟨#[]⟩⟩
/-- Ahead of the store. -/
structure LiS (w0 : World) (p m : Nat) (j ti : Nat) (y : Yv) (Ns : List Sv) (Ys : List Yv) (vN vY : Value) (s : St) (w : World) : Prop where
  h : On w0 w p m none s none
  n : SOwn w w0.heap.size vN Ns
  dy : YOwn w w0.heap.size vY Ys
  i : ∀ e ∈ Ys.set ti y, Inp w0 e.v.1 e.v.2.1 e.v.2.2 e.b
  d : Ld Ns (Ys.set ti y) s.fs
  tl : ti < Ys.length
  off : s.off = false
  bad : s.bad = 0
  most : s.most = 1000000
  us : used s.fs ≤ 5000 * (j + 1)
  ln : Ns.length ≤ j + 1
theorem LiP.store {w0 w : World} {p m j : Nat} {x : ByteArray} {y : Yv} {Ns : List Sv} {Ys : List Yv} {vN vY : Value} {s : St} (h : LiP w0 p m j x y Ns Ys vN vY s w) {ti : Nat} (ht : ti < Ns.length) (hs : Ns[ti]!.s = x) : LiS w0 p m j ti y Ns Ys vN vY s w :=
  ⟨h.h, h.n, h.dy, fun e he => by
    rcases List.mem_or_eq_of_mem_set he with k | k
    · exact h.i e k
    · subst k; exact h.iy, h.old ti ht hs, by rw [h.len]; exact ht, h.off, h.bad, h.most, h.us, by have := h.ln; omega⟩
theorem LiP.push {w0 w : World} {p m j : Nat} {x : ByteArray} {y : Yv} {Ns : List Sv} {Ys : List Yv} {vN vY : Value} {s : St} (h : LiP w0 p m j x y Ns Ys vN vY s w) (hj : j ≤ 40) (hno : ∀ k, k < Ns.length → Ns[k]!.s ≠ x) :
    ∃ vN' W1 vY' W3, Sem.run Try.prog (Builtin.append_ #[36, 36] 36 #[vN, .slice (some ⟨w.heap.size, 0, none⟩) 1 1]) (w.alloc (.cells #[.string x] 9)) = .ok vN' W1 ∧
      Sem.run Try.prog (Builtin.append_ #[65, 65] 65 #[vY, .slice (some ⟨W1.heap.size, 0, none⟩) 1 1]) (W1.alloc (.cells #[.slice none 0 0] 29)) = .ok vY' W3 ∧
      Below w0.heap.size w0 W1 ∧ Hid (LiS w0 p m j Ns.length y (Ns ++ [⟨x⟩]) (Ys ++ [nilY]) vN' vY' s W3) := by
  have hl := h.ln
  have hlen := h.len
  have b1 : Below w.heap.size w (w.alloc (.cells #[.string x] 9)) := bal _ _
  have h1 := h.keep b1
  have hz := h1.h.b.size
  obtain ⟨vN', W1, r1, o1, g1, _⟩ := appendS (a := some ⟨w.heap.size, 0, none⟩) (c := 1) h1.n (litS w ⟨x⟩) (fun e => by cases e) (by show Ns.length + 1 ≤ _; omega) hz
  have u1 := grown_upd g1
  have k1 := h1.h.beside u1 (fun k e => by
    obtain ⟨h8, cur, h9⟩ := h1.n.at_block e
    exact ⟨h8, cur, _, h9, by decide, by decide⟩)
  have y1 := yown_upd h1.dy u1 (fun g cur e k => by
    obtain ⟨_, cur', h9⟩ := h1.n.at_block k
    rw [h9] at e
    injection e with e
    injection e with _ e _
    exact absurd e (by decide))
  have b2 : Below W1.heap.size W1 (W1.alloc (.cells #[.slice none 0 0] 29)) := bal _ _
  have k2 := k1.keep b2
  have y2 := y1.keep b2
  have n2 := o1.keep b2
  obtain ⟨vY', W3, r3, o3, g3, _⟩ := appendY (a := some ⟨W1.heap.size, 0, none⟩) (c := 1) y2 (litY W1 nilY) (fun e => by cases e) (by show Ys.length + 1 ≤ _; omega) k2.b.size
  have u3 := grown_upd g3
  have k3 := k2.beside u3 (fun k e => by
    obtain ⟨h8, cur, h9⟩ := y2.at_block e
    exact ⟨h8, cur, _, h9, by decide, by decide⟩)
  have n3 := sown_upd n2 u3 (fun g cur e k => by
    obtain ⟨_, cur', h9⟩ := y2.at_block k
    rw [h9] at e
    injection e with e
    injection e with _ e _
    exact absurd e (by decide))
  have hset : (Ys ++ [nilY]).set Ns.length y = Ys ++ [y] := by
    rw [← hlen, List.set_append_right _ _ (Nat.le_refl _), Nat.sub_self]; rfl
  refine ⟨vN', W1, vY', W3, r1, r3, k1.b, k3, n3, o3, ?_, ?_, ?_, h.off, h.bad, h.most, h.us, by rw [List.length_append]; show Ns.length + 1 ≤ _; omega⟩
  · rw [hset]
    intro e he
    rcases List.mem_append.1 he with k | k
    · exact h.i e k
    · rw [List.mem_singleton] at k
      subst k; exact h.iy
  · rw [hset]; exact h.new hno
  · rw [List.length_append, hlen]; exact Nat.lt_succ_self _
theorem LiS.done {w0 w : World} {p m j ti g cy : Nat} {y : Yv} {Ns : List Sv} {Ys : List Yv} {vN : Value} {s : St} (h : LiS w0 p m j ti y Ns Ys vN (.slice (some ⟨g, 0, none⟩) Ys.length cy) s w) : LiW w0 p m (j + 1) Ns (Ys.set ti y) vN (.slice (some ⟨g, 0, none⟩) Ys.length cy) s (w.setCell ⟨g, ti, none⟩ (.slice y.v.1 y.v.2.1 y.v.2.2)) := by
  have u : Upd (fun k => k = g) w (w.setCell ⟨g, ti, none⟩ (.slice y.v.1 y.v.2.1 y.v.2.2)) := Upd.put (M := fun k => k = g) (Upd.refl _ w) (p := ⟨g, ti, none⟩) (.inl rfl) _
  have hb : w0.heap.size ≤ g ∧ ∃ cur, w.heap[g]? = some (.cells cur 29 (0, 0)) := h.dy.at_block rfl
  have hp := h.dy.put h.tl y
  refine ⟨h.h.beside u (fun k e => ?_), sown_upd h.n u (fun g' cur e k => ?_), ?_, h.i, h.d, h.off, h.bad, h.most, h.us, h.ln⟩
  · subst e
    obtain ⟨h8, cur, h9⟩ := hb
    exact ⟨h8, cur, _, h9, by decide, by decide⟩
  · subst k
    obtain ⟨_, cur', h9⟩ := hb
    rw [h9] at e
    injection e with e
    injection e with _ e _
    exact absurd e (by decide)
  · have e9 : (Ys.set ti y).length = Ys.length := List.length_set
    unfold YOwn at hp ⊢
    rw [e9] at hp ⊢
    exact hp
theorem LiS.cell {w0 w : World} {p m j ti g cy : Nat} {y : Yv} {Ns : List Sv} {Ys : List Yv} {vN : Value} {s : St} (h : LiS w0 p m j ti y Ns Ys vN (.slice (some ⟨g, 0, none⟩) Ys.length cy) s w) : w.cell? ⟨g, ti, none⟩ = some (.slice Ys[ti]!.v.1 Ys[ti]!.v.2.1 Ys[ti]!.v.2.2) := by
  obtain ⟨a, c, e, hs, _⟩ := h.dy.row
  injection e with e
  obtain ⟨b, o, e1, hc⟩ := hs (by have := h.tl; omega)
  rw [← e] at e1
  injection e1 with e1
  injection e1 with e1 e2 _
  subst e1; subst e2
  have := (hc ti h.tl).c0
  rw [Nat.zero_add, Nat.mul_one] at this
  exact this
theorem zbN' : Zb none := fun y e => by cases e
theorem li_put {w0 w : World} {p m j : Nat} {Ns : List Sv} {Ys : List Yv} {vN vY : Value} {s : St} (h : LiW w0 p m j Ns Ys vN vY s w) {x : ByteArray} (hx : okPath x = true) (hj : j ≤ 40) {a : Option Addr} {bn c : Nat} {b : ByteArray} (hi : Inp w0 a bn c b) (hbn : bn ≤ 5000) :
    Calls Try.prog 12 #[.pointer (some ⟨p, 0, none⟩), .string x, .slice a bn c] w fun e w' => e = .returned (.int .i64 0) ∧ ∃ s', Hid (LiP w0 p m j x ⟨(a, bn, c), b⟩ Ns Ys vN vY s' w') := by
  obtain ⟨V, F, px⟩ := h.h.px
  obtain ⟨A, M, B, P⟩ := part_at px.r x
  have hok := okPath_iff.1 hx
  have hml : x.size ≤ maxLen := by unfold maxLen; omega
  have hcnt := h.d.count
  have hln := h.ln
  have hus := h.us
  have hlen := hi.len
  refine (on_write h.h zbN' hml (hi.keep h.h.b) (by unfold maxLen; omega)).mono ?_
  rintro e w' ⟨rfl, k1, u1⟩
  have hW : wriZ none s x b = (0, { s with fs := Dk.put s.fs ⟨x, b, false⟩ }) := wri_ok rfl h.off h.bad hx (by omega) (by
    unfold full
    rw [h.most, decide_eq_false (show ¬ 4096 ≤ s.fs.length by omega), Bool.and_false, Bool.or_false]
    exact decide_eq_false (by omega))
  rw [hW] at k1 ⊢
  obtain ⟨fi, hfi⟩ : ∃ fi : Fv, fi = ⟨x, (none, 0, 0), false, b⟩ := ⟨_, rfl⟩
  have hput : Dk.put s.fs ⟨x, b, false⟩ = (A ++ fi :: B).map fl := by
    rw [px.f]
    have e9 : fl fi = ⟨x, b, false⟩ := by subst hfi; rfl
    rw [← e9, P.putD (f := fi) (by subst hfi; rfl)]
  rw [hput] at k1
  have hd := h.d
  rw [px.f] at hd
  have hpu := P.used
  have e1 : fi.b = b := by subst hfi; rfl
  have e2 : fi.path = x := by subst hfi; rfl
  refine ⟨rfl, _, ⟨k1, sown_upd h.n u1 (fun g cur e => ms_not h.h e (by decide)), yown_upd h.dy u1 (fun g cur e => ms_not h.h e (by decide)), h.i, hi, fun k hk hs => hd.old P hk hs e2 e1.symm, fun hn => hd.new P hx hn e2 e1.symm, h.d.len, h.off, h.bad, h.most, ?_, h.ln⟩⟩
  show used ((A ++ fi :: B).map fl) ≤ _
  rw [used_mid, e1]
  rw [px.f] at hus
  omega
theorem LiW.upd {w0 w w' : World} {p m j : Nat} {Ns : List Sv} {Ys : List Yv} {vN vY : Value} {s : St} (h : LiW w0 p m j Ns Ys vN vY s w) (u : Upd (Ms p m none) w w') (k : On w0 w' p m none s none) : LiW w0 p m j Ns Ys vN vY s w' :=
  ⟨k, sown_upd h.n u (fun g cur e => ms_not h.h e (by decide)), yown_upd h.dy u (fun g cur e => ms_not h.h e (by decide)), h.i, h.d, h.off, h.bad, h.most, h.us, h.ln⟩
theorem li_list {w0 w : World} {p m j : Nat} {Ns : List Sv} {Ys : List Yv} {vN vY : Value} {s : St} (h : LiW w0 p m j Ns Ys vN vY s w) {x : ByteArray} (hx : x.size ≤ maxLen) :
    Calls Try.prog 20 #[.pointer (some ⟨p, 0, none⟩), .string x] w fun e w' => ∃ v M, e = .returned (.tuple #[v, .int .i64 0]) ∧ Hid (SOwn w' w0.heap.size v M ∧ (M.map fun y => y.s) = lst x s.fs ∧ LiW w0 p m j Ns Ys vN vY s w' ∧ Upd (Ms p m none) w w') := by
  refine (on_list h.h zbN' hx).mono ?_
  rintro e w' ⟨v, M, rfl, k1, k2, k3, k4⟩
  obtain ⟨e1, e2⟩ := lis_go h.off h.bad x
  rw [e1] at k2 ⊢
  rw [e2] at k3
  exact ⟨v, M, rfl, k1.mono h.h.b.size, k2, h.upd k4 k3, k4⟩
theorem li_read {w0 w : World} {p m j : Nat} {Ns : List Sv} {Ys : List Yv} {vN vY : Value} {s : St} (h : LiW w0 p m j Ns Ys vN vY s w) {i : Nat} (hi : i < Ns.length) :
    Calls Try.prog 15 #[.pointer (some ⟨p, 0, none⟩), .string Ns[i]!.s] w fun e w' => ∃ a n c, e = .returned (.tuple #[.slice a n c, .int .i64 0]) ∧ Hid (Inp w' a n c Ys[i]!.b ∧ LiW w0 p m j Ns Ys vN vY s w' ∧ Upd (Ms p m none) w w') := by
  have hok := h.d.ok Ns[i]! (by rw [getElem!_pos Ns i hi]; exact List.getElem_mem hi)
  obtain ⟨V, F, px⟩ := h.h.px
  have hd := h.d
  rw [px.f] at hd
  have hR := hd.read px.r px.f h.off h.bad hi
  refine (on_read h.h zbN' (by have := okPath_iff.1 hok; unfold maxLen; omega)).mono ?_
  rintro e w' ⟨a, n, c, rfl, k1, k2, k3⟩
  have ea : (askZ none s [Ns[i]!.s]).2.2 = s := by
    show (askD s _).2 = s
    rw [askD_go h.off h.bad (by rw [List.all_cons, hok]; rfl)]
  rw [hR] at k1 ⊢
  rw [ea] at k2
  exact ⟨a, n, c, rfl, k1, h.upd k3 k2, k3⟩
/-- The row of names rises. -/
theorem li_rise {w0 w : World} {p m j : Nat} {Ns : List Sv} {Ys : List Yv} {vN vY : Value} {s : St} (h : LiW w0 p m j Ns Ys vN vY s w) {M : List Sv} (hM : (M.map fun y => y.s) = lst ⟨#[]⟩ s.fs) : M.length = Ns.length ∧ ∀ i, i + 1 < M.length → ls (tx M[i]!.s) (tx M[i + 1]!.s) = true := by
  obtain ⟨V, F, px⟩ := h.h.px
  rw [lst_all, px.f] at hM
  have hlen : M.length = V.length := by have := congrArg List.length hM; simpa using this
  have hcnt := h.d.count
  rw [px.f, List.length_map] at hcnt
  refine ⟨by omega, fun i hi => ?_⟩
  have hat : ∀ i, (hi : i < M.length) → M[i]!.s = (V[i]'(by omega)).path := fun i hi => by
    have := congrArg (fun l => l[i]?) hM
    simp only [List.getElem?_map, List.map_map] at this
    rw [List.getElem?_eq_getElem hi, List.getElem?_eq_getElem (by omega)] at this
    rw [getElem!_pos M i hi]
    simp only [Option.map_some, Option.some.injEq] at this
    exact this
  rw [hat i (by omega), hat (i + 1) hi]
  have hr := px.r
  unfold Rise at hr
  rw [List.pairwise_iff_getElem] at hr
  exact hr i (i + 1) (by omega) (by omega) (by omega)
theorem less_tx (a b : ByteArray) : Op.bytesLess a.toList b.toList = ls (tx a) (tx b) := by rw [less_ls, ByteArray.toList_eq, ByteArray.toList_eq]; rfl
set_option maxHeartbeats 8000000 in
theorem core (a : Option Addr) (c : Nat) (L : List Dd) (pr : ByteArray) (w0 : World) (hD : Ds w0 a L) (hz : a = none → L.length = 0 ∧ c = 0) (hl : L.length ≤ maxLen) (hok : ∀ i, i < L.length → Dok L[i]!) (hpr : pr.size ≤ maxLen) :
    Calls Try.prog 8 #[.slice a L.length c, .string pr] w0 fun e w' => e = .returned (.bool true) ∧ Below w0.heap.size w0 w' := by
  have cA := awake_any w0
  go_enter Try.func8, Try.ntmps8
  go_wp2_with fail
  go_at_call 9
  refine cA.mono ?_
  rintro e w ⟨rfl, b0⟩
  clear cA
  have HB0 : Hid (Below w0.heap.size w0 w) := b0
  have cR := room_any a c L 40 w (hD.keep b0) hl
  have HD : Hid (Ds w0 a L) := hD
  have HOK : Hid (∀ i, i < L.length → Dok L[i]!) := hok
  clear b0 hD hok
  go_wp2_with fail
  go_at_call 24
  refine cR.mono ?_
  rintro e w ⟨rfl, rfl⟩
  clear cR
  cases hR : roomB L 40 with
  | false =>
    go_wp2
    go_ret
    exact ⟨rfl, HB0.out⟩
  | true =>
    obtain ⟨hlen, hsm⟩ := roomB_out hR
    have HSM : Hid (∀ i, i < L.length → L[i]!.a.size ≤ 1000 ∧ L[i]!.b.size ≤ 1000 ∧ L[i]!.v.2.1 ≤ 5000) := hsm
    clear hR hsm
    by_cases hp5 : 500 < pr.size
    · have g1 : (500 : Int) < (pr.size : Int) := by omega
      go_wp2
      go_ret
      exact ⟨rfl, HB0.out⟩
    have g1 : decide ((500 : Int) < (pr.size : Int)) = false := decide_eq_false (by omega)
    have cW := on_new w0 w HB0.out none none trivial (fun j e => by cases e) 1000000 (by decide) (by decide)
    dsimp only [Option.map] at cW
    go_wp2_with fail
    go_at_call 11
    refine cW.mono ?_
    rintro e x1 ⟨rfl, h1, _⟩
    obtain ⟨m, hm⟩ : ∃ m, w.heap.size = m := ⟨_, rfl⟩
    rw [hm] at h1
    have HW0 : Hid (LiW w0 (m + 1) m 0 [] [] (.slice none 0 0) (.slice none 0 0) (newSt 1000000) x1) :=
      ⟨h1, SOwn.start _ _, YOwn.start _ _, (fun _ k => absurd k List.not_mem_nil), Ld.nil, rfl, rfl, rfl, Nat.zero_le _, Nat.le_refl _⟩
    clear cW h1
    go_wp2_with fail
    go_loopw [6, 7, 8] (fun vN vY i wr => ∃ (j : Nat) (s : St) (Ns : List Sv) (Ys : List Yv), j ≤ L.length ∧ i = .int .i64 j ∧ LiW w0 (m + 1) m j Ns Ys vN vY s wr) (fun _ _ i _ => L.length - (intOf i).toNat)
    case atStart => exact ⟨0, newSt 1000000, [], [], by omega, rfl, HW0.out⟩
    case round =>
      obtain ⟨j, s, Ns, Ys, hj, rfl, hW⟩ := hrel
      have HW : Hid (LiW w0 (m + 1) m j Ns Ys u6 u7 s wr) := hW
      have hb := hW.h.b
      clear hW
      by_cases hlt : j < L.length
      · have ij : (j : Int) < (L.length : Int) := by omega
        obtain ⟨bb, oo, rfl, hA⟩ := (HD.out.keep hb) (by omega)
        have HA : Hid (∀ wr, Below w0.heap.size w0 wr → DAt wr bb (oo + j * 5) L[j]!) := fun wr hb' => by
          obtain ⟨b', o', e, hA'⟩ := (HD.out.keep hb') (by omega)
          injection e with e
          injection e with e1 e2
          subst e1; subst e2
          exact hA' j hlt
        have t2 := (hA j hlt).c2
        have t4 := (hA j hlt).c4
        have hs := HSM.out j hlt
        have hi0 := (HD.out (by omega))
        have HI : Hid (Inp w0 L[j]!.v.1 L[j]!.v.2.1 L[j]!.v.2.2 L[j]!.x) := by
          obtain ⟨_, _, _, hA0⟩ := hi0
          exact (hA0 j hlt).i
        obtain ⟨e, he⟩ : ∃ e, L[j]! = e := ⟨_, rfl⟩
        rw [he] at t2 t4 hs HA HI
        obtain ⟨ed, en, ea, eb, ⟨va, vn, vc⟩, ex⟩ := e
        dsimp only at t2 t4 hs HI
        clear hA he hi0
        have HMORE : Hid (∀ w', Below wr.heap.size wr w' → LiW w0 (m + 1) m (j + 1) Ns Ys u6 u7 s w') := fun w' b9 => (⟨HW.out.h, HW.out.n, HW.out.dy, HW.out.i, HW.out.d, HW.out.off, HW.out.bad, HW.out.most, by have := HW.out.us; omega, by have := HW.out.ln; omega⟩ : LiW w0 (m + 1) m (j + 1) Ns Ys u6 u7 s wr).keep b9
        by_cases q0 : ea.size = 0
        · have e0 : ea = ⟨#[]⟩ := ByteArray.ext (Array.eq_empty_of_size_eq_zero q0)
          subst e0
          clear hs q0
          go_wp2_with fail
          go_quiet (fail)
          go_wp2_with fail
          go_round
          case rel => exact ⟨j + 1, s, Ns, Ys, by omega, by go_num, HMORE.out _ (bdn' _ _)⟩
          case measure => simp [intOf]; omega
        have g0 : (ea.toList == []) = false := by
          have h9 : ea.toList.length = ea.size := by rw [ByteArray.toList_eq]; exact tx_length ea
          cases h : ea.toList with
          | nil => rw [h] at h9; simp at h9; omega
          | cons => rfl
        by_cases q1 : 600 < ea.size
        · have g1 : (600 : Int) < (ea.size : Int) := by omega
          clear hs
          go_wp2_with fail
          go_quiet (fail)
          go_wp2_with fail
          go_round
          case rel => exact ⟨j + 1, s, Ns, Ys, by omega, by go_num, HMORE.out _ (bdn' _ _)⟩
          case measure => simp [intOf]; omega
        have g2 : decide ((600 : Int) < (ea.size : Int)) = false := decide_eq_false (by omega)
        have hok' : okPath ea = true := okPath_iff.2 ⟨by omega, by omega⟩
        have bD : Below wr.heap.size wr wr.drew := (Below.refl _ _).drew
        have K : Hid (Calls Try.prog 12 #[.pointer (some ⟨m + 1, 0, none⟩), .string ea, .slice va vn vc] wr.drew fun e w' => e = .returned (.int .i64 0) ∧ (w'.cell? ⟨bb, oo + j * 5 + 2, none⟩ = some (.string ea) ∧ w'.cell? ⟨bb, oo + j * 5 + 4, none⟩ = some (.slice va vn vc)) ∧ ∃ s', Hid (LiP w0 (m + 1) m j ea ⟨(va, vn, vc), ex⟩ Ns Ys u6 u7 s' w')) := by
          refine (li_put (HW.out.keep bD) hok' (by omega) HI.out hs.2.2).mono ?_
          rintro e w' ⟨rfl, s', h9⟩
          have := HA.out w' h9.out.h.b
          exact ⟨rfl, ⟨this.c2, this.c4⟩, s', h9⟩
        have d2 := (HA.out _ (HW.out.keep bD).h.b).c2
        have d4 := (HA.out _ (HW.out.keep bD).h.b).c4
        dsimp only at d2 d4
        clear hs hok' bD t2 t4
        go_wp2_with fail
        go_region_held3 (fun Y => Y.cell? ⟨bb, oo + j * 5 + 2, none⟩ = some (.string ea) ∧ Y.cell? ⟨bb, oo + j * 5 + 4, none⟩ = some (.slice va vn vc))
          (first | with_reducible exact ⟨d2, d4⟩ | with_reducible exact p1)
          (first | (go_at_call 12; with_reducible refine K.out.mono ?_; rintro e w5 ⟨rfl, p1, s', HP⟩))
        clear K d2 d4 p1
        obtain ⟨an, cn, rfl, hsn, _, hcn, _⟩ := HP.out.n.row
        clear hsn hcn
        have hln : Ns.length ≤ 40 := by have := HP.out.ln; omega
        go_wp2_with fail
        go_loopw [9, 10] (fun ta k w6 => ∃ (kk : Nat) (t : Int), kk ≤ Ns.length ∧ k = .int .i64 kk ∧ ta = .int .i64 t ∧ ((t = -1 ∧ ∀ i, i < kk → Ns[i]!.s ≠ ea) ∨ (∃ i : Nat, t = (i : Int) ∧ i < Ns.length ∧ Ns[i]!.s = ea)) ∧ LiP w0 (m + 1) m j ea ⟨(va, vn, vc), ex⟩ Ns Ys (.slice an Ns.length cn) u7 s' w6) (fun _ k _ => Ns.length - (intOf k).toNat)
        case atStart => exact ⟨0, -1, Nat.zero_le _, rfl, rfl, .inl ⟨rfl, fun i hi => absurd hi (Nat.not_lt_zero _)⟩, HP.out⟩
        case round =>
          obtain ⟨kk, t, hkk, rfl, rfl, ht, hP⟩ := hrel
          have HP6 : Hid (LiP w0 (m + 1) m j ea ⟨(va, vn, vc), ex⟩ Ns Ys (.slice an Ns.length cn) u7 s' wr) := hP
          have HT : Hid ((t = -1 ∧ ∀ i, i < kk → Ns[i]!.s ≠ ea) ∨ (∃ i : Nat, t = (i : Int) ∧ i < Ns.length ∧ Ns[i]!.s = ea)) := ht
          have d2 := (HA.out _ hP.h.b).c2
          dsimp only at d2
          obtain ⟨an', cn', e9, hsn, _, hcn, _⟩ := hP.n.row
          injection e9 with e9 _ e8
          subst e9; subst e8
          clear hP ht
          by_cases hk : kk < Ns.length
          · have ik : (kk : Int) < (Ns.length : Int) := by omega
            obtain ⟨b1, o1, rfl, hA1⟩ := hsn (by omega)
            have t1 := (hA1 kk hk).c0
            rw [Nat.mul_one] at t1
            clear hA1 hsn hcn
            by_cases q : Ns[kk]!.s = ea
            · rw [q] at t1
              have HQ : Hid (Ns[kk]!.s = ea) := q
              clear q
              go_wp2_with fail
              go_quiet (fail)
              go_wp2
              go_round
              case rel => exact ⟨kk + 1, (kk : Int), by omega, by go_num, rfl, .inr ⟨kk, rfl, hk, HQ.out⟩, HP6.out.keep (bdn' _ _)⟩
              case measure => simp [intOf]; omega
            · obtain ⟨q1, q2⟩ := toList_ne q
              have HQ : Hid (Ns[kk]!.s ≠ ea) := q
              obtain ⟨x9, hx9⟩ : ∃ x9, Ns[kk]!.s = x9 := ⟨_, rfl⟩
              rw [hx9] at t1 q1 q2
              clear q hx9
              go_wp2_with fail
              go_quiet (fail)
              go_wp2
              go_round
              case rel => exact ⟨kk + 1, t, by omega, by go_num, rfl, by
                rcases HT.out with ⟨h1, h2⟩ | h1
                · exact .inl ⟨h1, fun i hi => by
                    by_cases e : i < kk
                    · exact h2 i e
                    · have : i = kk := by omega
                      subst this
                      exact HQ.out⟩
                · exact .inr h1, HP6.out.keep (bdn' _ _)⟩
              case measure => simp [intOf]; omega
          · have hkn : kk = Ns.length := by omega
            subst hkn
            have ik : decide ((Ns.length : Int) < (Ns.length : Int)) = false := by simp
            clear hk hsn hcn
            rcases HT.out with ⟨rfl, hno⟩ | ⟨ti, rfl, hti, hts⟩
            · obtain ⟨vN', W1, vY', W3, r1, r3, bW1, HS⟩ := HP6.out.push (by have := HP6.out.ln; omega) hno
              obtain ⟨an2, cn2, rfl, _, _, _, _⟩ := HS.out.n.row
              obtain ⟨g, cy, cur, rfl, hg, hh, hcy⟩ := HS.out.dy.block (by have := HS.out.tl; omega)
              have d4 := (HA.out _ HS.out.h.b).c4
              have d2 := (HA.out _ (HP6.out.h.keep (bal wr (.cells #[.string ea] 9))).b).c2
              dsimp only at d4 d2
              have st := HS.out.cell
              have fg : ∀ i, W3.frozen? ⟨g, i, none⟩ = false := fun i => frozen_of_row W3 g i _ _ hh
              have itl := HS.out.tl
              have hdn := HS.out.done
              obtain ⟨nn, hnn⟩ : ∃ nn : Sv, (⟨ea⟩ : Sv) = nn := ⟨_, rfl⟩
              rw [hnn] at r1 hdn
              obtain ⟨N1, hN1⟩ : ∃ N1, (Ns ++ [nn]).length = N1 := ⟨_, rfl⟩
              have hN1' : N1 = Ns.length + 1 := by rw [← hN1, List.length_append]; rfl
              rw [hN1] at r1 hdn
              have HLN : Hid ((Ns ++ [nn]).length = N1) := hN1
              clear hN1
              obtain ⟨N2, hN2⟩ : ∃ N2, (Ys ++ [nilY]).length = N2 := ⟨_, rfl⟩
              rw [hN2] at r3 hdn itl
              clear hN2
              have ws : IntKind.i64.wrap ((N1 : Int) - 1) = (Ns.length : Int) := by rw [IntKind.wrap_i64]; omega
              have i2 : (Ns.length : Int) < (N2 : Int) := by omega
              have HDN : Hid (LiW w0 (m + 1) m (j + 1) (Ns ++ [nn]) ((Ys ++ [nilY]).set Ns.length ⟨(va, vn, vc), ex⟩) (.slice an2 N1 cn2) (.slice (some ⟨g, 0, none⟩) N2 cy) s' (W3.setCell ⟨g, Ns.length, none⟩ (.slice va vn vc))) := hdn
              have HR1 : Hid (Sem.run Try.prog (Builtin.append_ #[36, 36] 36 #[.slice an Ns.length cn, .slice (some ⟨wr.heap.size, 0, none⟩) 1 1]) (wr.alloc (.cells #[.string ea] 9)) = .ok (.slice an2 N1 cn2) W1) := r1
              have HR3 : Hid (Sem.run Try.prog (Builtin.append_ #[65, 65] 65 #[u7, .slice (some ⟨W1.heap.size, 0, none⟩) 1 1]) (W1.alloc (.cells #[.slice none 0 0] 29)) = .ok (.slice (some ⟨g, 0, none⟩) N2 cy) W3) := r3
              clear hno r1 r3 bW1 hdn HS hN1'
              go_wp2_with (at_builtin; first | refine wpList_append_ran (by rfl) _ _ 36 (by rfl) _ _ _ _ (by rfl) (by rfl) HR1.out ?_ | refine wpList_append_ran (by rfl) _ _ 65 (by rfl) _ _ _ _ (by rfl) (by rfl) HR3.out ?_)
              go_round
              case rel => exact ⟨j + 1, s', _, _, by omega, by go_num, HDN.out⟩
              case measure => simp [intOf]; omega
            · have it : decide ((ti : Int) < 0) = false := decide_eq_false (by omega)
              have HS : Hid (LiS w0 (m + 1) m j ti ⟨(va, vn, vc), ex⟩ Ns Ys (.slice an Ns.length cn) u7 s' wr) := HP6.out.store hti hts
              obtain ⟨g, cy, cur, rfl, hg, hh, hcy⟩ := HS.out.dy.block (by have := HS.out.tl; omega)
              have d4 := (HA.out _ HS.out.h.b).c4
              dsimp only at d4
              have st := HS.out.cell
              have fg : ∀ i, wr.frozen? ⟨g, i, none⟩ = false := fun i => frozen_of_row wr g i _ _ hh
              have itl := HS.out.tl
              have i1 : (ti : Int) < (Ys.length : Int) := by omega
              have HDN : Hid (LiW w0 (m + 1) m (j + 1) Ns (Ys.set ti ⟨(va, vn, vc), ex⟩) (.slice an Ns.length cn) (.slice (some ⟨g, 0, none⟩) Ys.length cy) s' (wr.setCell ⟨g, ti, none⟩ (.slice va vn vc))) := HS.out.done
              clear hts hti HS hh
              go_wp2_with fail
              go_round
              case rel => exact ⟨j + 1, s', _, _, by omega, by go_num, HDN.out⟩
              case measure => simp [intOf]; omega
      · have hjn : j = L.length := by omega
        subst hjn
        have ij : decide ((L.length : Int) < (L.length : Int)) = false := by simp
        have c1 := li_list HW.out (x := ⟨#[]⟩) (by decide)
        clear hlt hb
        go_wp2_with fail
        go_at_call 20
        refine c1.mono ?_
        rintro e y1 ⟨v1, M1, rfl, H1⟩
        have c2 := li_list H1.out.2.2.1 hpr
        clear c1
        go_wp2_with fail
        go_at_call 20
        refine c2.mono ?_
        rintro e y2 ⟨v2, M2, rfl, H2⟩
        clear c2
        have HN1 : Hid (SOwn y2 w0.heap.size v1 M1) := sown_upd H1.out.1 H2.out.2.2.2 (fun g cur e => ms_not H1.out.2.2.1.h e (by decide))
        have HN2 : Hid (SOwn y2 w0.heap.size v2 M2) := H2.out.1
        have HW2 : Hid (LiW w0 (m + 1) m L.length Ns Ys u6 u7 s y2) := H2.out.2.2.1
        have HR : Hid (M1.length = Ns.length ∧ ∀ i, i + 1 < M1.length → ls (tx M1[i]!.s) (tx M1[i + 1]!.s) = true) := li_rise HW2.out H1.out.2.1
        have HF : Hid ((M2.map fun y => y.s) = (M1.map fun y => y.s).filter (pf pr)) := by
          have h8 := H2.out.2.1
          rw [lst_filter, ← lst_all, ← H1.out.2.1] at h8
          exact h8
        clear H1 H2 HW
        obtain ⟨an, cn, rfl, _, _, _, _⟩ := HW2.out.n.row
        obtain ⟨ay, cy, rfl, _, _, _, _⟩ := HW2.out.dy.row
        obtain ⟨a1, k1, rfl, _, _, _, _⟩ := HN1.out.row
        obtain ⟨a2, k2, rfl, _, _, _, _⟩ := HN2.out.row
        obtain ⟨n1, hn1⟩ : ∃ n1, Ns.length = n1 := ⟨_, rfl⟩
        have HE1 : Hid (Ns.length = n1 ∧ M1.length = n1 ∧ Ys.length = n1) := ⟨hn1, HR.out.1.trans hn1, HW2.out.d.len.trans hn1⟩
        have hn40 : n1 ≤ 40 := by have := HW2.out.ln; omega
        rw [hn1, HE1.out.2.2] at HW2
        rw [HE1.out.2.1] at HN1
        rw [hn1, HE1.out.2.2, HE1.out.2.1]
        clear hn1
        go_wp2_with fail
        go_loopw [15] (fun i wr => ∃ j : Nat, j ≤ n1 ∧ i = .int .i64 j ∧ SOwn wr w0.heap.size (.slice a1 n1 k1) M1 ∧ SOwn wr w0.heap.size (.slice a2 M2.length k2) M2 ∧ LiW w0 (m + 1) m L.length Ns Ys (.slice an n1 cn) (.slice ay n1 cy) s wr) (fun i _ => n1 - (intOf i).toNat)
        case atStart => exact ⟨0, Nat.zero_le _, rfl, HN1.out, HN2.out, HW2.out⟩
        case round =>
          obtain ⟨j, hj, rfl, h1, h2, h3⟩ := hrel
          have G1 : Hid (SOwn wr w0.heap.size (.slice a1 n1 k1) M1) := h1
          have G2 : Hid (SOwn wr w0.heap.size (.slice a2 M2.length k2) M2) := h2
          have G3 : Hid (LiW w0 (m + 1) m L.length Ns Ys (.slice an n1 cn) (.slice ay n1 cy) s wr) := h3
          clear h1 h2 h3
          by_cases hlt : j < n1
          · have ij : (j : Int) < (n1 : Int) := by omega
            have cR := li_read G3.out (i := j) (by rw [HE1.out.1]; exact hlt)
            obtain ⟨an', cn', e9, hsn, _, hcn, _⟩ := G3.out.n.row
            injection e9 with e9 e7 e8
            rw [← e9] at hsn
            clear e9 e7 e8
            obtain ⟨b1, o1, rfl, hA1⟩ := hsn (by rw [HE1.out.1]; omega)
            have t1 := (hA1 j (by rw [HE1.out.1]; exact hlt)).c0
            rw [Nat.mul_one] at t1
            obtain ⟨x9, hx9⟩ : ∃ x9, Ns[j]!.s = x9 := ⟨_, rfl⟩
            rw [hx9] at t1 cR
            clear hA1 hsn hcn hx9
            go_wp2_with fail
            go_at_call 15
            refine cR.mono ?_
            rintro e w5 ⟨ra, rn, rc, rfl, H5⟩
            clear cR t1
            have q1 := fun n => (H5.out.1.keep (bdn' w5 n)).conv
            have G3' : Hid (LiW w0 (m + 1) m L.length Ns Ys (.slice (some ⟨b1, o1, none⟩) n1 cn) (.slice ay n1 cy) s w5) := H5.out.2.1
            have G1' : Hid (SOwn w5 w0.heap.size (.slice a1 n1 k1) M1) := sown_upd G1.out H5.out.2.2 (fun g cur e => ms_not G3.out.h e (by decide))
            have G2' : Hid (SOwn w5 w0.heap.size (.slice a2 M2.length k2) M2) := sown_upd G2.out H5.out.2.2 (fun g cur e => ms_not G3.out.h e (by decide))
            obtain ⟨ay', cy', e9, hsy, _, _, _⟩ := G3'.out.dy.row
            injection e9 with e9 e7 e8
            rw [← e9] at hsy
            clear e9 e7 e8
            obtain ⟨b2, o2, rfl, hA2⟩ := hsy (by rw [HE1.out.2.2]; omega)
            have t2 := (hA2 j (by rw [HE1.out.2.2]; exact hlt)).c0
            rw [Nat.mul_one] at t2
            have q2 := fun n => (((G3'.out.i Ys[j]! (by rw [getElem!_pos Ys j (by rw [HE1.out.2.2]; exact hlt)]; exact List.getElem_mem _)).keep G3'.out.h.b).keep (bdn' w5 n)).conv
            obtain ⟨y0, hy0⟩ : ∃ y0, Ys[j]! = y0 := ⟨_, rfl⟩
            rw [hy0] at t2 q1 q2
            clear hy0
            obtain ⟨⟨yv, yn, yc⟩, yb⟩ := y0
            dsimp only at t2 q1 q2
            clear hA2 hsy H5
            go_wp2_with fail
            go_quiet (fail)
            go_wp2
            go_round
            case rel => exact ⟨j + 1, by omega, by go_num, G1'.out.keep (bdn' _ _), G2'.out.keep (bdn' _ _), G3'.out.keep (bdn' _ _)⟩
            case measure => simp [intOf]; omega
          · have hjn : j = n1 := by omega
            subst hjn
            have ij : decide ((j : Int) < (j : Int)) = false := by simp
            clear hlt
            have HJ1 : Hid (M1.length = j) := HE1.out.2.1
            rename World => wq
            go_wp2_with fail
            go_loopw [18, 19] (fun k i w6 => ∃ i0 : Nat, i0 ≤ j ∧ i = .int .i64 i0 ∧ k = .int .i64 ((((M1.map fun y => y.s).take i0).filter (pf pr)).length : Nat) ∧ ∃ nd, w6 = wq.drewN nd) (fun _ i _ => j - (intOf i).toNat)
            case atStart => exact ⟨0, Nat.zero_le _, rfl, by simp, 0, rfl⟩
            case round =>
              obtain ⟨i0, hi0, rfl, rfl, nd, hwr⟩ := hrel
              have HWR : Hid (wr = wq.drewN nd) := hwr
              have G1' : Hid (SOwn wr w0.heap.size (.slice a1 j k1) M1) := by unfold Hid; rw [hwr]; exact G1.out.keep (bdn' _ _)
              have G2' : Hid (SOwn wr w0.heap.size (.slice a2 M2.length k2) M2) := by unfold Hid; rw [hwr]; exact G2.out.keep (bdn' _ _)
              obtain ⟨T, hT⟩ : ∃ T, (M1.map fun y => y.s) = T := ⟨_, rfl⟩
              have HF' : Hid ((M2.map fun y => y.s) = T.filter (pf pr)) := by rw [← hT]; exact HF.out
              have HTL : Hid (T.length = j ∧ ∀ i, i < j → M1[i]!.s = T[i]!) := ⟨by rw [← hT, List.length_map]; exact HJ1.out, fun i hi => by
                have h9 := HJ1.out
                subst hT
                rw [getElem!_pos M1 i (by omega), getElem!_pos _ i (by rw [List.length_map]; omega), List.getElem_map]⟩
              rw [hT]
              obtain ⟨k, hk⟩ : ∃ k, ((T.take i0).filter (pf pr)).length = k := ⟨_, rfl⟩
              rw [hk]
              have HK : Hid (((T.take i0).filter (pf pr)).length = k) := hk
              clear hwr hT hk
              by_cases hlt : i0 < j
              · have ij : (i0 : Int) < (j : Int) := by omega
                obtain ⟨a1', k1', e9, hs1, _, _, _⟩ := G1'.out.row
                injection e9 with e9 e7 e8
                rw [← e9] at hs1
                obtain ⟨b1, o1, rfl, hA1⟩ := hs1 (by have := HJ1.out; omega)
                have t1 := (hA1 i0 (by have := HJ1.out; omega)).c0
                rw [Nat.mul_one, HTL.out.2 i0 hlt] at t1
                clear e9 e7 e8
                have x1 := T[i0]!
                obtain ⟨x, hx⟩ : ∃ x, T[i0]! = x := ⟨_, rfl⟩
                have HX : Hid (T[i0]! = x) := hx
                rw [hx] at t1
                clear hx x1
                have HSP : Hid (∀ b : Bool, pf pr x = b → ((T.take (i0 + 1)).filter (pf pr)).length = k + (if b then 1 else 0)) := fun b hb => by
                  have hi9 : i0 < T.length := by have := HTL.out.1; omega
                  have h9 := HX.out
                  rw [getElem!_pos T i0 hi9] at h9
                  rw [filter_take hi9, List.length_append, HK.out, h9, hb]
                  cases b <;> rfl
                have hk40 : k ≤ 40 := by
                  have h9 := List.length_filter_le (pf pr) (T.take i0)
                  rw [HK.out, List.length_take] at h9
                  omega
                by_cases hp0 : i0 = 0
                · have i00 : decide ((0 : Int) < (i0 : Int)) = false := decide_eq_false (by omega)
                  have n00 : decide (0 < i0) = false := decide_eq_false (by omega)
                  clear hp0
                  go_wp2_with fail
                  go_quiet (fail)
                  revert nq; intro nq0
                  by_cases hA : x.size < pr.size
                  · have gA : decide ((pr.size : Int) ≤ (x.size : Int)) = false := decide_eq_false (by omega)
                    have nA : decide (pr.size ≤ x.size) = false := decide_eq_false (by omega)
                    have HL : Hid (((T.take (i0 + 1)).filter (pf pr)).length = k) := HSP.out false (by
                      unfold pf
                      rw [pre_take, tx_length, tx_length]
                      exact decide_eq_false (by omega))
                    clear hA
                    go_wp2_with fail
                    go_wp2
                    go_round
                    case rel => exact ⟨i0 + 1, by omega, by go_num, by rw [HL.out], _, by rw [HWR.out]; simp; rfl⟩
                    case measure => simp [intOf]; omega
                  have iA : (pr.size : Int) ≤ (x.size : Int) := by omega
                  have nA : decide (pr.size ≤ x.size) = true := decide_eq_true (by omega)
                  have nA' : pr.size ≤ x.size := by omega
                  have hpx : pf pr x = decide (tx (x.extract 0 pr.size) = tx pr) := by
                    unfold pf
                    rw [pre_take, tx_length, tx_length, tx_extract _ _ (by omega)]
                    exact decide_eq_decide.2 ⟨fun q => q.2, fun q => ⟨by omega, q⟩⟩
                  clear hA
                  by_cases hB : tx (x.extract 0 pr.size) = tx pr
                  · have gB : ((x.extract 0 pr.size).toList == pr.toList) = true := by rw [tx_beq]; exact decide_eq_true hB
                    have hpt : pf pr x = true := by rw [hpx]; exact decide_eq_true hB
                    have HL : Hid (((T.take (i0 + 1)).filter (pf pr)).length = k + 1) := HSP.out true hpt
                    have hat : (T.filter (pf pr))[k]? = some x := by
                      have hi9 : i0 < T.length := by have := HTL.out.1; omega
                      have h9 := HX.out
                      rw [getElem!_pos T i0 hi9] at h9
                      have h8 := filter_at hi9 (by rw [h9]; exact hpt)
                      rw [HK.out, h9] at h8
                      exact h8
                    rw [← HF'.out, List.getElem?_map] at hat
                    have hkm : k < M2.length := by
                      by_cases q : k < M2.length
                      · exact q
                      · rw [List.getElem?_eq_none (by omega)] at hat; cases hat
                    rw [List.getElem?_eq_getElem hkm] at hat
                    simp only [Option.map_some, Option.some.injEq] at hat
                    obtain ⟨a2', k2', e9, hs2, _, _, _⟩ := G2'.out.row
                    injection e9 with e9 e7 e8
                    rw [← e9] at hs2
                    clear e9 e7 e8
                    obtain ⟨b2, o2, rfl, hA2⟩ := hs2 (by omega)
                    have t2 := (hA2 k hkm).c0
                    rw [Nat.mul_one, getElem!_pos M2 k hkm, hat] at t2
                    have i2 : (k : Int) < (M2.length : Int) := by omega
                    have i3 : decide ((M2.length : Int) ≤ (k : Int)) = false := decide_eq_false (by omega)
                    have i4 : decide (M2.length ≤ k) = false := decide_eq_false (by omega)
                    clear hB hpt hpx hA2 hat
                    go_wp2_with fail
                    go_quiet (fail)
                    go_wp2
                    go_round
                    case rel => exact ⟨i0 + 1, by omega, by go_num, by rw [HL.out]; go_num, _, by rw [HWR.out]; simp; rfl⟩
                    case measure => simp [intOf]; omega
                  · have gB : ((x.extract 0 pr.size).toList == pr.toList) = false := by rw [tx_beq]; exact decide_eq_false hB
                    have HL : Hid (((T.take (i0 + 1)).filter (pf pr)).length = k) := HSP.out false (by rw [hpx]; exact decide_eq_false hB)
                    clear hB hpx
                    go_wp2_with fail
                    go_round
                    case rel => exact ⟨i0 + 1, by omega, by go_num, by rw [HL.out], _, by rw [HWR.out]; simp; rfl⟩
                    case measure => simp [intOf]; omega
                · have i00 : (0 : Int) < (i0 : Int) := by omega
                  have n00 : decide (0 < i0) = true := decide_eq_true (by omega)
                  have n01 : 0 < i0 := by omega
                  obtain ⟨d, hd⟩ : ∃ d, i0 = d + 1 := ⟨i0 - 1, by omega⟩
                  have ws : IntKind.i64.wrap ((i0 : Int) - 1) = (d : Int) := by rw [IntKind.wrap_i64]; omega
                  have id1 : (d : Int) < (j : Int) := by omega
                  have t0 := (hA1 d (by have := HJ1.out; omega)).c0
                  rw [Nat.mul_one] at t0
                  have hls := HR.out.2 d (by have := HJ1.out; omega)
                  rw [← hd, HTL.out.2 i0 hlt, HX.out] at hls
                  obtain ⟨pv, hpv⟩ : ∃ pv, M1[d]!.s = pv := ⟨_, rfl⟩
                  rw [hpv] at hls t0
                  have l1 : Op.bytesLess pv.toList x.toList = true := by rw [less_tx]; exact hls
                  have l2 : Op.bytesLess x.toList pv.toList = false := by rw [less_tx]; exact ls_both _ _ hls
                  clear hpv hls hd hp0
                  go_wp2_with fail
                  go_quiet (fail)
                  revert nq; intro nq0
                  clear t0 l1 l2 ws id1
                  by_cases hA : x.size < pr.size
                  · have gA : decide ((pr.size : Int) ≤ (x.size : Int)) = false := decide_eq_false (by omega)
                    have nA : decide (pr.size ≤ x.size) = false := decide_eq_false (by omega)
                    have HL : Hid (((T.take (i0 + 1)).filter (pf pr)).length = k) := HSP.out false (by
                      unfold pf
                      rw [pre_take, tx_length, tx_length]
                      exact decide_eq_false (by omega))
                    clear hA
                    go_wp2_with fail
                    go_wp2
                    go_round
                    case rel => exact ⟨i0 + 1, by omega, by go_num, by rw [HL.out], _, by rw [HWR.out]; simp; rfl⟩
                    case measure => simp [intOf]; omega
                  have iA : (pr.size : Int) ≤ (x.size : Int) := by omega
                  have nA : decide (pr.size ≤ x.size) = true := decide_eq_true (by omega)
                  have nA' : pr.size ≤ x.size := by omega
                  have hpx : pf pr x = decide (tx (x.extract 0 pr.size) = tx pr) := by
                    unfold pf
                    rw [pre_take, tx_length, tx_length, tx_extract _ _ (by omega)]
                    exact decide_eq_decide.2 ⟨fun q => q.2, fun q => ⟨by omega, q⟩⟩
                  clear hA
                  by_cases hB : tx (x.extract 0 pr.size) = tx pr
                  · have gB : ((x.extract 0 pr.size).toList == pr.toList) = true := by rw [tx_beq]; exact decide_eq_true hB
                    have hpt : pf pr x = true := by rw [hpx]; exact decide_eq_true hB
                    have HL : Hid (((T.take (i0 + 1)).filter (pf pr)).length = k + 1) := HSP.out true hpt
                    have hat : (T.filter (pf pr))[k]? = some x := by
                      have hi9 : i0 < T.length := by have := HTL.out.1; omega
                      have h9 := HX.out
                      rw [getElem!_pos T i0 hi9] at h9
                      have h8 := filter_at hi9 (by rw [h9]; exact hpt)
                      rw [HK.out, h9] at h8
                      exact h8
                    rw [← HF'.out, List.getElem?_map] at hat
                    have hkm : k < M2.length := by
                      by_cases q : k < M2.length
                      · exact q
                      · rw [List.getElem?_eq_none (by omega)] at hat; cases hat
                    rw [List.getElem?_eq_getElem hkm] at hat
                    simp only [Option.map_some, Option.some.injEq] at hat
                    obtain ⟨a2', k2', e9, hs2, _, _, _⟩ := G2'.out.row
                    injection e9 with e9 e7 e8
                    rw [← e9] at hs2
                    clear e9 e7 e8
                    obtain ⟨b2, o2, rfl, hA2⟩ := hs2 (by omega)
                    have t2 := (hA2 k hkm).c0
                    rw [Nat.mul_one, getElem!_pos M2 k hkm, hat] at t2
                    have i2 : (k : Int) < (M2.length : Int) := by omega
                    have i3 : decide ((M2.length : Int) ≤ (k : Int)) = false := decide_eq_false (by omega)
                    have i4 : decide (M2.length ≤ k) = false := decide_eq_false (by omega)
                    clear hB hpt hpx hA2 hat
                    go_wp2_with fail
                    go_quiet (fail)
                    go_wp2
                    go_round
                    case rel => exact ⟨i0 + 1, by omega, by go_num, by rw [HL.out]; go_num, _, by rw [HWR.out]; simp; rfl⟩
                    case measure => simp [intOf]; omega
                  · have gB : ((x.extract 0 pr.size).toList == pr.toList) = false := by rw [tx_beq]; exact decide_eq_false hB
                    have HL : Hid (((T.take (i0 + 1)).filter (pf pr)).length = k) := HSP.out false (by rw [hpx]; exact decide_eq_false hB)
                    clear hB hpx
                    go_wp2_with fail
                    go_round
                    case rel => exact ⟨i0 + 1, by omega, by go_num, by rw [HL.out], _, by rw [HWR.out]; simp; rfl⟩
                    case measure => simp [intOf]; omega
              · have hjn : i0 = j := by omega
                subst hjn
                have ij : decide ((i0 : Int) < (i0 : Int)) = false := by simp
                have hkl : k = M2.length := by
                  have h9 := congrArg List.length HF'.out
                  rw [List.length_map] at h9
                  rw [h9, ← HK.out, ← HTL.out.1, List.take_length]
                subst hkl
                have HB : Hid (Below w0.heap.size w0 wr) := by unfold Hid; rw [HWR.out]; exact G3.out.h.b.trans ((bdn' _ _).mono G3.out.h.b.size)
                clear hlt
                go_wp2
                go_ret
                exact ⟨rfl, HB.out⟩


set_option maxRecDepth 100000 in
theorem lifted (os : Os) (started : os.Started) (H : Type) (enc : TypeId × Value → H) :
    ReturnsInHanded {} Try.checked os 8 .any (Rows.diskListsSpec.pre6 enc Try.prog Try.f8 Rows.diskListsRow.domain false) (Rows.diskListsSpec.post enc Try.prog Try.f8 false true false false) := by
  refine returnsInHanded_of_change_sized (C := Try.checked) own started (by kernel_rfl) Try.func8
    (ChangeSpec.witness6 (enc := enc) (C := Try.checked) false ⟨#[], #[.slice none 0 0, .string ⟨#[]⟩], []⟩ 8 (by kernel_rfl) (by kernel_rfl) (by kernel_rfl) (by kernel_rfl)) ?_
  intro W base args ds gs before hval0 hW hcnd hsz0 _
  have hval : ∀ (j : Nat) t v, Try.f8.params[j]? = some t → args[j]? = some v → Value.okWide Try.prog W .any base t v := hval0
  have hsz : (DataW.weightsEach Try.prog (Try.f8.params.toList ++ Rows.diskListsSpec.plain.varTypes Try.prog) (ds ++ gs)).all (· ≤ reachBytes) = true := hsz0
  have hW' := hW
  obtain ⟨p, q, hA0, hV, rfl, hfz, hnd⟩ := hW
  have hA : DataW.TrodAll enc Try.prog W 0 (fun _ => true) true Try.f8.params.toList args.toList ds p := hA0
  rw [Try.params8] at hA hval hsz
  obtain ⟨v0, vs0, d0, ds0, p0, q0, hargs, rfl, rfl, h0, r0⟩ := trodAll_cons hA
  obtain ⟨v1, vs1, d1, ds1, p1, q1, rfl, rfl, rfl, h1, r1⟩ := trodAll_cons r0
  obtain ⟨rfl, rfl, rfl⟩ := trodAll_nil r1
  obtain rfl : args = #[v0, v1] := by cases args; simp_all
  obtain ⟨rfl, rfl⟩ := trodVars_none hV
  have k0 := h0
  have lt0 : ∀ x ∈ p0, x.block < W.heap.size := by obtain ⟨m, hm⟩ := k0; exact DataW.trod_lt m _ _ _ hm
  obtain ⟨a0, c0, L0, rfl, m0, z0, e0, g0⟩ := open_deeds (hval 0 45 v0 rfl rfl) h0
  have k1 := h1
  have lt1 : ∀ x ∈ p1, x.block < W.heap.size := by obtain ⟨m, hm⟩ := k1; exact DataW.trod_lt m _ _ _ hm
  obtain ⟨x1, e1, rfl⟩ := open_str (hval 1 9 v1 rfl rfl) h1
  clear hA0 hval0 hsz0
  refine (core a0 c0 L0 x1 W m0 z0 e0 g0 e1).mono fun e W' ⟨he, bel⟩ => ?_
  subst he
  exact ⟨_, rfl, _, _, _, [], _, [], hW', trodAll_mk1 (shut_bool Try.underlying4 _), (trodAll_cons_mk (Below.trod laidOut (by kernel_rfl) (of_decide_eq_true (by kernel_rfl)) k0 bel lt0) (trodAll_cons_mk (Below.trod laidOut (by kernel_rfl) (of_decide_eq_true (by kernel_rfl)) k1 bel lt1) trodAll_mk0)), rfl, bel.frame _, fun h => by cases h⟩

theorem over : Rows.diskListsRow.holds Try.pinned (OpenSpec.ofChange Rows.diskListsSpec) :=
  OpenClaim.holds_of_wide 8 Try.f8 rfl rfl rfl rfl rfl rfl rfl ⟨rfl, rfl, rfl, rfl, rfl⟩ rfl rfl rfl rfl rfl (by kernel_rfl) Try.func8 (by kernel_rfl)
    (of_decide_eq_true (by kernel_rfl)) (by unfold Func.isWrapper; first | (rw [if_pos (by decide +kernel)]; kernel_rfl) | (rw [if_neg (by decide +kernel)]; exact ⟨rfl, rfl⟩))
    (fun os started H enc _ => lifted os started H enc)

end diskLists

/-- The statement. -/
theorem diskLists_holds : Rows.DiskListsSaid := diskLists.over
#print axioms diskLists_holds
end Go.Proofs.Ythkhkijdehbbmaa
