/-
  Many disks of the program, each beside one of the document; blocks of other kinds that stay.
-/
import Derived.Test.YtebngmgdciahiaaGreatDoorG9
import Derived.Test.YtebngmgdciahiaaGreatDoorG8
set_option maxRecDepth 100000
namespace Go.Proofs.YtebngmgdciahiaaGreatDoor
open Go.RowKit
open _root_.Go.Proofs.YtebngmgdciahiaaGreatDoor.Nm _root_.Go.Proofs.YtebngmgdciahiaaGreatDoor.Dk
attribute [local go_sem ↓] Go.wp_at_zero Go.wp_at_succ
set_option linter.unusedVariables false

/-- Where a disk, its map and the document's disk lie. -/
structure Pc where
  p : Nat
  m : Nat
  d : Nat
/-- What lies behind them. -/
structure Lay where
  V : List Fv
  F : Int
  a : Option Addr
  c : Nat
  L : List Fv
/-- How many, where, and what stays besides. -/
structure Rg where
  n : Nat
  P : Nat → Pc
  K : Nat → Option Obj
def up {α : Type} (f : Nat → α) (i : Nat) (v : α) : Nat → α := fun j => if j = i then v else f j
theorem up_at {α : Type} (f : Nat → α) (i : Nat) (v : α) : up f i v i = v := if_pos rfl
theorem up_of {α : Type} (f : Nat → α) {i j : Nat} (v : α) (h : j ≠ i) : up f i v j = f j := if_neg h
theorem up_up {α : Type} (f : Nat → α) (i : Nat) (u v : α) : up (up f i u) i v = up f i v := by
  funext j
  by_cases h : j = i
  · subst h; rw [up_at, up_at]
  · rw [up_of _ _ h, up_of _ _ h, up_of _ _ h]
theorem up_self {α : Type} (f : Nat → α) (i : Nat) : up f i (f i) = f := by
  funext j
  by_cases h : j = i
  · subst h; rw [up_at]
  · rw [up_of _ _ h]
/-- One disk and its twin. -/
structure Al (w0 w : World) (P : Pc) (q g : Option Nat) (s s2 : St) (y : Lay) : Prop where
  px : PX w P.p P.m y.V q s y.F
  dx : DX w P.d y.a y.c y.L g s2
  p0 : w0.heap.size ≤ P.p
  m0 : w0.heap.size ≤ P.m
  d0 : w0.heap.size ≤ P.d
  a0 : ∀ x : Addr, y.a = some x → w0.heap.size ≤ x.block
  b0 : ∀ k, Bk y.V k → w0.heap.size ≤ k
/-- Two of them have nothing in common. -/
structure Sep (P P' : Pc) (y y' : Lay) : Prop where
  p : P.p ≠ P'.p
  m : P.m ≠ P'.m
  d : P.d ≠ P'.d
  a : ∀ x x' : Addr, y.a = some x → y'.a = some x' → x.block ≠ x'.block
  b : ∀ k, Bk y.V k → ¬ Bk y'.V k
/-- A block that no disk writes by its kind. -/
def kO (o : Obj) : Prop := ∃ cur T z, o = .cells cur T z ∧ T ≠ 109 ∧ T ≠ 102 ∧ T ≠ 115 ∧ T ≠ 67 ∧ T ≠ 130
theorem kO_no {cur : Array Value} {T : TypeId} (h : kO (.cells cur T (0, 0))) : T ≠ 109 ∧ T ≠ 102 ∧ T ≠ 115 ∧ T ≠ 67 ∧ T ≠ 130 := by
  obtain ⟨cur', T', z', e, h⟩ := h
  injection e with _ e _
  subst e
  exact h
/-- The parts of the relation that speak of the layout. -/
structure Lx (w0 w : World) (R : Rg) (q g : Option Nat) (S T : Nat → St) (y : Nat → Lay) : Prop where
  al : ∀ i, i < R.n → Al w0 w (R.P i) q g (S i) (T i) (y i)
  sp : ∀ i j, i < R.n → j < R.n → i ≠ j → Sep (R.P i) (R.P j) (y i) (y j)
  vl : ∀ i j, i < R.n → j < R.n → ∀ k, Bk (y i).V k → ¬ Bk (y j).L k
  vk : ∀ i, i < R.n → ∀ k o, R.K k = some o → ¬ Bk (y i).V k
/-- All disks, in the states S the program's, in T the document's, with the fuses z and z2. -/
structure Ar (w0 w : World) (R : Rg) (q g : Option Nat) (S T : Nat → St) (z z2 : Option Fz) : Prop where
  fz : FZ w q z
  zs : Zs w g z2
  b : Below w0.heap.size w0 w
  q0 : ∀ k, q = some k → w0.heap.size ≤ k
  g0 : ∀ k, g = some k → w0.heap.size ≤ k
  kp : ∀ k o, R.K k = some o → w.heap[k]? = some o ∧ kO o
  ex : ∃ y, Lx w0 w R q g S T y
/-- Blocks of other kinds stay. -/
def kT (T : TypeId) : Prop := T ≠ 109 ∧ T ≠ 102 ∧ T ≠ 115 ∧ T ≠ 67 ∧ T ≠ 130 ∧ T ≠ 5
def Kd (w w' : World) : Prop := w.heap.size ≤ w'.heap.size ∧ ∀ (k : Nat) (cur : Array Value) (T : TypeId), w.heap[k]? = some (.cells cur T (0, 0)) → kT T → w'.heap[k]? = w.heap[k]?
theorem Kd.refl (w : World) : Kd w w := ⟨Nat.le_refl _, fun _ _ _ _ _ => rfl⟩
theorem Kd.trans {a b c : World} (h : Kd a b) (k : Kd b c) : Kd a c := ⟨Nat.le_trans h.1 k.1, fun i cur T e t => (k.2 i cur T ((h.2 i cur T e t).trans e) t).trans (h.2 i cur T e t)⟩
theorem Kd.of {a b : World} (h : Below a.heap.size a b) : Kd a b := ⟨h.size, fun k cur T e _ => h.block k (Array.getElem?_eq_some_iff.1 e).1⟩
theorem DX.bk {w : World} {p : Nat} {a : Option Addr} {c : Nat} {L : List Fv} {q : Option Nat} {s : St} (h : DX w p a c L q s) {k : Nat} (hk : Bk L k) : ∃ cur, w.heap[k]? = some (.cells cur 5 (0, 0)) := by
  obtain ⟨y, hy, h0, o, e⟩ := hk
  obtain ⟨_, f, _, ho, _⟩ := h.b y hy
  rcases ho with ⟨_, ⟨e1, _⟩ | ⟨g', cap, cur, e1, _, hh, _⟩⟩
  · injection e1 with e1 _ _
    rw [e] at e1; cases e1
  · injection e1 with e1 _ _
    rw [e] at e1
    injection e1 with e1
    injection e1 with e1
    subst e1
    exact ⟨cur, hh⟩
/-- The block of a disk's files. -/
theorem DX.fb {w : World} {p : Nat} {a : Option Addr} {c : Nat} {L : List Fv} {q : Option Nat} {s : St} (h : DX w p a c L q s) {x : Addr} (e : a = some x) : ∃ cur, x = ⟨x.block, 0, none⟩ ∧ w.heap[x.block]? = some (.cells cur 130 (0, 0)) := by
  subst e
  rcases h.l with ⟨_, ⟨e, _⟩ | ⟨g', cap, cur, e, _, hh, _⟩⟩
  · cases e
  · injection e with e1 _ _
    injection e1 with e1
    subst e1
    exact ⟨cur, rfl, hh⟩
theorem Gw.bk {w : World} {V V' : List Fv} (h : Gw w V V') {k : Nat} (hk : Bk V' k) : w.heap.size ≤ k ∨ Bk V k := by
  obtain ⟨y, hy, h0, o, e⟩ := hk
  rcases h y hy h0 _ e with t | ⟨y0, h1, h2, h3⟩
  · exact .inl t
  · exact .inr ⟨y0, h1, h2, o, h3⟩
section
variable {w0 w w' : World} {p m d : Nat} {q g : Option Nat} {s s2 : St} {z z2 : Option Fz}
theorem ms_type (h1 : On w0 w p m q s z) {k : Nat} (e : Ms p m q k) {cur : Array Value} {T : TypeId} {zz : Nat × Nat} (t : w.heap[k]? = some (.cells cur T zz)) : T = 109 ∨ T = 102 := by
  obtain ⟨V, F, x⟩ := h1.px
  rcases e with e | e | e
  · subst e
    rw [x.o] at t
    injection t with t
    injection t with _ t _
    exact .inl t.symm
  · subst e
    obtain ⟨es, clock, hb, _⟩ := x.m
    rw [hb] at t
    injection t with t
    cases t
  · subst e
    obtain ⟨cs, hk⟩ := h1.fz.type
    rw [t] at hk
    injection hk with hk
    injection hk with _ hk _
    exact .inr hk
theorem dx_turn (h1 : On w0 w p m q s z) {a : Option Addr} {c : Nat} {L : List Fv} (k1 : DX w d a c L g s2) (u : Upd (Ms p m q) w w') : DX w' d a c L g s2 := by
  refine k1.turn u (fun k e cur T t => ?_) ?_ rfl k1.wf
  · rcases ms_type h1 e t with t | t <;> subst t <;> decide
  · rw [u.block d k1.lt (fun e => ?_)]
    · exact k1.o
    · rcases ms_type h1 e k1.o with t | t <;> exact absurd t (by decide)
theorem px_turn (u : DU w0 w w') {V : List Fv} {F : Int} (x : PX w p m V q s F) : PX w' p m V q s F := by
  obtain ⟨M, u, hm⟩ := u
  have hp : ¬ M p := fun k => by
    obtain ⟨_, cur, T, e, t⟩ := hm p k
    rw [x.o] at e
    injection e with e
    injection e with _ e _
    exact dT_sim t e.symm
  have hmm : ¬ M m := fun k => by
    obtain ⟨_, cur, T, e, t⟩ := hm m k
    obtain ⟨es, cl, hb, _⟩ := x.m
    rw [hb] at e
    injection e with e
    cases e
  refine x.turn u (fun k e cur T t => ?_) hmm ((u.block p x.lt hp).trans x.o) rfl x.wf x.F0 x.F1
  obtain ⟨_, cur', T', e', t'⟩ := hm k e
  rw [t] at e'
  injection e' with e'
  injection e' with _ e' _
  rw [e']; exact dT_u8 t'
/-- Another disk stays as one is worked on. -/
theorem px_beside (h1 : On w0 w p m q s z) {p' m' : Nat} {V : List Fv} {F : Int} {s' : St} (x : PX w p' m' V q s' F) (hp : p ≠ p') (hm : m ≠ m') (u : Upd (Ms p m q) w w') : PX w' p' m' V q s' F := by
  refine x.turn u (fun k e cur T t => ?_) (fun e => ?_) ?_ rfl x.wf x.F0 x.F1
  · rcases ms_type h1 e t with t | t <;> subst t <;> decide
  · obtain ⟨es, cl, hb, _⟩ := x.m
    rcases e with e | e | e
    · rw [e] at hb
      obtain ⟨_, _, y⟩ := h1.px
      rw [y.o] at hb
      injection hb with hb
      cases hb
    · exact hm e.symm
    · obtain ⟨cs, hk⟩ := (by have := h1.fz; rw [e] at this; exact this.type : _)
      rw [hb] at hk
      injection hk with hk
      cases hk
  · rw [u.block p' x.lt (fun e => ?_)]
    · exact x.o
    · have ho := x.o
      rcases e with e | e | e
      · exact hp e.symm
      · obtain ⟨_, _, y⟩ := h1.px
        obtain ⟨es, cl, hb, _⟩ := y.m
        rw [← e, ho] at hb
        injection hb with hb
        cases hb
      · obtain ⟨cs, hk⟩ := (by have := h1.fz; rw [e] at this; exact this.type : _)
        rw [ho] at hk
        injection hk with hk
        injection hk with _ hk _
        exact absurd hk (by decide)
/-- Another disk of the document stays as one is worked on. -/
theorem dx_beside {M : Nat → Prop} {a : Option Addr} {c : Nat} {L : List Fv} (k1 : DX w d a c L g s2) (u : Upd M w w') (ht : ∀ k, M k → ∃ cur T, w.heap[k]? = some (.cells cur T (0, 0)) ∧ dT T) (hd : ¬ M d) (ha : ∀ x : Addr, a = some x → ¬ M x.block) : DX w' d a c L g s2 := by
  refine ⟨(u.block d k1.lt hd).trans k1.o, ?_, fun y hy => (k1.b y hy).upd u fun k cur e hk => ?_, k1.f, k1.wf⟩
  · cases a with
    | none =>
      rcases k1.l with ⟨hl, ⟨e, e2⟩ | ⟨g', cap, cur, e, _⟩⟩
      · exact ⟨hl, .inl ⟨e, e2⟩⟩
      · injection e with e _ _
        cases e
    | some x =>
      obtain ⟨cur, hx, hh⟩ := k1.fb rfl
      have hl := k1.l
      rw [hx] at hl ⊢
      exact own_at hl (u.block _ (Array.getElem?_eq_some_iff.1 hh).1 (ha x rfl))
  · obtain ⟨cur', T', e', t'⟩ := ht k hk
    rw [e] at e'
    injection e' with e'
    injection e' with _ e' _
    exact dT_u8 t' e'.symm
/-- A disk of the document stays as rows of bytes that are not its own are turned. -/
theorem dx_flip {V : List Fv} {a : Option Addr} {c : Nat} {L : List Fv} (k2 : DX w d a c L g s2) (u : Upd (Bk V) w w') (hty : ∀ k, Bk V k → ∀ cur T, w.heap[k]? = some (.cells cur T (0, 0)) → T = 5) (j5 : SameB w w') (k5 : ∀ k, Bk V k → ¬ Bk L k) : DX w' d a c L g s2 := by
  refine ⟨?_, own_upd k2.l u (fun g' cur e hk => absurd (hty g' hk _ _ e) (by decide)), fun y hy => ?_, k2.f, k2.wf⟩
  · rw [u.block d k2.lt (fun hk => absurd (hty d hk _ _ k2.o) (by decide))]; exact k2.o
  · obtain ⟨b1, f, b2, b3, b4⟩ := k2.b y hy
    refine ⟨b1, f, b2, ?_, b4⟩
    by_cases h0 : 0 < y.b.size
    · obtain ⟨g2, c2, e2, _⟩ := b3.row h0 b2
      have e3 : y.bv.1 = some ⟨g2, 0, none⟩ := by injection e2
      have hne : ¬ Bk V g2 := fun hk => k5 g2 hk ⟨y, hy, h0, 0, e3⟩
      rw [b1, e3] at b3 ⊢
      obtain ⟨cur, hc, _⟩ := own_cells (f := f) b3
      exact own_at b3 (u.block g2 (Array.getElem?_eq_some_iff.1 hc).1 hne)
    · rcases b3 with ⟨hl, ⟨e1, e2⟩ | ⟨g', cap, cur, e1, hg, hh, hnc, hmx, hs, ht⟩⟩
      · exact ⟨hl, .inl ⟨e1, e2⟩⟩
      · obtain ⟨cur', hc', hs'⟩ := j5 g' cur hh
        have hz : y.b.size = 0 := by omega
        refine ⟨hl, .inr ⟨g', cap, cur', e1, hg, hc', hnc, hmx, by rw [hs']; exact hs, ?_⟩⟩
        rw [hz]
        simp [bs]
/-- Another disk of the program likewise. -/
theorem px_flip {V V2 : List Fv} {F : Int} (x : PX w p m V2 q s F) (u : Upd (Bk V) w w') (hty : ∀ k, Bk V k → ∃ cur, w.heap[k]? = some (.cells cur 5 (0, 0))) (k5 : ∀ k, Bk V k → ¬ Bk V2 k) : PX w' p m V2 q s F := by
  have hp : ¬ Bk V p := fun hk => by
    obtain ⟨cur, e⟩ := hty p hk
    rw [x.o] at e
    injection e with e
    injection e with _ e _
    exact absurd e (by decide)
  have hmm : ¬ Bk V m := fun hk => by
    obtain ⟨cur, e⟩ := hty m hk
    obtain ⟨es, cl, hb, _⟩ := x.m
    rw [hb] at e
    injection e with e
    cases e
  refine ⟨(u.block p x.lt hp).trans x.o, map_upd x.m u hmm, fun y hy => ?_, x.f, x.wf, x.r, x.d, x.F0, x.F1⟩
  have hb := x.b y hy
  refine ⟨hb.n, hb.c, hb.l, hb.z, fun h0 => ?_⟩
  obtain ⟨f, h2, h3, h4⟩ := hb.r h0
  obtain ⟨g2, c2, e2, _⟩ := h3.row h0 h2
  have e3 : y.bv.1 = some ⟨g2, 0, none⟩ := by injection e2
  have hne : ¬ Bk V g2 := fun hk => k5 g2 hk ⟨y, hy, h0, 0, e3⟩
  refine ⟨f, h2, ?_, h4⟩
  have e4 := hb.n
  rw [e3, e4] at h3 ⊢
  obtain ⟨cur, hc, _⟩ := own_cells (f := f) h3
  exact own_at h3 (u.block g2 (Array.getElem?_eq_some_iff.1 hc).1 hne)
end
section
variable {w0 w w' : World} {R : Rg} {q g : Option Nat} {S T : Nat → St} {z z2 : Option Fz} {y : Nat → Lay}
theorem Ar.onY (h : Ar w0 w R q g S T z z2) (hy : Lx w0 w R q g S T y) {i : Nat} (hi : i < R.n) : On w0 w (R.P i).p (R.P i).m q (S i) z :=
  ⟨⟨_, _, (hy.al i hi).px⟩, h.fz, h.b, (hy.al i hi).p0, (hy.al i hi).m0, h.q0⟩
theorem Ar.on (h : Ar w0 w R q g S T z z2) {i : Nat} (hi : i < R.n) : On w0 w (R.P i).p (R.P i).m q (S i) z := by
  obtain ⟨y, hy⟩ := h.ex
  exact h.onY hy hi
theorem Ar.dxY (h : Ar w0 w R q g S T z z2) (hy : Lx w0 w R q g S T y) {i : Nat} (hi : i < R.n) : Dx w0 w (R.P i).d g (T i) z2 :=
  ⟨⟨_, _, _, (hy.al i hi).dx, (hy.al i hi).a0⟩, h.zs, h.b, (hy.al i hi).d0, h.g0⟩
theorem Ar.dx (h : Ar w0 w R q g S T z z2) {i : Nat} (hi : i < R.n) : Dx w0 w (R.P i).d g (T i) z2 := by
  obtain ⟨y, hy⟩ := h.ex
  exact h.dxY hy hi
theorem Al.keep {P : Pc} {s s2 : St} {y : Lay} (h : Al w0 w P q g s s2 y) (b : Below w.heap.size w w') : Al w0 w' P q g s s2 y := ⟨h.px.keep b, h.dx.keep b, h.p0, h.m0, h.d0, h.a0, h.b0⟩
theorem Lx.keep (h : Lx w0 w R q g S T y) (b : Below w.heap.size w w') : Lx w0 w' R q g S T y := ⟨fun i hi => (h.al i hi).keep b, h.sp, h.vl, h.vk⟩
theorem Ar.keep (h : Ar w0 w R q g S T z z2) (b : Below w.heap.size w w') : Ar w0 w' R q g S T z z2 := by
  obtain ⟨y, hy⟩ := h.ex
  exact ⟨h.fz.keep b, h.zs.keep b, h.b.trans (b.mono h.b.size), h.q0, h.g0, fun k o e => ⟨(b.block k (Array.getElem?_eq_some_iff.1 (h.kp k o e).1).1).trans (h.kp k o e).1, (h.kp k o e).2⟩, y, hy.keep b⟩
/-- An operation of the program's disk i. -/
theorem Ar.progY (h : Ar w0 w R q g S T z z2) (hy : Lx w0 w R q g S T y) {i : Nat} (hi : i < R.n) {V' : List Fv} {F' : Int} {s' : St} {z' : Option Fz} (j1 : PX w' (R.P i).p (R.P i).m V' q s' F') (j2 : FZ w' q z') (j3 : Upd (Ms (R.P i).p (R.P i).m q) w w') (j4 : Gw w (y i).V V') :
    Ar w0 w' R q g (up S i s') T z' z2 ∧ Kd w w' := by
  have on := h.onY hy hi
  have hlo : ∀ k, Ms (R.P i).p (R.P i).m q k → w0.heap.size ≤ k := fun k hk => by
    rcases hk with hk | hk | hk
    · rw [hk]; exact on.p0
    · rw [hk]; exact on.m0
    · exact h.q0 k hk
  have hks : ∀ k o, R.K k = some o → k < w.heap.size := fun k o e => (Array.getElem?_eq_some_iff.1 (h.kp k o e).1).1
  have hKn : ∀ k o, R.K k = some o → ¬ Ms (R.P i).p (R.P i).m q k := fun k o e hk => by
    obtain ⟨k1, cur, T', zz, rfl, n1, n2, _⟩ := h.kp k o e
    rcases ms_type on hk k1 with t | t
    · exact n1 t
    · exact n2 t
  refine ⟨⟨j2, h.zs.beside j3 fun k e hk => ?_, Upd.below h.b j3 hlo h.b.size, h.q0, h.g0, fun k o e => ⟨(j3.block k (hks k o e) (hKn k o e)).trans (h.kp k o e).1, (h.kp k o e).2⟩, up y i ⟨V', F', (y i).a, (y i).c, (y i).L⟩, ?_, ?_, ?_, ?_⟩, ⟨j3.size, fun k cur T e t => j3.block k (Array.getElem?_eq_some_iff.1 e).1 fun hk => ?_⟩⟩
  · have hz := h.zs
    rw [e] at hz
    obtain ⟨cs, e9⟩ := hz.type
    rcases ms_type on hk e9 with t | t <;> exact absurd t (by decide)
  · intro j hj
    have hA := hy.al j hj
    by_cases e : j = i
    · subst e
      rw [up_at, up_at]
      refine ⟨j1, dx_turn on hA.dx j3, hA.p0, hA.m0, hA.d0, hA.a0, fun k hk => ?_⟩
      rcases j4.bk hk with t | t
      · exact Nat.le_trans h.b.size t
      · exact hA.b0 k t
    · rw [up_of _ _ e, up_of _ _ e]
      have hs := hy.sp i j hi hj (Ne.symm e)
      exact ⟨px_beside on hA.px hs.p hs.m j3, dx_turn on hA.dx j3, hA.p0, hA.m0, hA.d0, hA.a0, hA.b0⟩
  · intro j l hj hl hn
    have hs := hy.sp j l hj hl hn
    by_cases e : j = i
    · subst e
      rw [up_at, up_of _ _ (Ne.symm hn)]
      refine ⟨hs.p, hs.m, hs.d, hs.a, fun k hk hk2 => ?_⟩
      rcases j4.bk hk with t | t
      · obtain ⟨cur, hc⟩ := (hy.al l hl).px.bk hk2
        have := (Array.getElem?_eq_some_iff.1 hc).1
        omega
      · exact hs.b k t hk2
    · by_cases e2 : l = i
      · subst e2
        rw [up_at, up_of _ _ e]
        refine ⟨hs.p, hs.m, hs.d, hs.a, fun k hk2 hk => ?_⟩
        rcases j4.bk hk with t | t
        · obtain ⟨cur, hc⟩ := (hy.al j hj).px.bk hk2
          have := (Array.getElem?_eq_some_iff.1 hc).1
          omega
        · exact hs.b k hk2 t
      · rw [up_of _ _ e, up_of _ _ e2]; exact hs
  · intro j l hj hl k hk hk2
    have hL : (up y i ⟨V', F', (y i).a, (y i).c, (y i).L⟩ l).L = (y l).L := by
      by_cases e : l = i
      · subst e; rw [up_at]
      · rw [up_of _ _ e]
    rw [hL] at hk2
    by_cases e : j = i
    · subst e
      rw [up_at] at hk
      rcases j4.bk hk with t | t
      · obtain ⟨cur, hc⟩ := (hy.al l hl).dx.bk hk2
        have := (Array.getElem?_eq_some_iff.1 hc).1
        omega
      · exact hy.vl j l hj hl k t hk2
    · rw [up_of _ _ e] at hk
      exact hy.vl j l hj hl k hk hk2
  · intro j hj k o e9 hk
    by_cases e : j = i
    · subst e
      rw [up_at] at hk
      rcases j4.bk hk with t | t
      · have := hks k o e9
        omega
      · exact hy.vk j hj k o e9 t
    · rw [up_of _ _ e] at hk
      exact hy.vk j hj k o e9 hk
  · rcases ms_type on hk e with t2 | t2
    · exact t.1 t2
    · exact t.2.1 t2
theorem Ar.prog {X : Ending → World → Prop} {Fn : FuncId} {A : Array Value} {s' : St} {z' : Option Fz} (h : Ar w0 w R q g S T z z2) {i : Nat} (hi : i < R.n)
    (c : ∀ V F0, PX w (R.P i).p (R.P i).m V q (S i) F0 → Calls Tryz.prog Fn A w fun e w' => X e w' ∧ ∃ V' F', PX w' (R.P i).p (R.P i).m V' q s' F' ∧ FZ w' q z' ∧ Upd (Ms (R.P i).p (R.P i).m q) w w' ∧ Gw w V V') :
    Calls Tryz.prog Fn A w fun e w' => X e w' ∧ Ar w0 w' R q g (up S i s') T z' z2 ∧ Kd w w' := by
  obtain ⟨y, hy⟩ := h.ex
  refine (c _ _ (hy.al i hi).px).mono ?_
  rintro e w' ⟨hX, V', F', j1, j2, j3, j4⟩
  exact ⟨hX, h.progY hy hi j1 j2 j3 j4⟩
/-- A call of the document's disk i. -/
theorem Ar.docY (h : Ar w0 w R q g S T z z2) (hy : Lx w0 w R q g S T y) {i : Nat} (hi : i < R.n) {s' : St} {z' : Option Fz} {a' : Option Addr} {c' : Nat} {L' : List Fv} (j1 : DX w' (R.P i).d a' c' L' g s') (j2 : Zs w' g z') (j3 : Upd (Mg (R.P i).d g (y i).a) w w') (j4 : a' = (y i).a ∨ ∀ x, a' = some x → w.heap.size ≤ x.block) (j5 : Gw w (y i).L L') :
    Ar w0 w' R q g S (up T i s') z z' ∧ Kd w w' ∧ DU w0 w w' := by
  have hI := hy.al i hi
  have dxI := h.dxY hy hi
  obtain ⟨l1, l2⟩ := dxI.go hI.dx hI.a0 ⟨a', c', L', j1, j2, j3, j4, j5⟩
  have hty : ∀ k, Mg (R.P i).d g (y i).a k → ∃ cur T, w.heap[k]? = some (.cells cur T (0, 0)) ∧ dT T := fun k hk => mg_type hI.dx h.zs hk
  have hks : ∀ k o, R.K k = some o → k < w.heap.size := fun k o e => (Array.getElem?_eq_some_iff.1 (h.kp k o e).1).1
  have hKn : ∀ k o, R.K k = some o → ¬ Mg (R.P i).d g (y i).a k := fun k o e hk => by
    obtain ⟨k1, hk0⟩ := h.kp k o e
    obtain ⟨cur, T', e', t⟩ := hty k hk
    rw [k1] at e'
    injection e' with e'
    subst e'
    obtain ⟨_, _, n3, n4, n5⟩ := kO_no hk0
    rcases t with t | t | t
    · exact n3 t
    · exact n4 t
    · exact n5 t
  have hon := (h.onY hy hi).doc l2
  refine ⟨⟨hon.fz, j2, l1.b, h.q0, h.g0, fun k o e => ⟨(j3.block k (hks k o e) (hKn k o e)).trans (h.kp k o e).1, (h.kp k o e).2⟩, up y i ⟨(y i).V, (y i).F, a', c', L'⟩, ?_, ?_, ?_, ?_⟩, ⟨j3.size, fun k cur T e t => l2.block e (fun t2 => by
    obtain ⟨_, _, n3, n4, n5, _⟩ := t
    rcases t2 with t2 | t2 | t2
    · exact n3 t2
    · exact n4 t2
    · exact n5 t2)⟩, l2⟩
  · intro j hj
    have hA := hy.al j hj
    by_cases e : j = i
    · subst e
      rw [up_at, up_at]
      refine ⟨px_turn l2 hA.px, j1, hA.p0, hA.m0, hA.d0, fun x e => ?_, hA.b0⟩
      rcases j4 with t | t
      · exact hA.a0 x (by rw [← t]; exact e)
      · exact Nat.le_trans h.b.size (t x e)
    · rw [up_of _ _ e, up_of _ _ e]
      have hs := hy.sp i j hi hj (Ne.symm e)
      refine ⟨px_turn l2 hA.px, dx_beside hA.dx j3 hty (fun hk => ?_) (fun x ex hk => ?_), hA.p0, hA.m0, hA.d0, hA.a0, hA.b0⟩
      · rcases hk with hk | hk | ⟨o, hk⟩
        · exact hs.d hk.symm
        · have hz := h.zs
          rw [hk] at hz
          obtain ⟨cs, e9⟩ := hz.type
          rw [hA.dx.o] at e9
          injection e9 with e9
          injection e9 with _ e9 _
          exact absurd e9 (by decide)
        · obtain ⟨cur, _, hh⟩ := hI.dx.fb hk
          rw [hA.dx.o] at hh
          injection hh with hh
          injection hh with _ hh _
          exact absurd hh (by decide)
      · obtain ⟨cur, hx, hh⟩ := hA.dx.fb ex
        rcases hk with hk | hk | ⟨o, hk⟩
        · rw [hk, hI.dx.o] at hh
          injection hh with hh
          injection hh with _ hh _
          exact absurd hh (by decide)
        · have hz := h.zs
          rw [hk] at hz
          obtain ⟨cs, e9⟩ := hz.type
          rw [hh] at e9
          injection e9 with e9
          injection e9 with _ e9 _
          exact absurd e9 (by decide)
        · exact hs.a _ x hk ex rfl
  · intro j l hj hl hn
    have hs := hy.sp j l hj hl hn
    by_cases e : j = i
    · subst e
      rw [up_at, up_of _ _ (Ne.symm hn)]
      refine ⟨hs.p, hs.m, hs.d, fun x x' e1 e2 => ?_, hs.b⟩
      rcases j4 with t | t
      · exact hs.a x x' (by rw [← t]; exact e1) e2
      · obtain ⟨cur, _, hc⟩ := (hy.al l hl).dx.fb e2
        have h1 := (Array.getElem?_eq_some_iff.1 hc).1
        have h2 := t x e1
        omega
    · by_cases e2 : l = i
      · subst e2
        rw [up_at, up_of _ _ e]
        refine ⟨hs.p, hs.m, hs.d, fun x x' e1 e3 => ?_, hs.b⟩
        rcases j4 with t | t
        · exact hs.a x x' e1 (by rw [← t]; exact e3)
        · obtain ⟨cur, _, hc⟩ := (hy.al j hj).dx.fb e1
          have h1 := (Array.getElem?_eq_some_iff.1 hc).1
          have h2 := t x' e3
          omega
      · rw [up_of _ _ e, up_of _ _ e2]; exact hs
  · intro j l hj hl k hk hk2
    have hV : (up y i ⟨(y i).V, (y i).F, a', c', L'⟩ j).V = (y j).V := by
      by_cases e : j = i
      · subst e; rw [up_at]
      · rw [up_of _ _ e]
    rw [hV] at hk
    by_cases e : l = i
    · subst e
      rw [up_at] at hk2
      rcases j5.bk hk2 with t | t
      · obtain ⟨cur, hc⟩ := (hy.al j hj).px.bk hk
        have := (Array.getElem?_eq_some_iff.1 hc).1
        omega
      · exact hy.vl j l hj hl k hk t
    · rw [up_of _ _ e] at hk2
      exact hy.vl j l hj hl k hk hk2
  · intro j hj k o e9 hk
    have hV : (up y i ⟨(y i).V, (y i).F, a', c', L'⟩ j).V = (y j).V := by
      by_cases e : j = i
      · subst e; rw [up_at]
      · rw [up_of _ _ e]
    rw [hV] at hk
    exact hy.vk j hj k o e9 hk
theorem Ar.doc {X : Ending → World → Prop} {Fn : FuncId} {A : Array Value} {s' : St} {z' : Option Fz} (h : Ar w0 w R q g S T z z2) {i : Nat} (hi : i < R.n)
    (c : ∀ a c L, DX w (R.P i).d a c L g (T i) → Calls Tryz.prog Fn A w fun e w' => X e w' ∧ ∃ a' c' L', DX w' (R.P i).d a' c' L' g s' ∧ Zs w' g z' ∧ Upd (Mg (R.P i).d g a) w w' ∧ (a' = a ∨ ∀ x, a' = some x → w.heap.size ≤ x.block) ∧ Gw w L L') :
    Calls Tryz.prog Fn A w fun e w' => X e w' ∧ Ar w0 w' R q g S (up T i s') z z' ∧ Kd w w' ∧ DU w0 w w' := by
  obtain ⟨y, hy⟩ := h.ex
  refine (c _ _ _ (hy.al i hi).dx).mono ?_
  rintro e w' ⟨hX, a', c', L', j1, j2, j3, j4, j5⟩
  exact ⟨hX, h.docY hy hi j1 j2 j3 j4 j5⟩
/-- The program's Flip on disk i. -/
theorem Ar.flip {x : ByteArray} {t : Int} {mask : Nat} (h : Ar w0 w R q g S T z z2) {i : Nat} (hi : i < R.n) (hx : x.size ≤ maxLen) (ht0 : -9223372036854775808 ≤ t) (ht1 : t ≤ 9223372036854775807) (hm : mask < 4294967296) :
    Calls Tryz.prog 72 #[.pointer (some ⟨(R.P i).p, 0, none⟩), .string x, .int .i64 t, .int .u32 (mask : Int)] w fun e w' => e = .returned (.bool (flipT x t (S i).fs)) ∧ Ar w0 w' R q g (up S i { S i with fs := flipS x t mask (S i).fs }) T z z2 ∧ Kd w w' := by
  obtain ⟨y, hy⟩ := h.ex
  have hI := hy.al i hi
  refine (pflip_any _ _ _ q (S i) _ x t mask w hI.px hx ht0 ht1 hm).mono ?_
  rintro e w' ⟨rfl, V', j1, j3, j4, j5⟩
  have hu8 : ∀ k, Bk (y i).V k → ∃ cur, w.heap[k]? = some (.cells cur 5 (0, 0)) := fun k hk => hI.px.bk hk
  have hty : ∀ k, Bk (y i).V k → ∀ cur T, w.heap[k]? = some (.cells cur T (0, 0)) → T = 5 := fun k hk cur T e => by
    obtain ⟨cur', e'⟩ := hu8 k hk
    rw [e] at e'
    injection e' with e'
    injection e' with _ e' _
  have hks : ∀ k o, R.K k = some o → k < w.heap.size := fun k o e => (Array.getElem?_eq_some_iff.1 (h.kp k o e).1).1
  refine ⟨rfl, ⟨h.fz.upd j3 fun k e hk => ?_, h.zs.beside j3 fun k e hk => ?_, Upd.below h.b j3 (fun k hk => hI.b0 k hk) h.b.size, h.q0, h.g0, fun k o e => ⟨(j3.block k (hks k o e) (hy.vk i hi k o e)).trans (h.kp k o e).1, (h.kp k o e).2⟩, up y i ⟨V', (y i).F, (y i).a, (y i).c, (y i).L⟩, ?_, ?_, ?_, ?_⟩, ⟨j3.size, fun k cur T e t => j3.block k (Array.getElem?_eq_some_iff.1 e).1 fun hk => t.2.2.2.2.2 (hty k hk _ _ e)⟩⟩
  · have hz := h.fz
    rw [e] at hz
    obtain ⟨cs, e9⟩ := hz.type
    exact absurd (hty k hk _ _ e9) (by decide)
  · have hz := h.zs
    rw [e] at hz
    obtain ⟨cs, e9⟩ := hz.type
    exact absurd (hty k hk _ _ e9) (by decide)
  · intro j hj
    have hA := hy.al j hj
    have hD := dx_flip hA.dx j3 hty j5 (hy.vl i j hi hj)
    by_cases e : j = i
    · subst e
      rw [up_at, up_at]
      refine ⟨j1, hD, hA.p0, hA.m0, hA.d0, hA.a0, fun k hk => ?_⟩
      rcases j4.bk hk with t | t
      · exact Nat.le_trans h.b.size t
      · exact hA.b0 k t
    · rw [up_of _ _ e, up_of _ _ e]
      exact ⟨px_flip hA.px j3 hu8 (hy.sp i j hi hj (Ne.symm e)).b, hD, hA.p0, hA.m0, hA.d0, hA.a0, hA.b0⟩
  · intro j l hj hl hn
    have hs := hy.sp j l hj hl hn
    by_cases e : j = i
    · subst e
      rw [up_at, up_of _ _ (Ne.symm hn)]
      refine ⟨hs.p, hs.m, hs.d, hs.a, fun k hk hk2 => ?_⟩
      rcases j4.bk hk with t | t
      · obtain ⟨cur, hc⟩ := (hy.al l hl).px.bk hk2
        have := (Array.getElem?_eq_some_iff.1 hc).1
        omega
      · exact hs.b k t hk2
    · by_cases e2 : l = i
      · subst e2
        rw [up_at, up_of _ _ e]
        refine ⟨hs.p, hs.m, hs.d, hs.a, fun k hk2 hk => ?_⟩
        rcases j4.bk hk with t | t
        · obtain ⟨cur, hc⟩ := (hy.al j hj).px.bk hk2
          have := (Array.getElem?_eq_some_iff.1 hc).1
          omega
        · exact hs.b k hk2 t
      · rw [up_of _ _ e, up_of _ _ e2]; exact hs
  · intro j l hj hl k hk hk2
    have hL : (up y i ⟨V', (y i).F, (y i).a, (y i).c, (y i).L⟩ l).L = (y l).L := by
      by_cases e : l = i
      · subst e; rw [up_at]
      · rw [up_of _ _ e]
    rw [hL] at hk2
    by_cases e : j = i
    · subst e
      rw [up_at] at hk
      rcases j4.bk hk with t | t
      · obtain ⟨cur, hc⟩ := (hy.al l hl).dx.bk hk2
        have := (Array.getElem?_eq_some_iff.1 hc).1
        omega
      · exact hy.vl j l hj hl k t hk2
    · rw [up_of _ _ e] at hk
      exact hy.vl j l hj hl k hk hk2
  · intro j hj k o e9 hk
    by_cases e : j = i
    · subst e
      rw [up_at] at hk
      rcases j4.bk hk with t | t
      · have := hks k o e9
        omega
      · exact hy.vk j hj k o e9 t
    · rw [up_of _ _ e] at hk
      exact hy.vk j hj k o e9 hk
/-- A block more that stays. -/
def Rg.more (R : Rg) (k : Nat) (o : Obj) : Rg := ⟨R.n, R.P, up R.K k (some o)⟩
theorem Ar.more (h : Ar w0 w R q g S T z z2) {k : Nat} {o : Obj} (hk : w.heap[k]? = some o) (ho : kO o) (hu : ∀ cur, o ≠ .cells cur 5 (0, 0)) : Ar w0 w (R.more k o) q g S T z z2 := by
  obtain ⟨y, hy⟩ := h.ex
  refine ⟨h.fz, h.zs, h.b, h.q0, h.g0, fun k' o' e => ?_, y, hy.al, hy.sp, hy.vl, fun i hi k' o' e hb => ?_⟩
  · by_cases e2 : k' = k
    · subst e2
      have : some o = some o' := by rw [← e]; exact (up_at R.K k' (some o)).symm
      injection this with this
      subst this
      exact ⟨hk, ho⟩
    · exact h.kp k' o' (by rw [← e]; exact (up_of R.K (some o) e2).symm)
  · by_cases e2 : k' = k
    · subst e2
      obtain ⟨cur, hc⟩ := (hy.al i hi).px.bk hb
      rw [hk] at hc
      injection hc with hc
      exact hu cur hc
    · exact hy.vk i hi k' o' (by rw [← e]; exact (up_of R.K (some o) e2).symm) hb
theorem Ar.kept (h : Ar w0 w R q g S T z z2) {k : Nat} {o : Obj} (e : R.K k = some o) : w.heap[k]? = some o := (h.kp k o e).1
end
/-- The other disks. -/
structure Ot where
  R : Rg
  i : Nat
  S : Nat → St
  T : Nat → St
/-- One of the disks, the others in the states that O tells. -/
def Pr (w0 w : World) (O : Ot) (p m d : Nat) (q g : Option Nat) (s s2 : St) (z z2 : Option Fz) : Prop := O.i < O.R.n ∧ O.R.P O.i = ⟨p, m, d⟩ ∧ Ar w0 w O.R q g (up O.S O.i s) (up O.T O.i s2) z z2
theorem Ar.pr {w0 w : World} {R : Rg} {q g : Option Nat} {S T : Nat → St} {z z2 : Option Fz} (h : Ar w0 w R q g S T z z2) {i : Nat} (hi : i < R.n) : Pr w0 w ⟨R, i, S, T⟩ (R.P i).p (R.P i).m (R.P i).d q g (S i) (T i) z z2 :=
  ⟨hi, rfl, by rw [up_self, up_self]; exact h⟩
section
variable {w0 w w' : World} {O : Ot} {p m d : Nat} {q g : Option Nat} {s s2 : St} {z z2 : Option Fz}
theorem Pr.on (h : Pr w0 w O p m d q g s s2 z z2) : On w0 w p m q s z := by
  have := h.2.2.on h.1
  rw [h.2.1, up_at] at this
  exact this
theorem Pr.dx (h : Pr w0 w O p m d q g s s2 z z2) : Dx w0 w d g s2 z2 := by
  have := h.2.2.dx h.1
  rw [h.2.1, up_at] at this
  exact this
theorem Pr.keep (h : Pr w0 w O p m d q g s s2 z z2) (b : Below w.heap.size w w') : Pr w0 w' O p m d q g s s2 z z2 := ⟨h.1, h.2.1, h.2.2.keep b⟩
/-- An operation of the program. -/
theorem pr_prog {X : Ending → World → Prop} {Fn : FuncId} {A : Array Value} {s' : St} {z' : Option Fz} (h : Pr w0 w O p m d q g s s2 z z2)
    (c : ∀ V F0, PX w p m V q s F0 → Calls Tryz.prog Fn A w fun e w' => X e w' ∧ ∃ V' F', PX w' p m V' q s' F' ∧ FZ w' q z' ∧ Upd (Ms p m q) w w' ∧ Gw w V V') :
    Calls Tryz.prog Fn A w fun e w' => X e w' ∧ Pr w0 w' O p m d q g s' s2 z' z2 ∧ Kd w w' := by
  have k := h.2.2.prog (X := X) (Fn := Fn) (A := A) (s' := s') (z' := z') h.1 (by rw [h.2.1, up_at]; exact c)
  rw [up_up] at k
  exact k.mono fun e w' j => ⟨j.1, ⟨h.1, h.2.1, j.2.1⟩, j.2.2⟩
theorem Pr.docU {s' : St} {z' : Option Fz} (h : Pr w0 w O p m d q g s s2 z z2)
    (c : ∀ a c L, DX w d a c L g s2 → ∃ a' c' L', DX w' d a' c' L' g s' ∧ Zs w' g z' ∧ Upd (Mg d g a) w w' ∧ (a' = a ∨ ∀ x, a' = some x → w.heap.size ≤ x.block) ∧ Gw w L L') :
    Pr w0 w' O p m d q g s s' z z' ∧ Kd w w' ∧ DU w0 w w' := by
  obtain ⟨y, hy⟩ := h.2.2.ex
  have hd := (hy.al _ h.1).dx
  rw [h.2.1, up_at] at hd
  obtain ⟨a', c', L', j1, j2, j3, j4, j5⟩ := c _ _ _ hd
  have k := h.2.2.docY hy h.1 (s' := s') (z' := z') (by rw [h.2.1]; exact j1) j2 (by rw [h.2.1]; exact j3) j4 j5
  rw [up_up] at k
  exact ⟨⟨h.1, h.2.1, k.1⟩, k.2⟩
/-- A call of the document. -/
theorem pr_doc {X : Ending → World → Prop} {Fn : FuncId} {A : Array Value} {s' : St} {z' : Option Fz} (h : Pr w0 w O p m d q g s s2 z z2)
    (c : ∀ a c L, DX w d a c L g s2 → Calls Tryz.prog Fn A w fun e w' => X e w' ∧ ∃ a' c' L', DX w' d a' c' L' g s' ∧ Zs w' g z' ∧ Upd (Mg d g a) w w' ∧ (a' = a ∨ ∀ x, a' = some x → w.heap.size ≤ x.block) ∧ Gw w L L') :
    Calls Tryz.prog Fn A w fun e w' => X e w' ∧ Pr w0 w' O p m d q g s s' z z' ∧ Kd w w' ∧ DU w0 w w' := by
  have k := h.2.2.doc (X := X) (Fn := Fn) (A := A) (s' := s') (z' := z') h.1 (by rw [h.2.1, up_at]; exact c)
  rw [up_up] at k
  exact k.mono fun e w' j => ⟨j.1, ⟨h.1, h.2.1, j.2.1⟩, j.2.2⟩
/-- The program's Flip. -/
theorem pr_flip1 {x : ByteArray} {t : Int} {mask : Nat} (h : Pr w0 w O p m d q g s s2 z z2) (hx : x.size ≤ maxLen) (ht0 : -9223372036854775808 ≤ t) (ht1 : t ≤ 9223372036854775807) (hm : mask < 4294967296) :
    Calls Tryz.prog 72 #[.pointer (some ⟨p, 0, none⟩), .string x, .int .i64 t, .int .u32 (mask : Int)] w fun e w' => e = .returned (.bool (flipT x t s.fs)) ∧ Pr w0 w' O p m d q g { s with fs := flipS x t mask s.fs } s2 z z2 ∧ Kd w w' := by
  have k := h.2.2.flip h.1 hx ht0 ht1 hm
  rw [h.2.1, up_at, up_up] at k
  exact k.mono fun e w' j => ⟨j.1, ⟨h.1, h.2.1, j.2.1⟩, j.2.2⟩
end
end Go.Proofs.YtebngmgdciahiaaGreatDoor
