/-
  A disk of the program and one of the document, of which neither's rows of bytes are the other's.
-/
import Derived.Test.YthkhkijdehbbmaaSdJ
import Derived.Test.YthkhkijdehbbmaaSdD
set_option maxRecDepth 100000
namespace Go.Proofs.Ythkhkijdehbbmaa
open Go.RowKit
open _root_.Go.Proofs.Ythkhkijdehbbmaa.Nm _root_.Go.Proofs.Ythkhkijdehbbmaa.Dk
attribute [local go_sem ↓] Go.wp_at_zero Go.wp_at_succ
set_option linter.unusedVariables false

/-- Blocks that hold a deed stay. -/
def Kd (w w' : World) : Prop := ∀ (k : Nat) (cur : Array Value), w.heap[k]? = some (.cells cur 54 (0, 0)) → w'.heap[k]? = w.heap[k]?
structure Pr (w0 w : World) (p m d : Nat) (q g : Option Nat) (s s2 : St) (z z2 : Option Fz) : Prop where
  on : On w0 w p m q s z
  dx : Dx w0 w d g s2 z2
  ex : ∃ V F a c L, PX w p m V q s F ∧ DX w d a c L g s2 ∧ (∀ x : Addr, a = some x → w0.heap.size ≤ x.block) ∧ (∀ k, Bk V k → w0.heap.size ≤ k) ∧ ∀ k, Bk V k → ¬ Bk L k
theorem DX.bk {w : World} {p : Nat} {a : Option Addr} {c : Nat} {L : List Fv} {q : Option Nat} {s : St} (h : DX w p a c L q s) {k : Nat} (hk : Bk L k) : ∃ cur, w.heap[k]? = some (.cells cur 5 (0, 0)) := by
  obtain ⟨y, hy, h0, o, e⟩ := hk
  obtain ⟨_, f, _, ho, _⟩ := h.b y hy
  rcases ho with ⟨_, ⟨e1, _⟩ | ⟨g', cap, cur, e1, _, hh, _⟩⟩
  · injection e1 with e1 _ _
    rw [e] at e1; cases e1
  · injection e1 with e1 _ _
    rw [e] at e1
    injection e1 with e1
    injection e1 with e1
    subst e1
    exact ⟨cur, hh⟩
theorem Gw.bk {w : World} {V V' : List Fv} (h : Gw w V V') {k : Nat} (hk : Bk V' k) : w.heap.size ≤ k ∨ Bk V k := by
  obtain ⟨y, hy, h0, o, e⟩ := hk
  rcases h y hy h0 _ e with t | ⟨y0, h1, h2, h3⟩
  · exact .inl t
  · exact .inr ⟨y0, h1, h2, o, h3⟩
section
variable {w0 w w' : World} {p m d : Nat} {q g : Option Nat} {s s2 : St} {z z2 : Option Fz}
theorem ms_type (h1 : On w0 w p m q s z) {k : Nat} (e : Ms p m q k) {cur : Array Value} {T : TypeId} (t : w.heap[k]? = some (.cells cur T (0, 0))) : T = 71 ∨ T = 68 := by
  obtain ⟨V, F, x⟩ := h1.px
  rcases e with e | e | e
  · subst e
    rw [x.o] at t
    injection t with t
    injection t with _ t _
    exact .inl t.symm
  · subst e
    obtain ⟨es, clock, hb, _⟩ := x.m
    rw [hb] at t
    injection t with t
    cases t
  · subst e
    obtain ⟨cs, hk⟩ := h1.fz.type
    rw [t] at hk
    injection hk with hk
    injection hk with _ hk _
    exact .inr hk
theorem dx_turn (h1 : On w0 w p m q s z) {a : Option Addr} {c : Nat} {L : List Fv} (k1 : DX w d a c L g s2) (u : Upd (Ms p m q) w w') : DX w' d a c L g s2 := by
  refine k1.turn u (fun k e cur T t => ?_) ?_ rfl k1.wf
  · rcases ms_type h1 e t with t | t <;> subst t <;> decide
  · rw [u.block d k1.lt (fun e => ?_)]
    · exact k1.o
    · rcases ms_type h1 e k1.o with t | t <;> exact absurd t (by decide)
theorem px_turn (u : DU w0 w w') {V : List Fv} {F : Int} (x : PX w p m V q s F) : PX w' p m V q s F := by
  obtain ⟨M, u, hm⟩ := u
  have hp : ¬ M p := fun k => by
    obtain ⟨_, cur, T, e, t⟩ := hm p k
    rw [x.o] at e
    injection e with e
    injection e with _ e _
    exact dT_sim t e.symm
  have hmm : ¬ M m := fun k => by
    obtain ⟨_, cur, T, e, t⟩ := hm m k
    obtain ⟨es, cl, hb, _⟩ := x.m
    rw [hb] at e
    injection e with e
    cases e
  refine x.turn u (fun k e cur T t => ?_) hmm ((u.block p x.lt hp).trans x.o) rfl x.wf x.F0 x.F1
  obtain ⟨_, cur', T', e', t'⟩ := hm k e
  rw [t] at e'
  injection e' with e'
  injection e' with _ e' _
  rw [e']; exact dT_u8 t'
theorem Pr.keep (h : Pr w0 w p m d q g s s2 z z2) (b : Below w.heap.size w w') : Pr w0 w' p m d q g s s2 z z2 := by
  obtain ⟨V, F, a, c, L, k1, k2, k3, k4, k5⟩ := h.ex
  exact ⟨h.on.keep b, h.dx.keep b, V, F, a, c, L, k1.keep b, k2.keep b, k3, k4, k5⟩
/-- An operation of the program. -/
theorem pr_prog {X : Ending → World → Prop} {Fn : FuncId} {A : Array Value} {s' : St} {z' : Option Fz} (h : Pr w0 w p m d q g s s2 z z2)
    (c : ∀ V F0, PX w p m V q s F0 → Calls Try.prog Fn A w fun e w' => X e w' ∧ ∃ V' F', PX w' p m V' q s' F' ∧ FZ w' q z' ∧ Upd (Ms p m q) w w' ∧ Gw w V V') :
    Calls Try.prog Fn A w fun e w' => X e w' ∧ Pr w0 w' p m d q g s' s2 z' z2 ∧ Kd w w' := by
  obtain ⟨V, F, a, c0, L, k1, k2, k3, k4, k5⟩ := h.ex
  refine (c V F k1).mono ?_
  rintro e w' ⟨hX, V', F', j1, j2, j3, j4⟩
  refine ⟨hX, ⟨h.on.go ⟨V', F', j1⟩ j2 j3, h.dx.prog h.on j3, V', F', a, c0, L, j1, dx_turn h.on k2 j3, k3, fun k hk => ?_, fun k hk hl => ?_⟩, fun k cur e => j3.block k (Array.getElem?_eq_some_iff.1 e).1 fun hk => ?_⟩
  · rcases j4.bk hk with t | t
    · exact Nat.le_trans h.on.b.size t
    · exact k4 k t
  · obtain ⟨cur, hc⟩ := k2.bk hl
    have hlt := (Array.getElem?_eq_some_iff.1 hc).1
    rcases j4.bk hk with t | t
    · omega
    · exact k5 k t hl
  · rcases ms_type h.on hk e with t | t <;> exact absurd t (by decide)
theorem Pr.docS {s' : St} {z' : Option Fz} (h : Pr w0 w p m d q g s s2 z z2) {V : List Fv} {F : Int} {a : Option Addr} {c : Nat} {L : List Fv} (k1 : PX w p m V q s F) (k2 : DX w d a c L g s2) (k3 : ∀ x : Addr, a = some x → w0.heap.size ≤ x.block) (k4 : ∀ k, Bk V k → w0.heap.size ≤ k) (k5 : ∀ k, Bk V k → ¬ Bk L k)
    (c9 : ∃ a' c' L', DX w' d a' c' L' g s' ∧ Zs w' g z' ∧ Upd (Mg d g a) w w' ∧ (a' = a ∨ ∀ x, a' = some x → w.heap.size ≤ x.block) ∧ Gw w L L') :
    Pr w0 w' p m d q g s s' z z' ∧ Kd w w' ∧ DU w0 w w' := by
  obtain ⟨a', c', L', j1, j2, j3, j4, j5⟩ := c9
  obtain ⟨l1, l2⟩ := h.dx.go k2 k3 ⟨a', c', L', j1, j2, j3, j4, j5⟩
  refine ⟨⟨h.on.doc l2, l1, V, F, a', c', L', px_turn l2 k1, j1, fun x e => ?_, k4, fun k hk hl => ?_⟩, fun k cur e => l2.block e (by intro t; rcases t with t | t | t <;> exact absurd t (by decide)), l2⟩
  · rcases j4 with t | t
    · exact k3 x (by rw [← t]; exact e)
    · exact Nat.le_trans h.on.b.size (t x e)
  · obtain ⟨cur, hc⟩ := k1.bk hk
    have hlt := (Array.getElem?_eq_some_iff.1 hc).1
    rcases j5.bk hl with t | t
    · omega
    · exact k5 k hk t
theorem Pr.docU {s' : St} {z' : Option Fz} (h : Pr w0 w p m d q g s s2 z z2)
    (c : ∀ a c L, DX w d a c L g s2 → ∃ a' c' L', DX w' d a' c' L' g s' ∧ Zs w' g z' ∧ Upd (Mg d g a) w w' ∧ (a' = a ∨ ∀ x, a' = some x → w.heap.size ≤ x.block) ∧ Gw w L L') :
    Pr w0 w' p m d q g s s' z z' ∧ Kd w w' ∧ DU w0 w w' := by
  obtain ⟨V, F, a, c0, L, k1, k2, k3, k4, k5⟩ := h.ex
  exact h.docS k1 k2 k3 k4 k5 (c a c0 L k2)
/-- A call of the document. -/
theorem pr_doc {X : Ending → World → Prop} {Fn : FuncId} {A : Array Value} {s' : St} {z' : Option Fz} (h : Pr w0 w p m d q g s s2 z z2)
    (c : ∀ a c L, DX w d a c L g s2 → Calls Try.prog Fn A w fun e w' => X e w' ∧ ∃ a' c' L', DX w' d a' c' L' g s' ∧ Zs w' g z' ∧ Upd (Mg d g a) w w' ∧ (a' = a ∨ ∀ x, a' = some x → w.heap.size ≤ x.block) ∧ Gw w L L') :
    Calls Try.prog Fn A w fun e w' => X e w' ∧ Pr w0 w' p m d q g s s' z z' ∧ Kd w w' ∧ DU w0 w w' := by
  obtain ⟨V, F, a, c0, L, k1, k2, k3, k4, k5⟩ := h.ex
  refine (c a c0 L k2).mono ?_
  rintro e w' ⟨hX, j⟩
  exact ⟨hX, h.docS k1 k2 k3 k4 k5 j⟩
/-- The program's Flip. -/
theorem pr_flip1 {x : ByteArray} {t : Int} {mask : Nat} (h : Pr w0 w p m d q g s s2 z z2) (hx : x.size ≤ maxLen) (ht0 : -9223372036854775808 ≤ t) (ht1 : t ≤ 9223372036854775807) (hm : mask < 4294967296) :
    Calls Try.prog 46 #[.pointer (some ⟨p, 0, none⟩), .string x, .int .i64 t, .int .u32 (mask : Int)] w fun e w' => e = .returned (.bool (flipT x t s.fs)) ∧ Pr w0 w' p m d q g { s with fs := flipS x t mask s.fs } s2 z z2 ∧ Kd w w' := by
  obtain ⟨V, F, a, c0, L, k1, k2, k3, k4, k5⟩ := h.ex
  refine (pflip_any p m V q s F x t mask w k1 hx ht0 ht1 hm).mono ?_
  rintro e w' ⟨rfl, V', j1, j3, j4, j5⟩
  have hty : ∀ k, Bk V k → ∀ cur T, w.heap[k]? = some (.cells cur T (0, 0)) → T = 5 := fun k hk cur T e => by
    obtain ⟨cur', e'⟩ := k1.bk hk
    rw [e] at e'
    injection e' with e'
    injection e' with _ e' _
  have hfz : FZ w' q z := h.on.fz.upd j3 fun k e hk => by
    have hz := h.on.fz
    rw [e] at hz
    obtain ⟨cs, e9⟩ := hz.type
    exact absurd (hty k hk _ _ e9) (by decide)
  have hbel : Below w0.heap.size w0 w' := Upd.below h.on.b j3 (fun k hk => k4 k hk) h.on.b.size
  have hzs : Zs w' g z2 := h.dx.zs.beside j3 fun k e hk => by
    have hz := h.dx.zs
    rw [e] at hz
    obtain ⟨cs, e9⟩ := hz.type
    exact absurd (hty k hk _ _ e9) (by decide)
  have hd : DX w' d a c0 L g s2 := by
    refine ⟨?_, own_upd k2.l j3 (fun g' cur e hk => absurd (hty g' hk _ _ e) (by decide)), fun y hy => ?_, k2.f, k2.wf⟩
    · rw [j3.block d k2.lt (fun hk => absurd (hty d hk _ _ k2.o) (by decide))]; exact k2.o
    · obtain ⟨b1, f, b2, b3, b4⟩ := k2.b y hy
      refine ⟨b1, f, b2, ?_, b4⟩
      by_cases h0 : 0 < y.b.size
      · obtain ⟨g2, c2, e2, _⟩ := b3.row h0 b2
        have e3 : y.bv.1 = some ⟨g2, 0, none⟩ := by injection e2
        have hne : ¬ Bk V g2 := fun hk => k5 g2 hk ⟨y, hy, h0, 0, e3⟩
        rw [b1, e3] at b3 ⊢
        obtain ⟨cur, hc, _⟩ := own_cells (f := f) b3
        exact own_at b3 (j3.block g2 (Array.getElem?_eq_some_iff.1 hc).1 hne)
      · rcases b3 with ⟨hl, ⟨e1, e2⟩ | ⟨g', cap, cur, e1, hg, hh, hnc, hmx, hs, ht⟩⟩
        · exact ⟨hl, .inl ⟨e1, e2⟩⟩
        · obtain ⟨cur', hc', hs'⟩ := j5 g' cur hh
          have hz : y.b.size = 0 := by omega
          refine ⟨hl, .inr ⟨g', cap, cur', e1, hg, hc', hnc, hmx, by rw [hs']; exact hs, ?_⟩⟩
          rw [hz]
          simp [bs]
  refine ⟨rfl, ⟨⟨⟨V', F, j1⟩, hfz, hbel, h.on.p0, h.on.m0, h.on.q0⟩, ⟨⟨a, c0, L, hd, k3⟩, hzs, hbel, h.dx.d0, h.dx.g0⟩, V', F, a, c0, L, j1, hd, k3, fun k hk => ?_, fun k hk hl => ?_⟩, fun k cur e => j3.block k (Array.getElem?_eq_some_iff.1 e).1 fun hk => absurd (hty k hk _ _ e) (by decide)⟩
  · rcases j4.bk hk with t | t
    · exact Nat.le_trans h.on.b.size t
    · exact k4 k t
  · obtain ⟨cur, hc⟩ := k2.bk hl
    have hlt := (Array.getElem?_eq_some_iff.1 hc).1
    rcases j4.bk hk with t | t
    · omega
    · exact k5 k t hl
end
end Go.Proofs.Ythkhkijdehbbmaa
