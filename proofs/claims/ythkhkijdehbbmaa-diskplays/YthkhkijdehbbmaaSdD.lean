/-
  A disk of the document beside one of the program.
-/
import Derived.Test.YthkhkijdehbbmaaSdC
import Derived.Test.YthkhkijdehbbmaaSmMg
import Derived.Test.YthkhkijdehbbmaaDkI
set_option maxRecDepth 100000
namespace Go.Proofs.Ythkhkijdehbbmaa
open Go.RowKit
open _root_.Go.Proofs.Ythkhkijdehbbmaa.Nm _root_.Go.Proofs.Ythkhkijdehbbmaa.Dk
attribute [local go_sem ↓] Go.wp_at_zero Go.wp_at_succ
set_option linter.unusedVariables false

/-- The document's disk that came behind w0. -/
structure Dx (w0 w : World) (d : Nat) (g : Option Nat) (s : St) (z : Option Fz) : Prop where
  dx : ∃ a c L, DX w d a c L g s ∧ ∀ x : Addr, a = some x → w0.heap.size ≤ x.block
  zs : Zs w g z
  b : Below w0.heap.size w0 w
  d0 : w0.heap.size ≤ d
  g0 : ∀ k, g = some k → w0.heap.size ≤ k
/-- The types of its blocks. -/
def dT (T : TypeId) : Prop := T = 84 ∨ T = 49 ∨ T = 95
theorem dT_u8 {T : TypeId} (h : dT T) : T ≠ 5 := by
  rcases h with h | h | h <;> subst h <;> decide
theorem dT_sim {T : TypeId} (h : dT T) : T ≠ 71 := by
  rcases h with h | h | h <;> subst h <;> decide
theorem dT_fuse {T : TypeId} (h : dT T) : T ≠ 68 := by
  rcases h with h | h | h <;> subst h <;> decide
theorem dT_str {T : TypeId} (h : dT T) : T ≠ 9 := by
  rcases h with h | h | h <;> subst h <;> decide
theorem dT_deed {T : TypeId} (h : dT T) : T ≠ 54 := by
  rcases h with h | h | h <;> subst h <;> decide
/-- What a call of the document turns. -/
def DU (w0 w w' : World) : Prop := ∃ M : Nat → Prop, Upd M w w' ∧ ∀ k, M k → w0.heap.size ≤ k ∧ ∃ cur T, w.heap[k]? = some (.cells cur T (0, 0)) ∧ dT T
theorem mg_type {w : World} {d : Nat} {a : Option Addr} {c : Nat} {L : List Fv} {g : Option Nat} {s : St} {z : Option Fz} (h : DX w d a c L g s) (hz : Zs w g z) {k : Nat} (hk : Mg d g a k) : ∃ cur T, w.heap[k]? = some (.cells cur T (0, 0)) ∧ dT T := by
  rcases hk with hk | hk | ⟨o, hk⟩
  · subst hk; exact ⟨_, _, h.o, .inl rfl⟩
  · subst hk
    obtain ⟨cs, e⟩ := hz.type
    exact ⟨cs, _, e, .inr (.inl rfl)⟩
  · subst hk
    rcases h.l with ⟨_, ⟨e, _⟩ | ⟨g', cap, cur, e, _, hh, _⟩⟩
    · cases e
    · injection e with e1 _ _
      injection e1 with e1
      injection e1 with e1
      subst e1
      exact ⟨cur, _, hh, .inr (.inr rfl)⟩
section
variable {w0 w w' : World} {d : Nat} {g : Option Nat} {s : St} {z : Option Fz}
theorem Dx.keep (h : Dx w0 w d g s z) (k : Below w.heap.size w w') : Dx w0 w' d g s z := by
  obtain ⟨a, c, L, h1, h2⟩ := h.dx
  exact ⟨⟨a, c, L, h1.keep k, h2⟩, h.zs.keep k, h.b.trans (k.mono h.b.size), h.d0, h.g0⟩
theorem Dx.go {s' : St} {z' : Option Fz} (h : Dx w0 w d g s z) {a : Option Addr} {c : Nat} {L : List Fv} (h1 : DX w d a c L g s) (h2 : ∀ x : Addr, a = some x → w0.heap.size ≤ x.block)
    (k : ∃ a' c' L', DX w' d a' c' L' g s' ∧ Zs w' g z' ∧ Upd (Mg d g a) w w' ∧ (a' = a ∨ ∀ x, a' = some x → w.heap.size ≤ x.block) ∧ Gw w L L') : Dx w0 w' d g s' z' ∧ DU w0 w w' := by
  obtain ⟨a', c', L', k1, k2, k3, k4, _⟩ := k
  have hlo : ∀ k, Mg d g a k → w0.heap.size ≤ k := fun k hk => by
    rcases hk with hk | hk | ⟨o, hk⟩
    · subst hk; exact h.d0
    · exact h.g0 k hk
    · exact h2 _ hk
  refine ⟨⟨⟨a', c', L', k1, fun x e => ?_⟩, k2, Upd.below h.b k3 hlo h.b.size, h.d0, h.g0⟩, _, k3, fun k hk => ⟨hlo k hk, mg_type h1 h.zs hk⟩⟩
  rcases k4 with k4 | k4
  · subst k4; exact h2 x e
  · exact Nat.le_trans h.b.size (k4 x e)
theorem DU.block (u : DU w0 w w') {k : Nat} {cur : Array Value} {T : TypeId} (e : w.heap[k]? = some (.cells cur T (0, 0))) (h : ¬ dT T) : w'.heap[k]? = w.heap[k]? := by
  obtain ⟨M, u, hm⟩ := u
  refine u.block k (Array.getElem?_eq_some_iff.1 e).1 fun hk => ?_
  obtain ⟨_, cur', T', e', t⟩ := hm k hk
  rw [e] at e'
  injection e' with e'
  injection e' with _ e' _
  subst e'; exact h t
theorem DU.size (u : DU w0 w w') : w.heap.size ≤ w'.heap.size := by
  obtain ⟨M, u, _⟩ := u
  exact u.size
theorem DU.below (u : DU w0 w w') (b : Below w0.heap.size w0 w) : Below w0.heap.size w0 w' := by
  obtain ⟨M, u, hm⟩ := u
  exact Upd.below b u (fun k hk => (hm k hk).1) b.size
theorem DU.sown (u : DU w0 w w') {base : Nat} {v : Value} {L : List Sv} (h : SOwn w base v L) : SOwn w' base v L := by
  obtain ⟨M, u, hm⟩ := u
  refine sown_upd h u fun k cur e hk => ?_
  obtain ⟨_, cur', T', e', t⟩ := hm k hk
  rw [e] at e'
  injection e' with e'
  injection e' with _ e' _
  exact dT_str t e'.symm
/-- The program's disk stays as the document's turns. -/
theorem On.doc {p m : Nat} {q : Option Nat} {s1 : St} {z1 : Option Fz} (h : On w0 w p m q s1 z1) (u : DU w0 w w') : On w0 w' p m q s1 z1 := by
  obtain ⟨V, F, x⟩ := h.px
  have hb := u.below h.b
  obtain ⟨M, u, hm⟩ := u
  have hp : ¬ M p := fun k => by
    obtain ⟨_, cur, T, e, t⟩ := hm p k
    rw [x.o] at e
    injection e with e
    injection e with _ e _
    exact dT_sim t e.symm
  have hmm : ¬ M m := fun k => by
    obtain ⟨_, cur, T, e, t⟩ := hm m k
    obtain ⟨es, cl, hb, _⟩ := x.m
    rw [hb] at e
    injection e with e
    cases e
  refine ⟨⟨V, F, x.turn u (fun k e cur T t => ?_) hmm ((u.block p x.lt hp).trans x.o) rfl x.wf x.F0 x.F1⟩, h.fz.upd u (fun k e hk => ?_), hb, h.p0, h.m0, h.q0⟩
  · obtain ⟨_, cur', T', e', t'⟩ := hm k e
    rw [t] at e'
    injection e' with e'
    injection e' with _ e' _
    rw [e']; exact dT_u8 t'
  · obtain ⟨_, cur', T', e', t'⟩ := hm k hk
    have hz := h.fz
    rw [e] at hz
    obtain ⟨cs, e9⟩ := hz.type
    rw [e9] at e'
    injection e' with e'
    injection e' with _ e' _
    exact dT_fuse t' e'.symm
/-- The document's disk stays as the program's turns. -/
theorem Dx.prog {p m : Nat} {q : Option Nat} {s1 : St} {z1 : Option Fz} (h : Dx w0 w d g s z) (h1 : On w0 w p m q s1 z1) (u : Upd (Ms p m q) w w') : Dx w0 w' d g s z := by
  obtain ⟨V, F, x⟩ := h1.px
  obtain ⟨a, c, L, k1, k2⟩ := h.dx
  have ht : ∀ k, Ms p m q k → ∀ cur T, w.heap[k]? = some (.cells cur T (0, 0)) → T = 71 ∨ T = 68 := fun k e cur T t => by
    rcases e with e | e | e
    · subst e
      rw [x.o] at t
      injection t with t
      injection t with _ t _
      exact .inl t.symm
    · subst e
      obtain ⟨es, clock, hb, _⟩ := x.m
      rw [hb] at t
      injection t with t
      cases t
    · subst e
      obtain ⟨cs, hk⟩ := h1.fz.type
      rw [t] at hk
      injection hk with hk
      injection hk with _ hk _
      exact .inr hk
  refine ⟨⟨a, c, L, k1.turn u (fun k e cur T t => ?_) ?_ rfl k1.wf, k2⟩, h.zs.beside u (fun k e hk => ?_), Upd.below h.b u (fun i k => ?_) h.b.size, h.d0, h.g0⟩
  · rcases ht k e cur T t with t | t <;> subst t <;> decide
  · rw [u.block d k1.lt (fun e => ?_)]
    · exact k1.o
    · rcases ht d e _ _ k1.o with t | t <;> exact absurd t (by decide)
  · have hz := h.zs
    rw [e] at hz
    obtain ⟨cs, e9⟩ := hz.type
    rcases ht k hk _ _ e9 with t | t <;> exact absurd t (by decide)
  · rcases k with k | k | k
    · rw [k]; exact h1.p0
    · rw [k]; exact h1.m0
    · exact h1.q0 i k
theorem dx_write (h : Dx w0 w d g s z) (hb : Zb z) {x : ByteArray} (hx : x.size ≤ maxLen) {a : Option Addr} {n c : Nat} {b : ByteArray} (hi : Inp w a n c b) (hn : n ≤ maxLen) :
    Calls Try.prog 40 #[.pointer (some ⟨d, 0, none⟩), .string x, .slice a n c] w fun e w' => e = .returned (.int .i64 (wriZ z s x b).1) ∧ Dx w0 w' d g (wriZ z s x b).2 (askZ z s [x]).2.1 ∧ DU w0 w w' := by
  obtain ⟨A, C, L, k1, k2⟩ := h.dx
  refine (dwrite_any d A C L g s z x a n c b w k1 h.zs hb hx hi hn).mono ?_
  rintro e w' ⟨rfl, k⟩
  exact ⟨rfl, h.go k1 k2 k⟩
theorem dx_sync (h : Dx w0 w d g s z) (hb : Zb z) {x : ByteArray} (hx : x.size ≤ maxLen) :
    Calls Try.prog 41 #[.pointer (some ⟨d, 0, none⟩), .string x] w fun e w' => e = .returned (.int .i64 (synZ z s x).1) ∧ Dx w0 w' d g (synZ z s x).2 (askZ z s [x]).2.1 ∧ DU w0 w w' := by
  obtain ⟨A, C, L, k1, k2⟩ := h.dx
  refine (sync_any d A C L g s z x w k1 h.zs hb hx).mono ?_
  rintro e w' ⟨rfl, k⟩
  exact ⟨rfl, h.go k1 k2 k⟩
theorem dx_delete (h : Dx w0 w d g s z) (hb : Zb z) {x : ByteArray} (hx : x.size ≤ maxLen) :
    Calls Try.prog 43 #[.pointer (some ⟨d, 0, none⟩), .string x] w fun e w' => e = .returned (.int .i64 (delZ z s x).1) ∧ Dx w0 w' d g (delZ z s x).2 (askZ z s [x]).2.1 ∧ DU w0 w w' := by
  obtain ⟨A, C, L, k1, k2⟩ := h.dx
  refine (delete_any d A C L g s z x w k1 h.zs hb hx).mono ?_
  rintro e w' ⟨rfl, k⟩
  exact ⟨rfl, h.go k1 k2 k⟩
theorem dx_rename (h : Dx w0 w d g s z) (hb : Zb z) {x y : ByteArray} (hx : x.size ≤ maxLen) (hy : y.size ≤ maxLen) (hsm : x = y → there x s.fs = true → renS s.fs x y = s.fs) :
    Calls Try.prog 42 #[.pointer (some ⟨d, 0, none⟩), .string x, .string y] w fun e w' => e = .returned (.int .i64 (renZ z s x y).1) ∧ Dx w0 w' d g (renZ z s x y).2 (askZ z s [x, y]).2.1 ∧ DU w0 w w' := by
  obtain ⟨A, C, L, k1, k2⟩ := h.dx
  refine (drename_any d A C L g s z x y w k1 h.zs hb hx hy hsm).mono ?_
  rintro e w' ⟨rfl, k⟩
  exact ⟨rfl, h.go k1 k2 k⟩
theorem dx_list (h : Dx w0 w d g s z) (hb : Zb z) {x : ByteArray} (hx : x.size ≤ maxLen) :
    Calls Try.prog 44 #[.pointer (some ⟨d, 0, none⟩), .string x] w fun e w' => ∃ v M, e = .returned (.tuple #[v, .int .i64 (lisZ z s x).2]) ∧ Hid (SOwn w' w.heap.size v M ∧ (M.map fun y => y.s) = (lisZ z s x).1 ∧ Dx w0 w' d g (askZ z s []).2.2 (askZ z s []).2.1 ∧ DU w0 w w') := by
  obtain ⟨A, C, L, k1, k2⟩ := h.dx
  refine (list_any d A C L g s z x w k1 h.zs hb hx).mono ?_
  rintro e w' ⟨v, M, rfl, j1, j2, j3, j4, j5⟩
  exact ⟨v, M, rfl, j1, j2, h.go k1 k2 ⟨A, C, L, j3, j4, j5.mono fun _ _ k => Mg.of k, .inl rfl, Gw.refl _ _⟩⟩
/-- Bytes that came in stay as the document's disk is asked. -/
theorem inp_mk {p : Nat} {a : Option Addr} {c : Nat} {L : List Fv} (h : DX w p a c L g s) (hz : Zs w g z) (u : Upd (Mk p g) w w') {A : Option Addr} {n C : Nat} {b : ByteArray} (hi : Inp w A n C b) : Inp w' A n C b :=
  hi.upd u fun k o v hk => by
    rcases hk with hk | hk
    · subst hk
      intro e
      rw [cell_of_row w k o _ _ _ h.o] at e
      match o, e with
      | 0, e => simp at e
      | 1, e => simp at e
      | 2, e => simp at e
      | 3, e => simp at e
      | 4, e => simp at e
      | o + 5, e => simp at e
    · subst hk
      cases z with
      | none => exact absurd hz (by unfold Zs; exact id)
      | some y =>
        unfold Zs at hz
        intro e
        rw [cell_of_row w k o _ _ _ hz] at e
        match o, e with
        | 0, e => simp at e
        | 1, e => simp at e
        | 2, e => simp at e
        | o + 3, e => simp at e
theorem bts_inp {base : Nat} {v : Value} {x : ByteArray} (h : Bts w base v x) : ∃ a c, v = .slice a x.size c ∧ Inp w a x.size c x := by
  obtain ⟨f, h1, h2, h3⟩ := h
  rcases h2.2 with ⟨e1, e2⟩ | ⟨g, cap, cur, e1, _⟩
  · subst e1
    have e2' : x.size = 0 := e2
    have ex : x = ⟨#[]⟩ := ByteArray.ext (Array.eq_empty_of_size_eq_zero e2')
    subst ex
    exact ⟨none, 0, rfl, Inp.none w⟩
  · subst e1
    refine ⟨_, cap, rfl, ⟨⟨f, h1, ?_, h3⟩, rfl, fun e => by cases e⟩⟩
    by_cases k : 0 < x.size
    · obtain ⟨a', c', e, hr⟩ := h2.row k h1
      injection e with e1 _ e3
      rw [e1]
      exact hr.2.2.2
    · have : x.size = 0 := by omega
      rw [this]
      exact Row.zero _ _ h1
theorem dx_read (h : Dx w0 w d g s z) (hb : Zb z) {x : ByteArray} (hx : x.size ≤ maxLen) :
    Calls Try.prog 39 #[.pointer (some ⟨d, 0, none⟩), .string x] w fun e w' => ∃ a n c, e = .returned (.tuple #[.slice a n c, .int .i64 (readZ z s x).2]) ∧ Hid (Inp w' a n c (readZ z s x).1 ∧ Dx w0 w' d g (askZ z s [x]).2.2 (askZ z s [x]).2.1 ∧ DU w0 w w' ∧ ∀ A n C b, Inp w A n C b → Inp w' A n C b) := by
  obtain ⟨A, C, L, k1, k2⟩ := h.dx
  refine (read_any d A C L g s z x w k1 h.zs hb hx).mono ?_
  rintro e w' ⟨v, rfl, j1, j3, j4, j5⟩
  obtain ⟨a, c, rfl, hi⟩ := bts_inp j1
  obtain ⟨l1, l2⟩ := h.go k1 k2 ⟨A, C, L, j3, j4, j5.mono fun _ _ k => Mg.of k, .inl rfl, Gw.refl _ _⟩
  exact ⟨a, _, c, rfl, hi, l1, l2, fun A n C b hi => inp_mk k1 h.zs j5 hi⟩
end
/-- A disk of the document is made behind w0. -/
theorem dx_new (w0 w : World) (b : Below w0.heap.size w0 w) (g : Option Nat) (z : Option Fz) (hz : Zs w g z) (hg : ∀ k, g = some k → w0.heap.size ≤ k) (mo : Int) (hm0 : -9223372036854775808 ≤ mo) (hm1 : mo ≤ 9223372036854775807) :
    Calls Try.prog 25 #[.int .i64 mo, .pointer (g.map fun k => ⟨k, 0, none⟩)] w fun e w' => e = .returned (.pointer (some ⟨w.heap.size, 0, none⟩)) ∧ Dx w0 w' w.heap.size g (newSt mo) z ∧ Below w.heap.size w w' := by
  refine (newdisk_any mo g w hm0 hm1).mono ?_
  rintro e w' ⟨rfl, k1, k2⟩
  exact ⟨rfl, ⟨⟨none, 0, [], k1, fun x e => by cases e⟩, hz.keep k2, b.trans (k2.mono b.size), b.size, hg⟩, k2⟩
theorem on_same {w0 w : World} {p m : Nat} {q : Option Nat} {s : St} {z : Option Fz} (h : On w0 w p m q s z) {x y : ByteArray} (e : x = y) (t : there x s.fs = true) : renS s.fs x y = s.fs := by
  subst e
  obtain ⟨V, F, k⟩ := h.px
  rw [k.f] at t ⊢
  exact ren_same k.r t
/-- What no operation changes. -/
structure Nx (s s' : St) : Prop where
  m : s'.most = s.most
  o : s.off = false → s'.off = false
  b : s.bad = 0 → s'.bad = 0
  k : (∀ f ∈ s.fs, 1 ≤ f.path.size) → ∀ f ∈ s'.fs, 1 ≤ f.path.size
theorem Nx.refl (s : St) : Nx s s := ⟨rfl, id, id, id⟩
theorem nx_ask (z : Option Fz) (s : St) (ps : List ByteArray) : Nx s (askZ z s ps).2.2 := by
  have hD : Nx s (askD s ps).2 := by
    unfold askD
    split
    · exact Nx.refl s
    · split
      · exact ⟨rfl, id, (fun h => by rename_i k; rw [h] at k; exact absurd k (by decide)), id⟩
      · split <;> exact Nx.refl s
  cases h : blB z with
  | true => rw [(ask_blown s ps h).2.1]; exact Nx.refl s
  | false => rw [(ask_parts z s ps h).2.1]; exact hD
theorem Nx.fs {s s' : St} (h : Nx s s') (l : List Fl) (k : (∀ f ∈ s.fs, 1 ≤ f.path.size) → ∀ f ∈ l, 1 ≤ f.path.size) : Nx s { s' with fs := l } := ⟨h.m, h.o, h.b, k⟩
theorem Nx.trans {a b c : St} (h : Nx a b) (k : Nx b c) : Nx a c := ⟨k.m.trans h.m, fun e => k.o (h.o e), fun e => k.b (h.b e), fun e => k.k (h.k e)⟩
theorem ask_okp {z : Option Fz} {s : St} {ps : List ByteArray} (h : (askZ z s ps).1 = 0) : ∀ p ∈ ps, 1 ≤ p.size := by
  have hD : (askD s ps).1 = 0 → ∀ p ∈ ps, 1 ≤ p.size := fun h => by
    unfold askD at h
    split at h
    · cases h
    · split at h
      · cases h
      · split at h
        · next e =>
          intro p hp
          exact (okPath_iff.1 (List.all_eq_true.1 e p hp)).1
        · cases h
  cases hz : blB z with
  | true => rw [(ask_blown s ps hz).1] at h; cases h
  | false => rw [(ask_parts z s ps hz).1] at h; exact hD h
theorem mem_cut {l : List Fl} {i : Nat} {f : Fl} (h : f ∈ Dk.cut l i) : f ∈ l := by
  unfold Dk.cut at h
  rcases List.mem_append.1 h with k | k
  · exact List.mem_of_mem_take k
  · exact List.mem_of_mem_drop k
theorem mem_put {l : List Fl} {g f : Fl} (h : f ∈ Dk.put l g) : f = g ∨ f ∈ l := by
  unfold Dk.put at h
  split at h
  · rcases List.mem_or_eq_of_mem_set h with k | k
    · exact .inr k
    · exact .inl k
  · rcases List.mem_append.1 h with k | k
    · exact .inr (List.mem_of_mem_take k)
    · rcases List.mem_cons.1 k with k | k
      · exact .inl k
      · exact .inr (List.mem_of_mem_drop k)
theorem mem_sure {f : Fl} : ∀ {l : List Fl} {i : Nat}, f ∈ setSure l i → ∃ f' ∈ l, f.path = f'.path
  | [], i, h => by unfold setSure at h; simp at h
  | x :: l, 0, h => by
    unfold setSure at h
    rw [List.modify_zero_cons] at h
    rcases List.mem_cons.1 h with k | k
    · exact ⟨x, List.mem_cons_self, by rw [k]⟩
    · exact ⟨f, List.mem_cons_of_mem _ k, rfl⟩
  | x :: l, i + 1, h => by
    unfold setSure at h
    rw [List.modify_succ_cons] at h
    rcases List.mem_cons.1 h with k | k
    · exact ⟨x, List.mem_cons_self, by rw [k]⟩
    · obtain ⟨f', h1, h2⟩ := mem_sure (l := l) (i := i) k
      exact ⟨f', List.mem_cons_of_mem _ h1, h2⟩
theorem nx_wri (z : Option Fz) (s : St) (x b : ByteArray) : Nx s (wriZ z s x b).2 := by
  unfold wriZ
  split
  · exact nx_ask z s [x]
  · next e =>
    split
    · exact nx_ask z s [x]
    · split
      · exact nx_ask z s [x]
      · refine (nx_ask z s [x]).fs _ fun h f hf => ?_
        rcases mem_put hf with k | k
        · subst k; exact ask_okp (by simpa using e) x (by simp)
        · exact h f k
theorem nx_syn (z : Option Fz) (s : St) (x : ByteArray) : Nx s (synZ z s x).2 := by
  unfold synZ
  split
  · exact nx_ask z s [x]
  · split
    · refine (nx_ask z s [x]).fs _ fun h f hf => ?_
      obtain ⟨f', h1, h2⟩ := mem_sure hf
      rw [h2]; exact h f' h1
    · exact nx_ask z s [x]
theorem nx_del (z : Option Fz) (s : St) (x : ByteArray) : Nx s (delZ z s x).2 := by
  unfold delZ
  split
  · exact nx_ask z s [x]
  · split
    · exact (nx_ask z s [x]).fs _ fun h f hf => h f (mem_cut hf)
    · exact nx_ask z s [x]
theorem nx_ren (z : Option Fz) (s : St) (x y : ByteArray) : Nx s (renZ z s x y).2 := by
  unfold renZ
  split
  · exact nx_ask z s [x, y]
  · next e =>
    split
    · refine (nx_ask z s [x, y]).fs _ fun h f hf => ?_
      unfold renS at hf
      rcases mem_put hf with k | k
      · subst k; exact ask_okp (ps := [x, y]) (by simpa using e) y (by simp)
      · exact h f (mem_cut k)
    · exact nx_ask z s [x, y]
end Go.Proofs.Ythkhkijdehbbmaa
