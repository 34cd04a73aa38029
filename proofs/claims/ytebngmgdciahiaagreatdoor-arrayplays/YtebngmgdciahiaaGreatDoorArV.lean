/-
  Rows of one-cell values that are appended to; worlds in which nothing but blocks of one kind has turned.
-/
import Derived.Test.YtebngmgdciahiaaGreatDoorArK
set_option maxRecDepth 100000
namespace Go.Proofs.YtebngmgdciahiaaGreatDoor
open Go.RowKit
open _root_.Go.Proofs.YtebngmgdciahiaaGreatDoor.Nm _root_.Go.Proofs.YtebngmgdciahiaaGreatDoor.Dk
attribute [local go_sem ↓] Go.wp_at_zero Go.wp_at_succ
set_option linter.unusedVariables false

/-- A row of one's own of values of one cell each. -/
def VOwn (E : TypeId) (w : World) (base : Nat) (v : Value) (L : List Value) : Prop := w.ownsRow base E 1 v L.length L
theorem VOwn.start (E : TypeId) (w : World) (base : Nat) : VOwn E w base (.slice none 0 0) [] := ⟨rfl, .inl ⟨rfl, rfl⟩⟩
theorem VOwn.keep {E : TypeId} {w w' : World} {base : Nat} {v : Value} {L : List Value} (h : VOwn E w base v L) (hb : Below w.heap.size w w') : VOwn E w' base v L := by
  rcases h with ⟨hl, e | ⟨g, cap, cur, e, hg, hh, hr⟩⟩
  · exact ⟨hl, .inl e⟩
  · refine ⟨hl, .inr ⟨g, cap, cur, e, hg, ?_, hr⟩⟩
    have hlt : g < w.heap.size := (Array.getElem?_eq_some_iff.1 hh).1
    rw [hb.block g hlt]; exact hh
theorem VOwn.mono {E : TypeId} {w : World} {b b' : Nat} {v : Value} {L : List Value} (h : VOwn E w b v L) (hb : b' ≤ b) : VOwn E w b' v L := by
  rcases h with ⟨hl, e | ⟨g, cap, cur, e, hg, hh, hr⟩⟩
  · exact ⟨hl, .inl e⟩
  · exact ⟨hl, .inr ⟨g, cap, cur, e, by omega, hh, hr⟩⟩
theorem VOwn.lit {E : TypeId} (w : World) (L : List Value) (hl : L.length ≤ maxLen) : VOwn E (w.alloc (.cells L.toArray E)) w.heap.size (.slice (some ⟨w.heap.size, 0, none⟩) L.length L.length) L := by
  have := World.ownsRow_lit (e := E) (size := 1) (base := w.heap.size) w L.toArray L.length (Nat.le_refl _) hl (by simp)
  exact this
/-- What it is as a slice. -/
theorem VOwn.row {E : TypeId} {w : World} {base : Nat} {v : Value} {L : List Value} (h : VOwn E w base v L) :
    (v = .slice none 0 0 ∧ L = []) ∨ ∃ g c cur, v = .slice (some ⟨g, 0, none⟩) L.length c ∧ base ≤ g ∧ w.heap[g]? = some (.cells cur E (0, 0)) ∧ (∀ i, i < L.length → cur[i]? = L[i]?) ∧ L.length ≤ c ∧ c ≤ maxLen := by
  rcases h.2 with ⟨e, e0⟩ | ⟨g, cap, cur, e, hg, hh, hnc, hm, hsz, ht⟩
  · exact .inl ⟨e, List.length_eq_zero_iff.1 e0⟩
  · refine .inr ⟨g, cap, cur, e, hg, hh, fun i hi => ?_, hnc, hm⟩
    rw [← ht, List.getElem?_take, if_pos (by omega), Array.getElem?_toList]
theorem VOwn.form {E : TypeId} {w : World} {base : Nat} {v : Value} {L : List Value} (h : VOwn E w base v L) : ∃ a c, v = .slice a L.length c := by
  rcases h.row with ⟨e, e2⟩ | ⟨g, c, cur, e, _⟩
  · subst e2; exact ⟨none, 0, e⟩
  · exact ⟨_, _, e⟩
/-- Nothing has turned but blocks of the kind T0 behind B, and what is new. -/
def Ud (B : Nat) (T0 : TypeId) (w w' : World) : Prop := ∃ M : Nat → Prop, Upd M w w' ∧ ∀ k, M k → B ≤ k ∧ ∃ cur, w.heap[k]? = some (.cells cur T0 (0, 0))
theorem Ud.of {B : Nat} {T0 : TypeId} {w w' : World} (h : Below w.heap.size w w') : Ud B T0 w w' := ⟨fun _ => False, Upd.of h, fun _ k => k.elim⟩
theorem Ud.size {B : Nat} {T0 : TypeId} {w w' : World} (h : Ud B T0 w w') : w.heap.size ≤ w'.heap.size := by
  obtain ⟨M, u, _⟩ := h
  exact u.size
theorem Ud.no {B : Nat} {T0 : TypeId} {w : World} {M : Nat → Prop} (h : ∀ k, M k → B ≤ k ∧ ∃ cur, w.heap[k]? = some (.cells cur T0 (0, 0))) {k : Nat} {cur : Array Value} {T : TypeId} {zz : Nat × Nat} (e : w.heap[k]? = some (.cells cur T zz)) (ht : T ≠ T0) : ¬ M k := fun hk => by
  obtain ⟨_, cur', e'⟩ := h k hk
  rw [e] at e'
  injection e' with e'
  injection e' with _ e' _
  exact ht e'
theorem Ud.block {B : Nat} {T0 : TypeId} {w w' : World} (h : Ud B T0 w w') {k : Nat} {cur : Array Value} {T : TypeId} {zz : Nat × Nat} (e : w.heap[k]? = some (.cells cur T zz)) (ht : T ≠ T0) : w'.heap[k]? = some (.cells cur T zz) := by
  obtain ⟨M, u, hm⟩ := h
  exact (u.block k (Array.getElem?_eq_some_iff.1 e).1 (Ud.no hm e ht)).trans e
theorem Ud.below {T0 : TypeId} {w0 w w' : World} (h : Ud w0.heap.size T0 w w') (b : Below w0.heap.size w0 w) : Below w0.heap.size w0 w' := by
  obtain ⟨M, u, hm⟩ := h
  exact Upd.below b u (fun k hk => (hm k hk).1) b.size
theorem Ud.vown {B : Nat} {T0 E : TypeId} {w w' : World} (u : Ud B T0 w w') {base : Nat} {v : Value} {L : List Value} (h : VOwn E w base v L) (ht : E ≠ T0) : VOwn E w' base v L := by
  obtain ⟨M, u, hm⟩ := u
  exact own_upd h u fun g cur e => Ud.no hm e ht
theorem Ud.px {B : Nat} {T0 : TypeId} {w w' : World} (u : Ud B T0 w w') {p m : Nat} {V : List Fv} {q : Option Nat} {s : St} {F : Int} (h : PX w p m V q s F) (ht : kT T0) : PX w' p m V q s F := by
  obtain ⟨M, u, hm⟩ := u
  refine h.turn u (fun k e cur T t => ?_) (fun e => ?_) ((u.block p h.lt (Ud.no hm h.o (Ne.symm ht.1))).trans h.o) rfl h.wf h.F0 h.F1
  · obtain ⟨_, cur', e'⟩ := hm k e
    rw [t] at e'
    injection e' with e'
    injection e' with _ e' _
    rw [e']; exact ht.2.2.2.2.2
  · obtain ⟨_, cur', e'⟩ := hm m e
    obtain ⟨es, cl, hb, _⟩ := h.m
    rw [hb] at e'
    injection e' with e'
    cases e'
theorem Ud.dx {B : Nat} {T0 : TypeId} {w w' : World} (u : Ud B T0 w w') {p : Nat} {a : Option Addr} {c : Nat} {L : List Fv} {q : Option Nat} {s : St} (h : DX w p a c L q s) (ht : kT T0) : DX w' p a c L q s := by
  obtain ⟨M, u, hm⟩ := u
  refine h.turn u (fun k e cur T t => ?_) ((u.block p h.lt (Ud.no hm h.o (Ne.symm ht.2.2.1))).trans h.o) rfl h.wf
  obtain ⟨_, cur', e'⟩ := hm k e
  rw [t] at e'
  injection e' with e'
  injection e' with _ e' _
  rw [e']; exact ⟨ht.2.2.2.2.1, ht.2.2.2.2.2⟩
theorem Ud.fz {B : Nat} {T0 : TypeId} {w w' : World} (u : Ud B T0 w w') {q : Option Nat} {z : Option Fz} (h : FZ w q z) (ht : kT T0) : FZ w' q z := by
  obtain ⟨M, u, hm⟩ := u
  refine h.upd u fun k e => ?_
  rw [e] at h
  obtain ⟨cs, e9⟩ := h.type
  exact Ud.no hm e9 (Ne.symm ht.2.1)
theorem Ud.zs {B : Nat} {T0 : TypeId} {w w' : World} (u : Ud B T0 w w') {q : Option Nat} {z : Option Fz} (h : Zs w q z) (ht : kT T0) : Zs w' q z := by
  obtain ⟨M, u, hm⟩ := u
  refine h.beside u fun k e => ?_
  rw [e] at h
  obtain ⟨cs, e9⟩ := h.type
  exact Ud.no hm e9 (Ne.symm ht.2.2.2.1)
theorem Ar.kb {w0 w : World} {R : Rg} {q g : Option Nat} {S T : Nat → St} {z z2 : Option Fz} (h : Ar w0 w R q g S T z z2) (k : Nat) (o : Obj) (e : R.K k = some o) : k < w.heap.size := (Array.getElem?_eq_some_iff.1 (h.kp k o e).1).1
theorem Ud.lo {B B' : Nat} {T0 : TypeId} {w w' : World} (u : Ud B T0 w w') (h : B' ≤ B) : Ud B' T0 w w' := by
  obtain ⟨M, u, hm⟩ := u
  exact ⟨M, u, fun k hk => ⟨Nat.le_trans h (hm k hk).1, (hm k hk).2⟩⟩
theorem Ud.ar {B : Nat} {T0 : TypeId} {w0 w w' : World} (u : Ud B T0 w w') (hB : w0.heap.size ≤ B) {R : Rg} {q g : Option Nat} {S T : Nat → St} {z z2 : Option Fz} (h : Ar w0 w R q g S T z z2) (ht : kT T0) (hK : ∀ k o, R.K k = some o → k < B) : Ar w0 w' R q g S T z z2 := by
  obtain ⟨y, hy⟩ := h.ex
  refine ⟨u.fz h.fz ht, u.zs h.zs ht, (u.lo hB).below h.b, h.q0, h.g0, fun k o e => ?_, y, fun i hi => ?_, hy.sp, hy.vl, hy.vk⟩
  · obtain ⟨k1, k2⟩ := h.kp k o e
    refine ⟨?_, k2⟩
    obtain ⟨M, u, hm⟩ := u
    refine (u.block k (Array.getElem?_eq_some_iff.1 k1).1 fun hk => ?_).trans k1
    have h1 := (hm k hk).1
    have h2 := hK k o e
    omega
  · have hA := hy.al i hi
    exact ⟨u.px hA.px ht, u.dx hA.dx ht, hA.p0, hA.m0, hA.d0, hA.a0, hA.b0⟩
theorem VOwn.kd {E : TypeId} {w w' : World} {base : Nat} {v : Value} {L : List Value} (h : VOwn E w base v L) (k : Kd w w') (ht : kT E) : VOwn E w' base v L := by
  rcases h with ⟨hl, e | ⟨g, cap, cur, e, hg, hh, hr⟩⟩
  · exact ⟨hl, .inl e⟩
  · exact ⟨hl, .inr ⟨g, cap, cur, e, hg, (k.2 g cur E hh ht).trans hh, hr⟩⟩
theorem Ud.kd {B : Nat} {T0 : TypeId} {w w' : World} (u : Ud B T0 w w') {k : Nat} {cur : Array Value} {T : TypeId} {zz : Nat × Nat} (e : w.heap[k]? = some (.cells cur T zz)) (hk : k < B) : w'.heap[k]? = some (.cells cur T zz) := by
  obtain ⟨M, u, hm⟩ := u
  exact (u.block k (Array.getElem?_eq_some_iff.1 e).1 fun h => by have := (hm k h).1; omega).trans e
theorem Kd.ud {a b c : World} {T0 : TypeId} (h : Kd a b) (u : Ud a.heap.size T0 b c) : Kd a c := ⟨Nat.le_trans h.1 u.size, fun k cur T e t => (u.kd ((h.2 k cur T e t).trans e) (Array.getElem?_eq_some_iff.1 e).1).trans e.symm⟩
theorem Ud.trans {B : Nat} {T0 : TypeId} {a b c : World} (h : Ud B T0 a b) (k : Below b.heap.size b c) : Ud B T0 a c := by
  obtain ⟨M, u, hm⟩ := h
  exact ⟨M, u.after k, hm⟩
/-- A cell of such a block is written. -/
theorem Ud.put {B : Nat} {T0 : TypeId} {w : World} {k i : Nat} {cur : Array Value} (h : w.heap[k]? = some (.cells cur T0 (0, 0))) (hB : B ≤ k) (v : Value) : Ud B T0 w (w.setCell ⟨k, i, none⟩ v) :=
  ⟨fun j => j = k, Upd.put (M := fun j => j = k) (Upd.refl _ w) (p := ⟨k, i, none⟩) (.inl rfl) _, fun j hj => by rw [hj]; exact ⟨hB, cur, h⟩⟩
/-- One value more behind such a row. -/
theorem append1 {S E : TypeId} {zv : Value} {by8 : Nat} (hS : Tryz.prog.underlying S = some (.slice E)) (hI : (Tryz.prog.info? E).map (fun i => (i.zero, i.size, i.bytes)) = some (some zv, 1, by8)) (hz : zv.cells.size = 1) (h8 : by8 ≤ 16)
    {w : World} {base : Nat} {v : Value} {L : List Value} (h : VOwn E w base v L) (x : Value) (hx : x.oneCell' = true) (hl : L.length ≤ 1000) (hb : base ≤ w.heap.size) :
    ∃ v' W, Sem.run Tryz.prog (Builtin.append_ #[S, S] S #[v, .slice (some ⟨w.heap.size, 0, none⟩) 1 1]) (w.alloc (.cells #[x] E)) = .ok v' W ∧ VOwn E W base v' (L ++ [x]) ∧ Ud base E w W := by
  obtain ⟨i, hi, hzz⟩ := Option.map_eq_some_iff.1 hI
  simp only [Prod.mk.injEq] at hzz
  obtain ⟨hz0, hs, hby⟩ := hzz
  have b1 : Below w.heap.size w (w.alloc (.cells #[x] E)) := bal _ _
  have h1 := h.keep b1
  obtain ⟨v', W, hr, hown, hg, _⟩ := run_append_own (P := Tryz.prog) (w.alloc (.cells #[x] E)) base S S E i zv 1 by8 hS hi hz0 hs hby (by rw [hz]) (by omega) v L.length L h1 ⟨w.heap.size, 0, none⟩ 1 1 [x] rfl
    (fun j u hu => by
      have : j = 0 := by
        have := (List.getElem?_eq_some_iff.1 hu).1
        simp at this
        exact this
      subst this
      have hx' : x = u := by simpa using hu
      subst hx'
      show World.cell? _ ⟨w.heap.size, 0, none⟩ = _
      rw [World.cell?_alloc_new]
      rfl)
    (fun u hu => by
      rw [List.mem_singleton] at hu
      rw [hu]; exact hx) (by unfold maxLen; omega) (by
        have : (L.length + 1) * by8 ≤ 1001 * 16 := Nat.mul_le_mul (by omega) h8
        omega) (by have := b1.size; omega)
  refine ⟨v', W, hr, by unfold VOwn; rw [List.length_append]; exact hown, ?_⟩
  refine ⟨fun k => v.ownBlock = some k ∧ k < w.heap.size, ⟨hg.os.trans b1.os, hg.tape.trans b1.tape, hg.output.trans b1.output, Nat.le_trans b1.size hg.size, fun k hk hm => ?_⟩, fun k hk => ?_⟩
  · exact (hg.block k (Nat.lt_of_lt_of_le hk b1.size) fun e => hm ⟨e.symm, hk⟩).trans (b1.block k hk)
  · rcases h.2 with ⟨e, _⟩ | ⟨g, cap, cur, e, hg', hh, _⟩
    · rw [e] at hk
      exact absurd hk.1 (by simp [Value.ownBlock])
    · rw [e] at hk
      have : g = k := by
        have := hk.1
        simpa [Value.ownBlock] using this
      subst this
      exact ⟨hg', cur, hh⟩
/-- Many values behind such a row. -/
theorem appendN {S E : TypeId} {zv : Value} {by8 : Nat} (hS : Tryz.prog.underlying S = some (.slice E)) (hI : (Tryz.prog.info? E).map (fun i => (i.zero, i.size, i.bytes)) = some (some zv, 1, by8)) (hz : zv.cells.size = 1) (h8 : by8 ≤ 16)
    {w : World} {base : Nat} {v : Value} {L M : List Value} (h : VOwn E w base v L) {g c : Nat} (hM : ∀ j, j < M.length → w.cell? ⟨g, j, none⟩ = M[j]?) (hx : ∀ u ∈ M, u.oneCell' = true) (hl : L.length + M.length ≤ 2000) (hb : base ≤ w.heap.size) :
    ∃ v' W, Sem.run Tryz.prog (Builtin.append_ #[S, S] S #[v, .slice (some ⟨g, 0, none⟩) M.length c]) w = .ok v' W ∧ VOwn E W base v' (L ++ M) ∧ Ud base E w W ∧ (v ≠ .slice none 0 0 → v' ≠ .slice none 0 0) := by
  obtain ⟨i, hi, hzz⟩ := Option.map_eq_some_iff.1 hI
  simp only [Prod.mk.injEq] at hzz
  obtain ⟨hz0, hs, hby⟩ := hzz
  obtain ⟨v', W, hr, hown, hg, hnn⟩ := run_append_own (P := Tryz.prog) w base S S E i zv 1 by8 hS hi hz0 hs hby (by rw [hz]) (by omega) v L.length L h ⟨g, 0, none⟩ M.length c M (by omega)
    (fun j u hu => by
      have hj : j < M.length := (List.getElem?_eq_some_iff.1 hu).1
      have e : (⟨g, 0, none⟩ : Addr).add j = ⟨g, j, none⟩ := by rw [add_plain, Nat.zero_add]
      rw [e, hM j hj]; exact hu) hx (by unfold maxLen; omega) (by
        have : (L.length + M.length) * by8 ≤ 2000 * 16 := Nat.mul_le_mul (by omega) h8
        omega) hb
  refine ⟨v', W, hr, by unfold VOwn; rw [List.length_append]; exact hown, ?_, fun hne e => hne (hnn.1 e).1⟩
  refine ⟨fun k => v.ownBlock = some k ∧ k < w.heap.size, ⟨hg.os, hg.tape, hg.output, hg.size, fun k hk hm => hg.block k hk fun e => hm ⟨e.symm, hk⟩⟩, fun k hk => ?_⟩
  rcases h.2 with ⟨e, _⟩ | ⟨g, cap, cur, e, hg', hh, _⟩
  · rw [e] at hk
    exact absurd hk.1 (by simp [Value.ownBlock])
  · rw [e] at hk
    have : g = k := by
      have := hk.1
      simpa [Value.ownBlock] using this
    subst this
    exact ⟨hg', cur, hh⟩
/-- A disk and its twin more. -/
theorem Ar.lts {w0 w : World} {R : Rg} {q g : Option Nat} {S T : Nat → St} {z z2 : Option Fz} (h : Ar w0 w R q g S T z z2) {i : Nat} (hi : i < R.n) : (R.P i).p < w.heap.size ∧ (R.P i).m < w.heap.size ∧ (R.P i).d < w.heap.size := by
  obtain ⟨y, hy⟩ := h.ex
  have hA := hy.al i hi
  exact ⟨hA.px.lt, hA.px.m.lt, hA.dx.lt⟩
theorem Ar.add {w0 w : World} {n : Nat} {P : Nat → Pc} {K : Nat → Option Obj} {q g : Option Nat} {s s2 : St} {z z2 : Option Fz} {B : Nat} (h : Ar w0 w ⟨n, P, K⟩ q g (fun _ => s) (fun _ => s2) z z2) {p m d : Nat} {F : Int} (hB0 : w0.heap.size ≤ B) (hp : B ≤ p) (hm : B ≤ m) (hd : B ≤ d)
    (hB : ∀ i, i < n → (P i).p < B ∧ (P i).m < B ∧ (P i).d < B) (px : PX w p m [] q s F) (dx : DX w d none 0 [] g s2) : Ar w0 w ⟨n + 1, up P n ⟨p, m, d⟩, K⟩ q g (fun _ => s) (fun _ => s2) z z2 := by
  obtain ⟨y, hy⟩ := h.ex
  have hb : ∀ k, ¬ Bk ([] : List Fv) k := fun k hk => by
    obtain ⟨u, hu, _⟩ := hk
    cases hu
  refine ⟨h.fz, h.zs, h.b, h.q0, h.g0, h.kp, up y n ⟨[], F, none, 0, []⟩, fun i hi => ?_, fun i j hi hj hn => ?_, fun i j hi hj k hk hk2 => ?_, fun i hi k o e hk => ?_⟩
  · by_cases e : i = n
    · subst e
      dsimp only
      rw [up_at, up_at]
      exact ⟨px, dx, Nat.le_trans hB0 hp, Nat.le_trans hB0 hm, Nat.le_trans hB0 hd, (fun x e => (by cases e)), fun k hk => absurd hk (hb k)⟩
    · dsimp only
      rw [up_of _ _ e, up_of _ _ e]
      exact hy.al i (by have : i < n + 1 := hi; show i < n; omega)
  · by_cases e : i = n
    · subst e
      have hj' : j < i := by have : j < i + 1 := hj; omega
      dsimp only
      rw [up_at, up_at, up_of _ _ (Ne.symm hn), up_of _ _ (Ne.symm hn)]
      have := hB j hj'
      exact ⟨by show p ≠ _; omega, by show m ≠ _; omega, by show d ≠ _; omega, fun x x' e => (by cases e), fun k hk => absurd hk (hb k)⟩
    · have hi' : i < n := by have : i < n + 1 := hi; omega
      by_cases e2 : j = n
      · subst e2
        dsimp only
        rw [up_at, up_at, up_of _ _ e, up_of _ _ e]
        have := hB i hi'
        exact ⟨by show _ ≠ p; omega, by show _ ≠ m; omega, by show _ ≠ d; omega, fun x x' _ e => (by cases e), fun k _ hk => hb k hk⟩
      · dsimp only
        rw [up_of _ _ e, up_of _ _ e, up_of _ _ e2, up_of _ _ e2]
        exact hy.sp i j hi' (by have : j < n + 1 := hj; show j < n; omega) hn
  · by_cases e : i = n
    · subst e
      rw [up_at] at hk
      exact hb k hk
    · by_cases e2 : j = n
      · subst e2
        rw [up_at] at hk2
        exact hb k hk2
      · rw [up_of _ _ e] at hk
        rw [up_of _ _ e2] at hk2
        exact hy.vl i j (by have : i < n + 1 := hi; show i < n; omega) (by have : j < n + 1 := hj; show j < n; omega) k hk hk2
  · by_cases e : i = n
    · subst e
      rw [up_at] at hk
      exact hb k hk
    · rw [up_of _ _ e] at hk
      exact hy.vk i (by have : i < n + 1 := hi; show i < n; omega) k o (by assumption) hk
end Go.Proofs.YtebngmgdciahiaaGreatDoor
