/-
  The program's disk in memory: a map of files, what is used, the fuse; what a look-up, a store, a removal make of it.
-/
import Derived.Test.YthkhkijdehbbmaaSmM
import Derived.Test.YthkhkijdehbbmaaDkH
import Derived.Test.YthkhkijdehbbmaaDkI
import Derived.Test.YthkhkijdehbbmaaDkJ
import Derived.Test.YthkhkijdehbbmaaDkK
import Derived.Maps.OwnSet
import Derived.Maps.OwnOps
import Derived.Maps.RangeWalk
set_option maxRecDepth 100000
namespace Go.Proofs.Ythkhkijdehbbmaa
open Go.RowKit Dk Nm
open Go.Maps (Keyed)
attribute [local go_sem ↓] Go.wp_at_zero Go.wp_at_succ
set_option linter.unusedVariables false

theorem lawS : Keyed Try.prog 9 := Go.Maps.string_keyed Try.underlying9
theorem keyS {x : ByteArray} (h : x.size ≤ maxLen) : keyOf Try.prog 9 (.string x) = some (kl x) := Go.WideMaps.keyOf_string_mk Try.underlying9 h
/-- How an entry reads: as itself. -/
def RF (v : Value) : Option (DataW Value × List MemPlace) := match v with
  | .agg xs => match xs.toList with
    | [.slice _ _ _, .bool _] => some (.held v, [])
    | _ => none
  | _ => none
theorem RF_mk (x : Fv) : RF (vl x) = some (.held (vl x), []) := rfl
theorem RF_inv {v : Value} {y : DataW Value × List MemPlace} (h : RF v = some y) : y = (.held v, []) ∧ ∃ a n c b, v = .agg #[.slice a n c, .bool b] := by
  cases v with
  | agg xs =>
    obtain ⟨l⟩ := xs
    unfold RF at h
    dsimp only at h
    split at h
    · next a n c b =>
      cases h
      exact ⟨rfl, _, _, _, _, rfl⟩
    · cases h
  | _ => cases h
def zeroF : Fv := ⟨⟨#[]⟩, (none, 0, 0), false, ⟨#[]⟩⟩
def top (M : List Fv) : Fv := M.headD zeroF
theorem zeroEF (w : World) : (zeroValue 74).run Try.prog w = .ok (.agg #[.slice none 0 0, .bool false]) w := by kernel_rfl
theorem tight {H : Type} {P : Program} {k : TypeId} {R : Value → Option (DataW H × List MemPlace)} {w : World} {b n : Nat} {D : DataW H} (h : w.ownsMap P k R b n D) : w.ownsMap P k R b (Maps.size D) D := by
  obtain ⟨es, clock, hb, F, hs, rfl⟩ := h
  exact ⟨es, clock, hb, F, by simp [Maps.size, length_sorted], rfl⟩
theorem map_upd {M : Nat → Prop} {P : Program} {k : TypeId} {R : Value → Option (DataW Value × List MemPlace)} {w w' : World} {b n : Nat} {D : DataW Value} (h : w.ownsMap P k R b n D) (u : Upd M w w') (hm : ¬ M b) : w'.ownsMap P k R b n D := by
  have hlt := h.lt
  obtain ⟨es, clock, hb, r⟩ := h
  exact ⟨es, clock, (u.block b hlt hm).trans hb, r⟩
/-- A file's row of bytes. -/
structure PB (w : World) (x : Fv) : Prop where
  n : x.bv.2.1 = x.b.size
  c : x.b.size ≤ x.bv.2.2
  l : x.bv.2.2 ≤ maxLen
  z : x.bv.1 = none → x.bv.2.2 = 0
  r : 0 < x.b.size → ∃ f : Nat → Nat, (∀ i, f i < 256) ∧ Own w 0 (.slice x.bv.1 x.bv.2.1 x.bv.2.2) x.b.size f ∧ str f x.b.size = x.b
theorem PB.upd {M : Nat → Prop} {w w' : World} {x : Fv} (h : PB w x) (u : Upd M w w') (hm : ∀ g cur, w.heap[g]? = some (.cells cur 5 (0, 0)) → ¬ M g) : PB w' x :=
  ⟨h.n, h.c, h.l, h.z, fun k => by
    obtain ⟨f, h2, h3, h4⟩ := h.r k
    exact ⟨f, h2, own_upd h3 u hm, h4⟩⟩
theorem PB.zero (w : World) : PB w zeroF := ⟨rfl, Nat.le_refl _, (by show 0 ≤ maxLen; unfold maxLen; omega), fun _ => rfl, fun h => absurd h (by decide)⟩
theorem PB.row {w : World} {x : Fv} (h : PB w x) : ∃ f, (∀ i, f i < 256) ∧ Row w x.bv.1 x.b.size f ∧ str f x.b.size = x.b := by
  by_cases k : 0 < x.b.size
  · obtain ⟨f, h2, h3, h4⟩ := h.r k
    obtain ⟨a, c, e, hr⟩ := h3.row k h2
    injection e with e1 _ _
    refine ⟨f, h2, ?_, h4⟩
    rw [e1]; exact hr.2.2.2
  · have e : x.b.size = 0 := by omega
    rw [e]
    refine ⟨fun _ => 0, fun _ => Nat.zero_lt_succ _, Row.zero _ _ (fun _ => Nat.zero_lt_succ _), ?_⟩
    have : x.b = ⟨#[]⟩ := ByteArray.ext (Array.eq_empty_of_size_eq_zero e)
    rw [this]; rfl
/-- No two files' rows are one. -/
def Aps (x y : Fv) : Prop := 0 < x.b.size → 0 < y.b.size → x.bv.1 ≠ y.bv.1
/-- The blocks that an operation of the disk at p may write. -/
def Ms (p m : Nat) (q : Option Nat) : Nat → Prop := fun k => k = p ∨ k = m ∨ q = some k
/-- The program's disk at p: its files V in the map m, its fuse q. -/
structure PX (w : World) (p m : Nat) (V : List Fv) (q : Option Nat) (s : St) (F : Int) : Prop where
  o : w.heap[p]? = some (.cells #[.map (some m), .int .i64 ((used s.fs : Nat) : Int), .int .i64 s.most, .pointer (q.map fun k => ⟨k, 0, none⟩), .bool s.off, .int .i64 F] 71)
  m : w.ownsMap Try.prog 9 RF m V.length (DM V)
  b : ∀ x ∈ V, PB w x
  f : s.fs = V.map fl
  wf : Wf s
  r : Rise V
  d : V.Pairwise Aps
  F0 : max F 0 = s.bad
  F1 : -9223372036854775808 ≤ F ∧ F ≤ 9223372036854775807
section
variable {w : World} {p m : Nat} {V : List Fv} {q : Option Nat} {s : St} {F : Int}
theorem PX.n (h : PX w p m V q s F) : V.length ≤ 4096 := by
  have := h.wf.n
  rw [h.f, List.length_map] at this
  exact this
theorem PX.used_le (h : PX w p m V q s F) : used s.fs ≤ 1073741824 := by
  have h1 := Dk.used_le h.wf.b
  have h2 := h.wf.n
  omega
theorem PX.c0 (h : PX w p m V q s F) : w.cell? ⟨p, 0, none⟩ = some (.map (some m)) := cell_of_row w p 0 _ _ _ h.o
theorem PX.c1 (h : PX w p m V q s F) : w.cell? ⟨p, 1, none⟩ = some (.int .i64 ((used s.fs : Nat) : Int)) := cell_of_row w p 1 _ _ _ h.o
theorem PX.c2 (h : PX w p m V q s F) : w.cell? ⟨p, 2, none⟩ = some (.int .i64 s.most) := cell_of_row w p 2 _ _ _ h.o
theorem PX.c3 (h : PX w p m V q s F) : w.cell? ⟨p, 3, none⟩ = some (.pointer (q.map fun k => ⟨k, 0, none⟩)) := cell_of_row w p 3 _ _ _ h.o
theorem PX.c4 (h : PX w p m V q s F) : w.cell? ⟨p, 4, none⟩ = some (.bool s.off) := cell_of_row w p 4 _ _ _ h.o
theorem PX.c5 (h : PX w p m V q s F) : w.cell? ⟨p, 5, none⟩ = some (.int .i64 F) := cell_of_row w p 5 _ _ _ h.o
theorem PX.soft (h : PX w p m V q s F) (j : Nat) : w.frozen? ⟨p, j, none⟩ = false := frozen_of_row w p j _ _ h.o
theorem PX.lt (h : PX w p m V q s F) : p < w.heap.size := (Array.getElem?_eq_some_iff.1 h.o).1
theorem PX.ne (h : PX w p m V q s F) : p ≠ m := fun e => by
  obtain ⟨es, clock, hb, _⟩ := h.m
  rw [← e, h.o] at hb
  injection hb with hb
  cases hb
theorem PX.drewN (h : PX w p m V q s F) (n : Nat) : PX (w.drewN n) p m V q s F :=
  ⟨h.o, h.m.kept (row := none) ⟨rfl, rfl, rfl, Nat.le_refl _, fun _ _ _ => rfl⟩ (by simp), fun x hx => (h.b x hx).upd (M := fun _ => False) (Upd.of (bdn' _ _)) (fun _ _ _ k => k), h.f, h.wf, h.r, h.d, h.F0, h.F1⟩
/-- Nothing of its files has turned. -/
theorem PX.turn {M : Nat → Prop} {w' : World} {s' : St} {F' : Int} (h : PX w p m V q s F) (u : Upd M w w') (hm : ∀ k, M k → ∀ cur T, w.heap[k]? = some (.cells cur T (0, 0)) → T ≠ 5) (hmm : ¬ M m)
    (ho : w'.heap[p]? = some (.cells #[.map (some m), .int .i64 ((used s'.fs : Nat) : Int), .int .i64 s'.most, .pointer (q.map fun k => ⟨k, 0, none⟩), .bool s'.off, .int .i64 F'] 71)) (hf : s'.fs = s.fs) (hw : Wf s') (h0 : max F' 0 = s'.bad) (h1 : -9223372036854775808 ≤ F' ∧ F' ≤ 9223372036854775807) : PX w' p m V q s' F' :=
  ⟨ho, map_upd h.m u hmm, fun x hx => (h.b x hx).upd u fun g cur e k => hm g k cur _ e rfl, by rw [hf]; exact h.f, hw, h.r, h.d, h0, h1⟩
theorem PX.keep {w' : World} (h : PX w p m V q s F) (hb : Below w.heap.size w w') : PX w' p m V q s F :=
  h.turn (M := fun _ => False) (Upd.of hb) (fun _ k => k.elim) id ((hb.block p h.lt).trans h.o) rfl h.wf h.F0 h.F1
/-- A look-up. -/
theorem PX.look (h : PX w p m V q s F) {x : ByteArray} {A M B : List Fv} (P : Part V x A M B) (hx : x.size ≤ maxLen) :
    (Instr.lookup 69 (.map (some m)) (.string x) true).run Try.prog w = .ok (.tuple #[vl (top M), .bool (there x s.fs)]) w ∧ (Instr.lookup 69 (.map (some m)) (.string x) false).run Try.prog w = .ok (vl (top M)) w := by
  have hz : RF (.agg #[.slice none 0 0, .bool false]) = some (.held (vl zeroF), []) := rfl
  have hk : ∀ v ps, RF v = some ((DM V).atKey (kl x) (.held (vl zeroF)), ps) → v = vl (top M) := fun v ps hv => by
    have e := (RF_inv hv).1
    injection e with e _
    rw [P.atKey] at e
    cases M with
    | nil => injection e with e; exact e.symm
    | cons f M => injection e with e; exact e.symm
  constructor
  · obtain ⟨v, ps, hr, hv⟩ := h.m.look_ok lawS Try.underlying69 (zeroEF w) hz (keyS hx)
    rw [hr, hk v ps hv, P.has, ← h.f]
  · obtain ⟨v, ps, hr, hv⟩ := h.m.lookup lawS Try.underlying69 (zeroEF w) hz (keyS hx)
    rw [hr, hk v ps hv]
theorem PX.len (h : PX w p m V q s F) (ty : TypeId) : (Builtin.len_ #[69] ty #[.map (some m)]).run Try.prog w = .ok (.int .i64 (V.length : Int)) w := by
  have := h.m.len Try.underlying69 ty
  rw [dm_size] at this
  exact this
theorem top_mem {x : ByteArray} {A M B : List Fv} (P : Part V x A M B) (ht : there x (V.map fl) = true) : M = [top M] ∧ top M ∈ V ∧ (top M).path = x := by
  rcases P.m with ⟨t, _⟩ | ⟨_, f, e, hf⟩
  · rw [ht] at t; cases t
  · subst e
    refine ⟨rfl, ?_, hf⟩
    rw [P.v]; simp [top]
theorem top_none {x : ByteArray} {A M B : List Fv} (P : Part V x A M B) (ht : there x (V.map fl) = false) : M = [] := by
  rcases P.m with ⟨_, e⟩ | ⟨t, _⟩
  · exact e
  · rw [ht] at t; cases t
theorem PX.topB (h : PX w p m V q s F) {x : ByteArray} {A M B : List Fv} (P : Part V x A M B) : PB w (top M) := by
  rcases P.m with ⟨_, e⟩ | ⟨_, f, e, hf⟩
  · subst e; exact PB.zero w
  · subst e
    refine h.b f ?_
    rw [P.v]; simp
theorem PX.topS (h : PX w p m V q s F) {x : ByteArray} {A M B : List Fv} (P : Part V x A M B) : (top M).b.size ≤ 262144 := by
  rcases P.m with ⟨_, e⟩ | ⟨_, f, e, hf⟩
  · subst e; exact Nat.zero_le _
  · subst e
    refine h.wf.b (fl f) ?_
    rw [h.f, P.v]; simp
end
/-- The fuse, if there is one. -/
def FZ (w : World) (q : Option Nat) (z : Option Fz) : Prop := match q, z with
  | none, none => True
  | some k, some z => w.heap[k]? = some (.cells #[.int .i64 z.n, .int .i64 z.done] 68) ∧ z.blown = decide (0 < z.n ∧ z.n ≤ z.done)
  | _, _ => False
end Go.Proofs.Ythkhkijdehbbmaa
