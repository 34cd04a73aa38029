/-
  Texts of earlier stages, one behind the other: SmM, SmA, SmB, SmC, SmD, SmE, SmF.
-/
import Derived.Test.YtebngmgdciahiaaGreatDoorG1
import Derived.Maps.Ext
import Derived.Test.YtebngmgdciahiaaGreatDoorG2
import Derived.Maps.OwnSet
import Derived.Maps.OwnOps
import Derived.Maps.RangeWalk
set_option maxRecDepth 100000
namespace Go.Proofs.YtebngmgdciahiaaGreatDoor
open Dk Nm

/-- The rows' files rise. -/
def Rise (V : List Fv) : Prop := V.Pairwise fun x y => ls (tx x.path) (tx y.path) = true
/-- A file as the map's entry. -/
def vl (x : Fv) : Value := .agg #[.slice x.bv.1 x.bv.2.1 x.bv.2.2, .bool x.sure]
def kl (p : ByteArray) : Lit := .string (tx p)
def en (x : Fv) : Lit × DataW Value := (kl x.path, .held (vl x))
def DM (V : List Fv) : DataW Value := .map (V.map en)

theorem before_ls (a : List UInt8) : ∀ b, bytesBefore a b = ls a b := by
  induction a with
  | nil => intro b; cases b <;> rfl
  | cons x a ih =>
    intro b
    cases b with
    | nil => rfl
    | cons y b =>
      rw [ls_cons, ← ih]
      show (decide (x < y) || (x == y && bytesBefore a b)) = _
      by_cases h : x = y
      · subst h
        have : decide (x < x) = false := decide_eq_false (by show ¬ x.toNat < x.toNat; omega)
        rw [this, if_pos rfl]
        simp
      · have h1 : (x == y) = false := by simpa using h
        rw [h1, if_neg h]
        show (decide (x < y) || (false && _)) = _
        rw [Bool.false_and, Bool.or_false]
        rfl
theorem kl_before (a b : ByteArray) : (kl a).before (kl b) = ls (tx a) (tx b) := before_ls _ _
theorem kl_same (a b : ByteArray) : (kl a).sameKey (kl b) = decide (a = b) := by
  show (tx a == tx b) = _
  by_cases h : a = b
  · subst h; simp
  · rw [decide_eq_false h]
    exact beq_eq_false_iff_ne.2 fun e => h (tx_inj e)
theorem kl_key (a : ByteArray) : WideAt.IsKeyLit (kl a) := trivial

/-- Where a path parts the row. -/
structure Part (V : List Fv) (p : ByteArray) (A M B : List Fv) : Prop where
  v : V = A ++ M ++ B
  a : ∀ x ∈ A, ls (tx x.path) (tx p) = true
  b : ∀ x ∈ B, ls (tx p) (tx x.path) = true
  l : A.length = place p (V.map fl)
  m : (there p (V.map fl) = false ∧ M = []) ∨ (there p (V.map fl) = true ∧ ∃ f, M = [f] ∧ f.path = p)
theorem part_at {V : List Fv} (hr : Rise V) (p : ByteArray) : ∃ A M B, Part V p A M B := by
  obtain ⟨k, hk⟩ : ∃ k, place p (V.map fl) = k := ⟨_, rfl⟩
  have hl : k ≤ V.length := by have := place_le p (V.map fl); rw [hk, List.length_map] at this; exact this
  have ha : ∀ x ∈ V.take k, ls (tx x.path) (tx p) = true := by
    intro x hx
    obtain ⟨i, hi, e⟩ := List.getElem_of_mem hx
    rw [List.length_take] at hi
    have h1 := place_before p (V.map fl) i (by rw [hk]; omega)
    rw [List.getElem_map] at h1
    rw [List.getElem_take] at e
    rw [← e]; exact h1
  have hlen : (V.take k).length = k := by rw [List.length_take]; omega
  by_cases h : k < V.length
  · have h2 := place_at p (V.map fl) (by rw [hk, List.length_map]; exact h)
    simp only [hk, List.getElem_map] at h2
    have hd : V.drop k = V[k] :: V.drop (k + 1) := List.drop_eq_getElem_cons h
    have hr2 := hr
    unfold Rise at hr2
    rw [← List.take_append_drop k V, hd] at hr2
    have hb2 := (List.pairwise_cons.1 (List.pairwise_append.1 hr2).2.1).1
    have ht : there p (V.map fl) = decide (V[k].path = p) := by
      unfold there
      rw [hk, List.getElem?_map, List.getElem?_eq_getElem h]
      rfl
    by_cases e : V[k].path = p
    · refine ⟨V.take k, [V[k]], V.drop (k + 1), ?_, ha, ?_, by rw [hlen, hk], .inr ⟨by rw [ht]; exact decide_eq_true e, V[k], rfl, e⟩⟩
      · rw [List.append_assoc, List.singleton_append, ← hd, List.take_append_drop]
      · intro x hx
        have := hb2 x hx
        rw [e] at this; exact this
    · have hpk : ls (tx p) (tx V[k].path) = true := by
        cases q : ls (tx p) (tx V[k].path) with
        | true => rfl
        | false => exact absurd (tx_inj (ls_none _ _ h2 q)) e
      refine ⟨V.take k, [], V.drop k, ?_, ha, ?_, by rw [hlen, hk], .inl ⟨by rw [ht]; exact decide_eq_false e, rfl⟩⟩
      · rw [List.append_nil, List.take_append_drop]
      · intro x hx
        rw [hd] at hx
        rcases List.mem_cons.1 hx with rfl | hx
        · exact hpk
        · exact ls_trans _ _ _ hpk (hb2 x hx)
  · have hk2 : k = V.length := by omega
    refine ⟨V, [], [], by simp, ?_, fun x hx => absurd hx (List.not_mem_nil), by rw [← hk2, hk], .inl ⟨?_, rfl⟩⟩
    · rw [hk2, List.take_length] at ha; exact ha
    · unfold there
      rw [hk, List.getElem?_eq_none (by rw [List.length_map]; omega)]

section
variable {V A M B : List Fv} {p : ByteArray}
theorem Part.na (h : Part V p A M B) : ∀ x ∈ A, x.path ≠ p := fun x hx e => by
  have := h.a x hx
  rw [e, ls_same] at this; cases this
theorem Part.nb (h : Part V p A M B) : ∀ x ∈ B, x.path ≠ p := fun x hx e => by
  have := h.b x hx
  rw [e, ls_same] at this; cases this
theorem Part.mp (h : Part V p A M B) : ∀ x ∈ M, x.path = p := fun x hx => by
  rcases h.m with ⟨_, e⟩ | ⟨_, f, e, hf⟩
  · subst e; cases hx
  · subst e; rw [List.mem_singleton] at hx; subst hx; exact hf
theorem filter_same (A : List Fv) (h : ∀ x ∈ A, x.path ≠ p) : (A.map en).filter (fun e => !e.1.sameKey (kl p)) = A.map en := by
  refine List.filter_eq_self.2 fun e he => ?_
  obtain ⟨x, hx, rfl⟩ := List.mem_map.1 he
  show (!(kl x.path).sameKey (kl p)) = true
  rw [kl_same, decide_eq_false (h x hx)]; rfl
theorem filter_none (M : List Fv) (h : ∀ x ∈ M, x.path = p) : (M.map en).filter (fun e => !e.1.sameKey (kl p)) = [] := by
  refine List.filter_eq_nil_iff.2 fun e he => ?_
  obtain ⟨x, hx, rfl⟩ := List.mem_map.1 he
  show ¬ (!(kl x.path).sameKey (kl p)) = true
  rw [kl_same, decide_eq_true (h x hx)]; decide
theorem Part.strike (h : Part V p A M B) : (V.map en).filter (fun e => !e.1.sameKey (kl p)) = (A ++ B).map en := by
  rw [h.v, List.map_append, List.map_append, List.filter_append, List.filter_append, filter_same A h.na, filter_none M h.mp, filter_same B h.nb, List.append_nil, List.map_append]
theorem insert_parts {f : Fv} (ha : ∀ x ∈ A, ls (tx x.path) (tx f.path) = true) (hb : ∀ x ∈ B, ls (tx f.path) (tx x.path) = true) : DataW.insert (en f) ((A ++ B).map en) = (A ++ f :: B).map en := by
  induction A with
  | nil =>
    cases B with
    | nil => rfl
    | cons y B =>
      show (if (kl f.path).before (kl y.path) then _ else _) = _
      rw [kl_before, hb y (List.mem_cons_self ..)]
      rfl
  | cons x A ih =>
    show (if (kl f.path).before (kl x.path) then _ else _) = _
    rw [kl_before, ls_both _ _ (ha x (List.mem_cons_self ..))]
    show en x :: DataW.insert (en f) ((A ++ B).map en) = _
    rw [ih fun y hy => ha y (List.mem_cons_of_mem _ hy)]
    rfl
/-- A store. -/
theorem Part.put (h : Part V p A M B) {f : Fv} (hf : f.path = p) : (DM V).put (kl p) (.held (vl f)) = DM (A ++ f :: B) := by
  show DataW.map (DataW.insert (kl p, .held (vl f)) ((V.map en).filter fun e => !e.1.sameKey (kl p))) = _
  rw [h.strike]
  have : ((kl p, DataW.held (vl f)) : Lit × DataW Value) = en f := by unfold en; rw [hf]
  rw [this, insert_parts (by rw [hf]; exact h.a) (by rw [hf]; exact h.b)]
  rfl
theorem Part.del (h : Part V p A M B) : (DM V).del (kl p) = DM (A ++ B) := by
  show DataW.map ((V.map en).filter fun e => !e.1.sameKey (kl p)) = _
  rw [h.strike]
  rfl
theorem find_none (A : List Fv) (h : ∀ x ∈ A, x.path ≠ p) : (A.map en).find? (fun e => e.1.sameKey (kl p)) = none := by
  refine List.find?_eq_none.2 fun e he => ?_
  obtain ⟨x, hx, rfl⟩ := List.mem_map.1 he
  show ¬ (kl x.path).sameKey (kl p) = true
  rw [kl_same, decide_eq_false (h x hx)]; decide
theorem Part.atKey (h : Part V p A M B) (z : DataW Value) : (DM V).atKey (kl p) z = (M.head?.map fun f => DataW.held (vl f)).getD z := by
  have hfd : (V.map en).find? (fun e => e.1.sameKey (kl p)) = M.head?.map en := by
    rw [h.v, List.map_append, List.map_append, List.find?_append, List.find?_append, find_none A h.na, find_none B h.nb]
    rcases h.m with ⟨_, e⟩ | ⟨_, f, e, hf⟩
    · subst e; rfl
    · subst e
      have : ([f].map en).find? (fun e => e.1.sameKey (kl p)) = some (en f) := by
        rw [List.map_singleton, List.find?_singleton]
        show (if (kl f.path).sameKey (kl p) = true then _ else _) = _
        rw [kl_same, if_pos (decide_eq_true hf)]
      rw [this]
      rfl
  unfold DM DataW.atKey
  dsimp only
  rw [hfd]
  cases M <;> rfl
theorem Part.has (h : Part V p A M B) : Maps.has (DM V) (kl p) = there p (V.map fl) := by
  show (V.map en).any (fun e => e.1.sameKey (kl p)) = _
  have any_no : ∀ A : List Fv, (∀ x ∈ A, x.path ≠ p) → (A.map en).any (fun e => e.1.sameKey (kl p)) = false := fun A h => by
    rw [List.any_eq_false]
    intro e he
    obtain ⟨x, hx, rfl⟩ := List.mem_map.1 he
    show ¬ (kl x.path).sameKey (kl p) = true
    rw [kl_same, decide_eq_false (h x hx)]; decide
  rw [h.v, List.map_append, List.map_append, List.any_append, List.any_append, any_no A h.na, any_no B h.nb, ← h.v]
  rcases h.m with ⟨t, e⟩ | ⟨t, f, e, hf⟩
  · subst e; rw [t]; rfl
  · subst e; rw [t]
    show (false || (((kl f.path).sameKey (kl p) || false)) || false) = true
    rw [kl_same, decide_eq_true hf]; rfl
theorem dm_size (V : List Fv) : Maps.size (DM V) = V.length := by show (V.map en).length = _; rw [List.length_map]
/-- In the document's words. -/
theorem Part.cut (h : Part V p A M B) (t : there p (V.map fl) = true) : Dk.cut (V.map fl) (place p (V.map fl)) = (A ++ B).map fl := by
  rcases h.m with ⟨t', _⟩ | ⟨_, f, e, hf⟩
  · rw [t] at t'; cases t'
  · subst e
    rw [← h.l, h.v]
    unfold Dk.cut
    rw [← List.map_take, ← List.map_drop, ← List.map_append]
    congr 1
    rw [List.append_assoc, List.take_left, List.singleton_append]
    congr 1
    rw [show A.length + 1 = A.length + 1 from rfl, List.drop_append]
    simp
theorem Part.putD (h : Part V p A M B) {f : Fv} (hf : f.path = p) : Dk.put (V.map fl) (fl f) = (A ++ f :: B).map fl := by
  unfold Dk.put
  have e0 : (fl f).path = p := hf
  rw [e0, ← h.l]
  rcases h.m with ⟨t, e⟩ | ⟨t, g, e, hg⟩
  · subst e
    rw [t, if_neg (by decide), h.v, List.append_nil, ← List.map_take, ← List.map_drop, List.take_left, List.drop_left, List.map_append]
    rfl
  · subst e
    rw [t, if_pos rfl, h.v]
    simp
theorem Part.used (h : Part V p A M B) : used (V.map fl) = used ((A ++ B).map fl) + used (M.map fl) := by
  rw [h.v, used_map, used_map, used_map]
  simp only [List.map_append, List.sum_append]
  omega
theorem used_mid (f : Fv) : used ((A ++ f :: B).map fl) = used ((A ++ B).map fl) + f.b.size := by
  rw [used_map, used_map]
  simp only [List.map_append, List.sum_append, List.map_cons, List.sum_cons]
  omega
theorem Part.riseP (h : Part V p A M B) (hr : Rise V) {f : Fv} (hf : f.path = p) : Rise (A ++ f :: B) := by
  unfold Rise at *
  rw [h.v] at hr
  obtain ⟨h1, h2, h3⟩ := List.pairwise_append.1 hr
  obtain ⟨h4, h5, h6⟩ := List.pairwise_append.1 h1
  refine List.pairwise_append.2 ⟨h4, List.pairwise_cons.2 ⟨fun y hy => by rw [hf]; exact h.b y hy, h2⟩, fun x hx y hy => ?_⟩
  rcases List.mem_cons.1 hy with rfl | hy
  · rw [hf]; exact h.a x hx
  · exact h3 x (List.mem_append_left _ hx) y hy
theorem Part.riseD (h : Part V p A M B) (hr : Rise V) : Rise (A ++ B) := by
  unfold Rise at *
  rw [h.v] at hr
  refine hr.sublist ?_
  rw [List.append_assoc]
  exact List.Sublist.append (List.Sublist.refl _) (List.sublist_append_right _ _)
end
end Go.Proofs.YtebngmgdciahiaaGreatDoor

namespace Go.Proofs.YtebngmgdciahiaaGreatDoor
open Go.RowKit Dk Nm
open Go.Maps (Keyed)
attribute [local go_sem ↓] Go.wp_at_zero Go.wp_at_succ
set_option linter.unusedVariables false

theorem lawS : Keyed Tryz.prog 9 := Go.Maps.string_keyed Tryz.underlying9
theorem keyS {x : ByteArray} (h : x.size ≤ maxLen) : keyOf Tryz.prog 9 (.string x) = some (kl x) := Go.WideMaps.keyOf_string_mk Tryz.underlying9 h
/-- How an entry reads: as itself. -/
def RF (v : Value) : Option (DataW Value × List MemPlace) := match v with
  | .agg xs => match xs.toList with
    | [.slice _ _ _, .bool _] => some (.held v, [])
    | _ => none
  | _ => none
theorem RF_mk (x : Fv) : RF (vl x) = some (.held (vl x), []) := rfl
theorem RF_inv {v : Value} {y : DataW Value × List MemPlace} (h : RF v = some y) : y = (.held v, []) ∧ ∃ a n c b, v = .agg #[.slice a n c, .bool b] := by
  cases v with
  | agg xs =>
    obtain ⟨l⟩ := xs
    unfold RF at h
    dsimp only at h
    split at h
    · next a n c b =>
      cases h
      exact ⟨rfl, _, _, _, _, rfl⟩
    · cases h
  | _ => cases h
def zeroF : Fv := ⟨⟨#[]⟩, (none, 0, 0), false, ⟨#[]⟩⟩
def top (M : List Fv) : Fv := M.headD zeroF
theorem zeroEF (w : World) : (zeroValue 106).run Tryz.prog w = .ok (.agg #[.slice none 0 0, .bool false]) w := by kernel_rfl
theorem tight {H : Type} {P : Program} {k : TypeId} {R : Value → Option (DataW H × List MemPlace)} {w : World} {b n : Nat} {D : DataW H} (h : w.ownsMap P k R b n D) : w.ownsMap P k R b (Maps.size D) D := by
  obtain ⟨es, clock, hb, F, hs, rfl⟩ := h
  exact ⟨es, clock, hb, F, by simp [Maps.size, length_sorted], rfl⟩
theorem map_upd {M : Nat → Prop} {P : Program} {k : TypeId} {R : Value → Option (DataW Value × List MemPlace)} {w w' : World} {b n : Nat} {D : DataW Value} (h : w.ownsMap P k R b n D) (u : Upd M w w') (hm : ¬ M b) : w'.ownsMap P k R b n D := by
  have hlt := h.lt
  obtain ⟨es, clock, hb, r⟩ := h
  exact ⟨es, clock, (u.block b hlt hm).trans hb, r⟩
/-- A file's row of bytes. -/
structure PB (w : World) (x : Fv) : Prop where
  n : x.bv.2.1 = x.b.size
  c : x.b.size ≤ x.bv.2.2
  l : x.bv.2.2 ≤ maxLen
  z : x.bv.1 = none → x.bv.2.2 = 0
  r : 0 < x.b.size → ∃ f : Nat → Nat, (∀ i, f i < 256) ∧ Own w 0 (.slice x.bv.1 x.bv.2.1 x.bv.2.2) x.b.size f ∧ str f x.b.size = x.b
theorem PB.upd {M : Nat → Prop} {w w' : World} {x : Fv} (h : PB w x) (u : Upd M w w') (hm : ∀ g cur, w.heap[g]? = some (.cells cur 5 (0, 0)) → ¬ M g) : PB w' x :=
  ⟨h.n, h.c, h.l, h.z, fun k => by
    obtain ⟨f, h2, h3, h4⟩ := h.r k
    exact ⟨f, h2, own_upd h3 u hm, h4⟩⟩
theorem PB.zero (w : World) : PB w zeroF := ⟨rfl, Nat.le_refl _, (by show 0 ≤ maxLen; unfold maxLen; omega), fun _ => rfl, fun h => absurd h (by decide)⟩
theorem PB.row {w : World} {x : Fv} (h : PB w x) : ∃ f, (∀ i, f i < 256) ∧ Row w x.bv.1 x.b.size f ∧ str f x.b.size = x.b := by
  by_cases k : 0 < x.b.size
  · obtain ⟨f, h2, h3, h4⟩ := h.r k
    obtain ⟨a, c, e, hr⟩ := h3.row k h2
    injection e with e1 _ _
    refine ⟨f, h2, ?_, h4⟩
    rw [e1]; exact hr.2.2.2
  · have e : x.b.size = 0 := by omega
    rw [e]
    refine ⟨fun _ => 0, fun _ => Nat.zero_lt_succ _, Row.zero _ _ (fun _ => Nat.zero_lt_succ _), ?_⟩
    have : x.b = ⟨#[]⟩ := ByteArray.ext (Array.eq_empty_of_size_eq_zero e)
    rw [this]; rfl
/-- No two files' rows are one. -/
def Aps (x y : Fv) : Prop := 0 < x.b.size → 0 < y.b.size → x.bv.1 ≠ y.bv.1
/-- The blocks that an operation of the disk at p may write. -/
def Ms (p m : Nat) (q : Option Nat) : Nat → Prop := fun k => k = p ∨ k = m ∨ q = some k
/-- The program's disk at p: its files V in the map m, its fuse q. -/
structure PX (w : World) (p m : Nat) (V : List Fv) (q : Option Nat) (s : St) (F : Int) : Prop where
  o : w.heap[p]? = some (.cells #[.map (some m), .int .i64 ((used s.fs : Nat) : Int), .int .i64 s.most, .pointer (q.map fun k => ⟨k, 0, none⟩), .bool s.off, .int .i64 F] 109)
  m : w.ownsMap Tryz.prog 9 RF m V.length (DM V)
  b : ∀ x ∈ V, PB w x
  f : s.fs = V.map fl
  wf : Wf s
  r : Rise V
  d : V.Pairwise Aps
  F0 : max F 0 = s.bad
  F1 : -9223372036854775808 ≤ F ∧ F ≤ 9223372036854775807
section
variable {w : World} {p m : Nat} {V : List Fv} {q : Option Nat} {s : St} {F : Int}
theorem PX.n (h : PX w p m V q s F) : V.length ≤ 4096 := by
  have := h.wf.n
  rw [h.f, List.length_map] at this
  exact this
theorem PX.used_le (h : PX w p m V q s F) : used s.fs ≤ 1073741824 := by
  have h1 := Dk.used_le h.wf.b
  have h2 := h.wf.n
  omega
theorem PX.c0 (h : PX w p m V q s F) : w.cell? ⟨p, 0, none⟩ = some (.map (some m)) := cell_of_row w p 0 _ _ _ h.o
theorem PX.c1 (h : PX w p m V q s F) : w.cell? ⟨p, 1, none⟩ = some (.int .i64 ((used s.fs : Nat) : Int)) := cell_of_row w p 1 _ _ _ h.o
theorem PX.c2 (h : PX w p m V q s F) : w.cell? ⟨p, 2, none⟩ = some (.int .i64 s.most) := cell_of_row w p 2 _ _ _ h.o
theorem PX.c3 (h : PX w p m V q s F) : w.cell? ⟨p, 3, none⟩ = some (.pointer (q.map fun k => ⟨k, 0, none⟩)) := cell_of_row w p 3 _ _ _ h.o
theorem PX.c4 (h : PX w p m V q s F) : w.cell? ⟨p, 4, none⟩ = some (.bool s.off) := cell_of_row w p 4 _ _ _ h.o
theorem PX.c5 (h : PX w p m V q s F) : w.cell? ⟨p, 5, none⟩ = some (.int .i64 F) := cell_of_row w p 5 _ _ _ h.o
theorem PX.soft (h : PX w p m V q s F) (j : Nat) : w.frozen? ⟨p, j, none⟩ = false := frozen_of_row w p j _ _ h.o
theorem PX.lt (h : PX w p m V q s F) : p < w.heap.size := (Array.getElem?_eq_some_iff.1 h.o).1
theorem PX.ne (h : PX w p m V q s F) : p ≠ m := fun e => by
  obtain ⟨es, clock, hb, _⟩ := h.m
  rw [← e, h.o] at hb
  injection hb with hb
  cases hb
theorem PX.drewN (h : PX w p m V q s F) (n : Nat) : PX (w.drewN n) p m V q s F :=
  ⟨h.o, h.m.kept (row := none) ⟨rfl, rfl, rfl, Nat.le_refl _, fun _ _ _ => rfl⟩ (by simp), fun x hx => (h.b x hx).upd (M := fun _ => False) (Upd.of (bdn' _ _)) (fun _ _ _ k => k), h.f, h.wf, h.r, h.d, h.F0, h.F1⟩
/-- Nothing of its files has turned. -/
theorem PX.turn {M : Nat → Prop} {w' : World} {s' : St} {F' : Int} (h : PX w p m V q s F) (u : Upd M w w') (hm : ∀ k, M k → ∀ cur T, w.heap[k]? = some (.cells cur T (0, 0)) → T ≠ 5) (hmm : ¬ M m)
    (ho : w'.heap[p]? = some (.cells #[.map (some m), .int .i64 ((used s'.fs : Nat) : Int), .int .i64 s'.most, .pointer (q.map fun k => ⟨k, 0, none⟩), .bool s'.off, .int .i64 F'] 109)) (hf : s'.fs = s.fs) (hw : Wf s') (h0 : max F' 0 = s'.bad) (h1 : -9223372036854775808 ≤ F' ∧ F' ≤ 9223372036854775807) : PX w' p m V q s' F' :=
  ⟨ho, map_upd h.m u hmm, fun x hx => (h.b x hx).upd u fun g cur e k => hm g k cur _ e rfl, by rw [hf]; exact h.f, hw, h.r, h.d, h0, h1⟩
theorem PX.keep {w' : World} (h : PX w p m V q s F) (hb : Below w.heap.size w w') : PX w' p m V q s F :=
  h.turn (M := fun _ => False) (Upd.of hb) (fun _ k => k.elim) id ((hb.block p h.lt).trans h.o) rfl h.wf h.F0 h.F1
/-- A look-up. -/
theorem PX.look (h : PX w p m V q s F) {x : ByteArray} {A M B : List Fv} (P : Part V x A M B) (hx : x.size ≤ maxLen) :
    (Instr.lookup 107 (.map (some m)) (.string x) true).run Tryz.prog w = .ok (.tuple #[vl (top M), .bool (there x s.fs)]) w ∧ (Instr.lookup 107 (.map (some m)) (.string x) false).run Tryz.prog w = .ok (vl (top M)) w := by
  have hz : RF (.agg #[.slice none 0 0, .bool false]) = some (.held (vl zeroF), []) := rfl
  have hk : ∀ v ps, RF v = some ((DM V).atKey (kl x) (.held (vl zeroF)), ps) → v = vl (top M) := fun v ps hv => by
    have e := (RF_inv hv).1
    injection e with e _
    rw [P.atKey] at e
    cases M with
    | nil => injection e with e; exact e.symm
    | cons f M => injection e with e; exact e.symm
  constructor
  · obtain ⟨v, ps, hr, hv⟩ := h.m.look_ok lawS Tryz.underlying107 (zeroEF w) hz (keyS hx)
    rw [hr, hk v ps hv, P.has, ← h.f]
  · obtain ⟨v, ps, hr, hv⟩ := h.m.lookup lawS Tryz.underlying107 (zeroEF w) hz (keyS hx)
    rw [hr, hk v ps hv]
theorem PX.len (h : PX w p m V q s F) (ty : TypeId) : (Builtin.len_ #[107] ty #[.map (some m)]).run Tryz.prog w = .ok (.int .i64 (V.length : Int)) w := by
  have := h.m.len Tryz.underlying107 ty
  rw [dm_size] at this
  exact this
theorem top_mem {x : ByteArray} {A M B : List Fv} (P : Part V x A M B) (ht : there x (V.map fl) = true) : M = [top M] ∧ top M ∈ V ∧ (top M).path = x := by
  rcases P.m with ⟨t, _⟩ | ⟨_, f, e, hf⟩
  · rw [ht] at t; cases t
  · subst e
    refine ⟨rfl, ?_, hf⟩
    rw [P.v]; simp [top]
theorem top_none {x : ByteArray} {A M B : List Fv} (P : Part V x A M B) (ht : there x (V.map fl) = false) : M = [] := by
  rcases P.m with ⟨_, e⟩ | ⟨t, _⟩
  · exact e
  · rw [ht] at t; cases t
theorem PX.topB (h : PX w p m V q s F) {x : ByteArray} {A M B : List Fv} (P : Part V x A M B) : PB w (top M) := by
  rcases P.m with ⟨_, e⟩ | ⟨_, f, e, hf⟩
  · subst e; exact PB.zero w
  · subst e
    refine h.b f ?_
    rw [P.v]; simp
theorem PX.topS (h : PX w p m V q s F) {x : ByteArray} {A M B : List Fv} (P : Part V x A M B) : (top M).b.size ≤ 262144 := by
  rcases P.m with ⟨_, e⟩ | ⟨_, f, e, hf⟩
  · subst e; exact Nat.zero_le _
  · subst e
    refine h.wf.b (fl f) ?_
    rw [h.f, P.v]; simp
end
/-- The fuse, if there is one. -/
def FZ (w : World) (q : Option Nat) (z : Option Fz) : Prop := match q, z with
  | none, none => True
  | some k, some z => w.heap[k]? = some (.cells #[.int .i64 z.n, .int .i64 z.done] 102) ∧ z.blown = decide (0 < z.n ∧ z.n ≤ z.done)
  | _, _ => False
end Go.Proofs.YtebngmgdciahiaaGreatDoor

namespace Go.Proofs.YtebngmgdciahiaaGreatDoor
open Go.RowKit Dk Nm
attribute [local go_sem ↓] Go.wp_at_zero Go.wp_at_succ
set_option linter.unusedVariables false

/-- Is it blown? -/
def blB : Option Fz → Bool
  | none => false
  | some z => z.blown
def tickO : Option Fz → Option Fz
  | none => none
  | some z => if z.blown = true then some z else some (tick z)
set_option maxHeartbeats 2000000 in
theorem blown_any (q : Option Nat) (z : Option Fz) (w : World) (hz : FZ w q z) :
    Calls Tryz.prog 42 #[.pointer (q.map fun k => ⟨k, 0, none⟩)] w fun e w' => e = .returned (.bool (blB z)) ∧ ∃ n, w' = w.drewN n := by
  cases q with
  | none =>
    cases z with
    | some z => exact absurd hz (by unfold FZ; exact id)
    | none =>
      dsimp only [Option.map]
      unfold blB
      clear hz
      go_enter Tryz.func42, Tryz.ntmps42
      go_wp2_with fail
      go_quiet (fail)
      go_wp2
      go_ret
      exact ⟨rfl, nq, rfl⟩
  | some k =>
    cases z with
    | none => exact absurd hz (by unfold FZ; exact id)
    | some z =>
      obtain ⟨zn, zd, zb⟩ := z
      obtain ⟨ho, hb⟩ := hz
      dsimp only at ho hb
      have z0 := cell_of_row w k 0 _ _ _ ho
      have z1 := cell_of_row w k 1 _ _ _ ho
      simp only [List.getElem?_toArray, List.getElem?_cons_zero, List.getElem?_cons_succ] at z0 z1
      dsimp only [Option.map]
      show Calls Tryz.prog _ _ w fun e w' => e = .returned (.bool zb) ∧ ∃ n, w' = w.drewN n
      clear ho
      by_cases h0 : 0 < zn
      · by_cases h1 : zn ≤ zd
        · rw [decide_eq_true ⟨h0, h1⟩] at hb
          subst hb
          have d0 : decide (0 < zn) = true := decide_eq_true h0
          have d1 : decide (zn ≤ zd) = true := decide_eq_true h1
          go_enter Tryz.func42, Tryz.ntmps42
          go_wp2_with fail
          go_quiet (fail)
          go_wp2
          go_ret
          exact ⟨rfl, nq, rfl⟩
        · rw [decide_eq_false (fun h => h1 h.2)] at hb
          subst hb
          have d0 : decide (0 < zn) = true := decide_eq_true h0
          have d1 : decide (zn ≤ zd) = false := decide_eq_false h1
          go_enter Tryz.func42, Tryz.ntmps42
          go_wp2_with fail
          go_quiet (fail)
          go_wp2
          go_ret
          exact ⟨rfl, nq, rfl⟩
      · rw [decide_eq_false (fun h => h0 h.1)] at hb
        subst hb
        have d0 : decide (0 < zn) = false := decide_eq_false h0
        go_enter Tryz.func42, Tryz.ntmps42
        go_wp2_with fail
        go_quiet (fail)
        go_wp2
        go_ret
        exact ⟨rfl, nq, rfl⟩

theorem FZ.keep {w w' : World} {q : Option Nat} {z : Option Fz} (h : FZ w q z) (hb : Below w.heap.size w w') : FZ w' q z := by
  cases q with
  | none => cases z with
    | none => trivial
    | some z => exact absurd h (by unfold FZ; exact id)
  | some k => cases z with
    | none => exact absurd h (by unfold FZ; exact id)
    | some z => exact ⟨(hb.block k (Array.getElem?_eq_some_iff.1 h.1).1).trans h.1, h.2⟩
theorem FZ.upd {M : Nat → Prop} {w w' : World} {q : Option Nat} {z : Option Fz} (h : FZ w q z) (u : Upd M w w') (hm : ∀ k, q = some k → ¬ M k) : FZ w' q z := by
  cases q with
  | none => cases z with
    | none => trivial
    | some z => exact absurd h (by unfold FZ; exact id)
  | some k => cases z with
    | none => exact absurd h (by unfold FZ; exact id)
    | some z => exact ⟨(u.block k (Array.getElem?_eq_some_iff.1 h.1).1 (hm k rfl)).trans h.1, h.2⟩
/-- What the fuse's block is. -/
theorem FZ.type {w : World} {k : Nat} {z : Option Fz} (h : FZ w (some k) z) : ∃ cs, w.heap[k]? = some (.cells cs 102 (0, 0)) := by
  cases z with
  | none => exact absurd h (by unfold FZ; exact id)
  | some z => exact ⟨_, h.1⟩
set_option maxHeartbeats 2000000 in
theorem count_any (q : Option Nat) (z : Option Fz) (w : World) (hz : FZ w q z) (hb : Zb z) :
    Calls Tryz.prog 109 #[.pointer (q.map fun k => ⟨k, 0, none⟩)] w fun e w' => e = .returned (.bool (!blB z)) ∧ FZ w' q (tickO z) ∧ Upd (fun k => q = some k) w w' := by
  have cB := blown_any q z w hz
  cases q with
  | none =>
    cases z with
    | some z => exact absurd hz (by unfold FZ; exact id)
    | none =>
      dsimp only [Option.map] at cB ⊢
      unfold blB at cB ⊢
      clear hz
      go_enter Tryz.func109, Tryz.ntmps109
      go_wp2_with fail
      go_at_call 42
      refine cB.mono ?_
      rintro e w1 ⟨rfl, n, rfl⟩
      go_wp2
      go_ret
      exact ⟨rfl, trivial, (Upd.refl _ _).drewN n⟩
  | some k =>
    cases z with
    | none => exact absurd hz (by unfold FZ; exact id)
    | some z =>
      have HZ : Hid (FZ w (some k) (some z)) := hz
      obtain ⟨ho, hbb⟩ := hz
      obtain ⟨b0, b1⟩ := hb z rfl
      dsimp only [Option.map] at cB ⊢
      unfold blB at cB ⊢
      dsimp only at cB ⊢
      cases hx : z.blown with
      | true =>
        rw [hx] at cB
        have HT : Hid (tickO (some z) = some z) := by unfold Hid tickO; dsimp only; rw [if_pos hx]
        clear ho hbb hx
        go_enter Tryz.func109, Tryz.ntmps109
        go_wp2_with fail
        go_at_call 42
        refine cB.mono ?_
        rintro e w1 ⟨rfl, n, rfl⟩
        go_wp2
        go_ret
        exact ⟨rfl, by rw [HT.out]; exact HZ.out.keep (bdn' _ _), (Upd.refl _ _).drewN n⟩
      | false =>
        rw [hx] at cB
        have HT : Hid (tickO (some z) = some (tick z)) := by unfold Hid tickO; dsimp only; rw [if_neg (by rw [hx]; decide)]
        obtain ⟨zn, zd, zb⟩ := z
        dsimp only at ho b0 b1
        have HO : Hid (w.heap[k]? = some (.cells #[.int .i64 zn, .int .i64 zd] 102)) := ho
        clear ho hbb hx
        go_enter Tryz.func109, Tryz.ntmps109
        go_wp2_with fail
        go_at_call 42
        refine cB.mono ?_
        rintro e w1 ⟨rfl, n, hw1⟩
        have HU : Hid (Upd (fun j => some k = some j) w w1) := by rw [hw1]; exact (Upd.refl _ _).drewN n
        have h1 : w1.heap[k]? = some (.cells #[.int .i64 zn, .int .i64 zd] 102) := by rw [hw1]; exact HO.out
        clear cB hw1
        have z1 := cell_of_row w1 k 1 _ _ _ h1
        have f1 := frozen_of_row w1 k 1 _ _ h1
        simp only [List.getElem?_toArray, List.getElem?_cons_zero, List.getElem?_cons_succ] at z1
        have wz : IntKind.i64.wrap (zd + 1) = zd + 1 := by rw [IntKind.wrap_i64]; omega
        have HN : Hid (FZ (w1.setCell ⟨k, 1, none⟩ (.int .i64 (zd + 1))) (some k) (some (tick ⟨zn, zd, zb⟩))) := ⟨heap_setCell_same w1 k 1 _ _ _ h1, rfl⟩
        have HV : Hid (Upd (fun j => some k = some j) w (w1.setCell ⟨k, 1, none⟩ (.int .i64 (zd + 1)))) := HU.out.put (p := ⟨k, 1, none⟩) (.inl rfl) _
        clear h1
        go_wp2
        go_ret
        exact ⟨rfl, by rw [HT.out]; exact HN.out, HV.out⟩
end Go.Proofs.YtebngmgdciahiaaGreatDoor

namespace Go.Proofs.YtebngmgdciahiaaGreatDoor
open Go.RowKit Dk Nm
attribute [local go_sem ↓] Go.wp_at_zero Go.wp_at_succ
set_option linter.unusedVariables false

theorem ask_parts (z : Option Fz) (s : St) (ps : List ByteArray) (hz : blB z = false) : (askZ z s ps).1 = (askD s ps).1 ∧ (askZ z s ps).2.2 = (askD s ps).2 ∧ (askZ z s ps).2.1 = tickO z := by
  cases z with
  | none => exact ⟨rfl, rfl, rfl⟩
  | some z =>
    have h : z.blown = false := hz
    unfold askZ tickO
    dsimp only
    rw [if_neg (by rw [h]; decide), if_neg (by rw [h]; decide)]
    exact ⟨rfl, rfl, rfl⟩
theorem ask_blown {z : Option Fz} (s : St) (ps : List ByteArray) (hz : blB z = true) : (askZ z s ps).1 = 20 ∧ (askZ z s ps).2.2 = s ∧ (askZ z s ps).2.1 = tickO z := by
  cases z with
  | none => cases hz
  | some z =>
    have h : z.blown = true := hz
    unfold askZ tickO
    dsimp only
    rw [if_pos h, if_pos h]
    exact ⟨rfl, rfl, rfl⟩
/-- What asking leaves. -/
def PAsk (p m : Nat) (V : List Fv) (q : Option Nat) (d : Int) (s : St) (z : Option Fz) (w : World) (e : Ending) (w' : World) : Prop :=
  e = .returned (.int .i64 d) ∧ ∃ F, PX w' p m V q s F ∧ FZ w' q z ∧ Upd (Mk p q) w w'
theorem fz_off {w : World} {p m : Nat} {V : List Fv} {q : Option Nat} {s : St} {F : Int} {z : Option Fz} (h : PX w p m V q s F) (hz : FZ w q z) {k : Nat} (e : q = some k) : p ≠ k ∧ m ≠ k := by
  subst e
  obtain ⟨cs, hk⟩ := hz.type
  refine ⟨fun e => ?_, fun e => ?_⟩
  · subst e
    rw [h.o] at hk
    injection hk with hk
    injection hk with _ hk _
    cases hk
  · subst e
    obtain ⟨es, clock, hb, _⟩ := h.m
    rw [hb] at hk
    injection hk with hk
    cases hk
set_option maxHeartbeats 4000000 in
theorem pask_any (p m : Nat) (V : List Fv) (q : Option Nat) (s : St) (F : Int) (z : Option Fz) (A : Option Addr) (C : Nat) (ps : List ByteArray) (w : World) (h : PX w p m V q s F) (hz : FZ w q z) (hb : Zb z) (hS : Strs w A ps) (hn : ps.length ≤ 1000) :
    Calls Tryz.prog 93 #[.pointer (some ⟨p, 0, none⟩), .slice A ps.length C] w (PAsk p m V q (askZ z s ps).1 (askZ z s ps).2.2 (askZ z s ps).2.1 w) := by
  have d0 := h.c0
  have d3 := h.c3
  have qM : (binOp .eql 107 (.map (some m)) (.map none)).run Tryz.prog w = .ok (.bool false) w := run_eql_map_nil w _ _ _ _ Tryz.underlying107
  have cC := count_any q z w hz hb
  obtain ⟨r, hr⟩ : ∃ r, (q.map fun k => (⟨k, 0, none⟩ : Addr)) = r := ⟨_, rfl⟩
  rw [hr] at cC d3
  obtain ⟨B, hB⟩ : ∃ B, blB z = B := ⟨_, rfl⟩
  rw [hB] at cC
  have HS0 : Hid (Strs w A ps) := hS
  have HD0 : Hid (PX w p m V q s F) := h
  have HZ0 : Hid (FZ w q z) := hz
  obtain ⟨d, hd⟩ : ∃ d, (askZ z s ps).1 = d := ⟨_, rfl⟩
  obtain ⟨s', hs'⟩ : ∃ s', (askZ z s ps).2.2 = s' := ⟨_, rfl⟩
  obtain ⟨z', hz'⟩ : ∃ z', (askZ z s ps).2.1 = z' := ⟨_, rfl⟩
  rw [hd, hs', hz']
  have HT : Hid (∀ e w' F', e = .returned (.int .i64 d) → PX w' p m V q s' F' → FZ w' q z' → Upd (Mk p q) w w' → PAsk p m V q d s' z' w e w') := fun e w' F' h1 h2 h3 h4 => ⟨h1, F', h2, h3, h4⟩
  generalize hPP : PAsk p m V q d s' z' w = PP at *
  cases B with
  | true =>
    obtain ⟨e1, e2, e3⟩ := ask_blown s ps hB
    rw [hd] at e1
    rw [hs'] at e2
    rw [hz'] at e3
    subst e1; subst e2; subst e3
    clear hd hs' hz' hPP h hz hb hS hB hr
    go_enter Tryz.func93, Tryz.ntmps93
    go_wp2_with fail
    go_at_call 109
    refine cC.mono ?_
    rintro e w1 ⟨rfl, hz1, u1⟩
    have HZ1 : Hid (FZ w1 q (tickO z)) := hz1
    have HU1 : Hid (Upd (fun k => q = some k) w w1) := u1
    clear hz1 u1 cC d0 d3 qM
    go_wp2
    refine HT.out _ _ F rfl ?_ HZ1.out (HU1.out.mono fun k _ e => .inr e)
    refine HD0.out.turn HU1.out (fun k e cur T t => ?_) (fun e => ?_) ?_ rfl HD0.out.wf HD0.out.F0 HD0.out.F1
    · subst e
      obtain ⟨cs, hk⟩ := HZ0.out.type
      rw [t] at hk
      injection hk with hk
      injection hk with _ hk _
      subst hk
      decide
    · exact (fz_off HD0.out HZ0.out e).2 rfl
    · rw [HU1.out.block p HD0.out.lt (fun e => (fz_off HD0.out HZ0.out e).1 rfl)]; exact HD0.out.o
  | false =>
    obtain ⟨e1, e2, e3⟩ := ask_parts z s ps hB
    rw [hd] at e1
    rw [hs'] at e2
    rw [hz'] at e3
    subst e3
    have HDD : Hid (askD s ps = (d, s')) := by unfold Hid; rw [e1, e2]
    clear hd hs' hz' hPP h hz hb hS hB hr e1 e2
    go_enter Tryz.func93, Tryz.ntmps93
    go_wp2_with fail
    go_at_call 109
    refine cC.mono ?_
    rintro e w1 ⟨rfl, hz1, u1⟩
    have HZ1 : Hid (FZ w1 q (tickO z)) := hz1
    have HU1 : Hid (Upd (Mk p q) w w1) := u1.mono fun k _ e => .inr e
    have hD1 : PX w1 p m V q s F := by
      refine HD0.out.turn u1 (fun k e cur T t => ?_) (fun e => ?_) ?_ rfl HD0.out.wf HD0.out.F0 HD0.out.F1
      · subst e
        obtain ⟨cs, hk⟩ := HZ0.out.type
        rw [t] at hk
        injection hk with hk
        injection hk with _ hk _
        subst hk
        decide
      · exact (fz_off HD0.out HZ0.out e).2 rfl
      · rw [u1.block p HD0.out.lt (fun e => (fz_off HD0.out HZ0.out e).1 rfl)]; exact HD0.out.o
    have HS1 : Hid (Strs w1 A ps) := fun h0 => by
      obtain ⟨b, o, e, hc⟩ := HS0.out h0
      refine ⟨b, o, e, fun i hi => ?_⟩
      have := hc i hi
      rw [← this]
      exact World.cell?_of_block (w := w) (u1.block b (block_lt_of_cell this) fun e => (by
        obtain ⟨cs, hk⟩ := (show FZ w (some b) z by rw [← e]; exact HZ0.out).type
        cases z with
        | none => have h9 := HZ0.out; rw [e] at h9; exact absurd h9 (by unfold FZ; exact id)
        | some z =>
          have h9 := HZ0.out; rw [e] at h9
          have h8 := cell_of_row w b (o + i) _ _ _ h9.1
          rw [h8] at this
          match o + i, this with
          | 0, t => simp at t
          | 1, t => simp at t
          | k + 2, t => simp at t))
    have HD1 : Hid (PX w1 p m V q s F) := hD1
    clear hz1 u1 cC d0 d3 qM
    have d4 := hD1.c4
    have d5 := hD1.c5
    have f5 := hD1.soft 5
    obtain ⟨hF0, hF1, hF2⟩ : max F 0 = s.bad ∧ -9223372036854775808 ≤ F ∧ F ≤ 9223372036854775807 := ⟨hD1.F0, hD1.F1.1, hD1.F1.2⟩
    clear hD1
    cases ho : s.off with
    | true =>
      rw [ho] at d4
      have HE : Hid (d = 10 ∧ s' = s) := by
        have := HDD.out
        rw [askD_off ho] at this
        injection this with a b
        exact ⟨a.symm, b.symm⟩
      clear ho d5 f5 hF0 hF1 hF2
      go_wp2
      exact HT.out _ _ F (by rw [HE.out.1] <;> rfl) (by rw [HE.out.2]; exact HD1.out) HZ1.out HU1.out
    | false =>
      rw [ho] at d4
      by_cases hb : 0 < F
      · have HE : Hid (d = 9 ∧ s' = { s with bad := s.bad - 1 }) := by
          have := HDD.out
          rw [askD_bad ho (by omega)] at this
          injection this with a b
          exact ⟨a.symm, b.symm⟩
        have wF : IntKind.i64.wrap (F - 1) = F - 1 := by rw [IntKind.wrap_i64]; omega
        have HX : Hid (PX (w1.setCell ⟨p, 5, none⟩ (.int .i64 (F - 1))) p m V q { s with bad := s.bad - 1 } (F - 1)) := by
          have u : Upd (Mk p none) w1 (w1.setCell ⟨p, 5, none⟩ (.int .i64 (F - 1))) := (Upd.refl _ _).put (.inl (.inl rfl)) _
          have W0 := HD1.out.wf
          refine HD1.out.turn u (fun k hk cur T e => ?_) (fun e => ?_) ?_ rfl ⟨W0.n, W0.b, W0.p, W0.m0, W0.m1, by show 0 ≤ s.bad - 1; omega, by show s.bad - 1 ≤ _; omega⟩ (by show max (F - 1) 0 = s.bad - 1; omega) (by omega)
          · rcases hk with rfl | hk
            · rw [HD1.out.o] at e
              injection e with e
              injection e with _ e _
              subst e; decide
            · cases hk
          · rcases e with e | e
            · exact HD1.out.ne e.symm
            · cases e
          · exact heap_setCell_same w1 p 5 _ _ (.int .i64 (F - 1)) HD1.out.o
        have HU : Hid (Upd (Mk p q) w (w1.setCell ⟨p, 5, none⟩ (.int .i64 (F - 1)))) := HU1.out.put (.inl (.inl rfl)) _
        have HZ : Hid (FZ (w1.setCell ⟨p, 5, none⟩ (.int .i64 (F - 1))) q (tickO z)) := HZ1.out.upd (M := Mk p none) ((Upd.refl _ _).put (.inl (.inl rfl)) _) fun k e t => by
          rcases t with t | t
          · exact (fz_off HD1.out HZ1.out e).1 t.symm
          · cases t
        clear ho hF0 hF1 hF2
        go_wp2
        exact HT.out _ _ (F - 1) (by rw [HE.out.1] <;> rfl) (by rw [HE.out.2]; exact HX.out) HZ.out HU.out
      · have HO : Hid (s.off = false) := ho
        have HNB : Hid (¬ 0 < s.bad) := by unfold Hid; omega
        have gb : decide (0 < F) = false := decide_eq_false hb
        clear hb ho f5 hF0 hF1 hF2
        go_wp2_with fail
        go_loopw [40] (fun i wr => ∃ j : Nat, j ≤ ps.length ∧ i = .int .i64 j ∧ (∀ k, k < j → okPath ps[k]! = true) ∧ w1 = wr) (fun i _ => ps.length - (intOf i).toNat)
        case atStart => exact ⟨0, by omega, rfl, fun k hk => absurd hk (by omega), rfl⟩
        case round =>
          obtain ⟨j, hj, rfl, hk, rfl⟩ := hrel
          clear d4 d5 gb
          by_cases hlt : j < ps.length
          · have ij : (j : Int) < (ps.length : Int) := by omega
            obtain ⟨bb, oo, rfl, hA⟩ := HS1.out (by omega)
            have t0 := hA j hlt
            obtain ⟨x, hx⟩ : ∃ x, ps[j]! = x := ⟨_, rfl⟩
            rw [hx] at t0
            have HX : Hid (ps[j]! = x) := hx
            have HK : Hid (∀ k, k < j → okPath ps[k]! = true) := hk
            clear hA hx hk
            by_cases o1 : x.size < 1
            · have i1 : (x.size : Int) < 1 := by omega
              have HE : Hid (d = 1 ∧ s' = s) := by
                have := HDD.out
                rw [askD_no HO.out (by have := HNB.out; omega) (not_ok hlt (by rw [HX.out]; cases e : okPath x with | false => rfl | true => have := okPath_iff.1 e; omega))] at this
                injection this with a b
                exact ⟨a.symm, b.symm⟩
              go_wp2
              exact HT.out _ _ F (by rw [HE.out.1] <;> rfl) (by rw [HE.out.2]; exact HD1.out) HZ1.out HU1.out
            · have i1 : decide ((x.size : Int) < 1) = false := decide_eq_false (by omega)
              by_cases o2 : 600 < x.size
              · have i2 : (600 : Int) < (x.size : Int) := by omega
                have HE : Hid (d = 1 ∧ s' = s) := by
                  have := HDD.out
                  rw [askD_no HO.out (by have := HNB.out; omega) (not_ok hlt (by rw [HX.out]; cases e : okPath x with | false => rfl | true => have := okPath_iff.1 e; omega))] at this
                  injection this with a b
                  exact ⟨a.symm, b.symm⟩
                go_wp2
                exact HT.out _ _ F (by rw [HE.out.1] <;> rfl) (by rw [HE.out.2]; exact HD1.out) HZ1.out HU1.out
              · have i2 : decide ((600 : Int) < (x.size : Int)) = false := decide_eq_false (by omega)
                have HXK : Hid (okPath x = true) := okPath_iff.2 ⟨by omega, by omega⟩
                clear o1 o2
                go_wp2
                go_round
                case rel => exact ⟨j + 1, by omega, by go_num, fun k hk => (by
                  by_cases e : k < j
                  · exact HK.out k e
                  · have : k = j := by omega
                    subst this
                    rw [HX.out]; exact HXK.out), by trivial⟩
                case measure => simp [intOf]; omega
          · have hjn : j = ps.length := by omega
            subst hjn
            have ij : decide ((ps.length : Int) < (ps.length : Int)) = false := by simp
            have HE : Hid (d = 0 ∧ s' = s) := by
              have := HDD.out
              rw [askD_ok HO.out (by have := HNB.out; omega) (all_ok hk)] at this
              injection this with a b
              exact ⟨a.symm, b.symm⟩
            clear hk hlt
            go_wp2
            exact HT.out _ _ F (by rw [HE.out.1] <;> rfl) (by rw [HE.out.2]; exact HD1.out) HZ1.out HU1.out
end Go.Proofs.YtebngmgdciahiaaGreatDoor

namespace Go.Proofs.YtebngmgdciahiaaGreatDoor
open Go.RowKit Dk Nm
attribute [local go_sem ↓] Go.wp_at_zero Go.wp_at_succ
set_option linter.unusedVariables false

theorem PB.as {w : World} {x y : Fv} (h : PB w x) (h1 : y.bv = x.bv) (h2 : y.b = x.b) : PB w y := by
  obtain ⟨p, bv, s, b⟩ := y
  dsimp only at h1 h2
  subst h1; subst h2
  exact ⟨h.n, h.c, h.l, h.z, h.r⟩
/-- What a copy is. -/
def ClEnd (b : ByteArray) (w : World) (e : Ending) (w' : World) : Prop :=
  ∃ bv : Option Addr × Nat × Nat, e = .returned (.slice bv.1 bv.2.1 bv.2.2) ∧ (∀ p s, PB w' ⟨p, bv, s, b⟩) ∧ (∀ x, bv.1 = some x → w.heap.size ≤ x.block) ∧ Below w.heap.size w w'
set_option maxHeartbeats 2000000 in
theorem clone_any (a : Option Addr) (n c : Nat) (b : ByteArray) (f : Nat → Nat) (w : World) (r : Row w a n f) (hf : ∀ i, f i < 256) (hs : str f n = b) (hn : n = b.size) (z : a = none → n = 0 ∧ c = 0) (hl : n ≤ 1073741824) :
    Calls Tryz.prog 45 #[.slice a n c] w (ClEnd b w) := by
  cases a with
  | none =>
    obtain ⟨e0, e1⟩ := z rfl
    subst e1
    have hb : b.size = 0 := by omega
    have HT : Hid (ClEnd b w (.returned (.slice none 0 0)) w) := ⟨(none, 0, 0), rfl, fun p s => ⟨(by show 0 = b.size; omega), (by show b.size ≤ 0; omega), (by show 0 ≤ maxLen; unfold maxLen; omega), fun _ => rfl, fun h => (by have h' : 0 < b.size := h; omega)⟩, fun x h => (nomatch h), Below.refl _ _⟩
    generalize hPP : ClEnd b w = PP at *
    rw [e0]
    clear r hf hs hn z hl e0 hb hPP
    have qS : (binOp .eql 27 (.slice none 0 0) (.slice none 0 0)).run Tryz.prog w = .ok (.bool true) w := by kernel_rfl
    go_enter Tryz.func45, Tryz.ntmps45
    go_wp2
    exact HT.out
  | some x =>
    obtain ⟨W, hW⟩ : ∃ W, w.alloc (.cells #[] 5) = W := ⟨_, rfl⟩
    have bW : Below w.heap.size w W := by rw [← hW]; exact bal _ _
    have h0 := Own.lit0 w (fun _ => 0)
    rw [hW] at h0
    obtain ⟨v', W', r1, r2, r3⟩ := appendA (c := c) h0 (r.keep bW) z (by omega) bW.size
    rw [Nat.zero_add] at r2
    have hb3 := bW.trans r3
    have HT : Hid (∃ bv : Option Addr × Nat × Nat, v' = .slice bv.1 bv.2.1 bv.2.2 ∧ (∀ p s, PB W' ⟨p, bv, s, b⟩) ∧ (∀ x, bv.1 = some x → w.heap.size ≤ x.block) ∧ Below w.heap.size w W') := by
      have hc : Own W' w.heap.size v' n f := r2.congr fun i hi => by unfold cat; rw [if_neg (by omega), Nat.sub_zero]
      rcases hc.2 with ⟨e1, e2⟩ | ⟨g, cap, cur, e1, hg, hh, hnc, hm, hr⟩
      · refine ⟨(none, 0, 0), e1, fun p s => ⟨(by show 0 = b.size; omega), (by show b.size ≤ 0; omega), (by show 0 ≤ maxLen; unfold maxLen; omega), fun _ => rfl, fun h => (by have h' : 0 < b.size := h; omega)⟩, fun x h => (nomatch h), hb3⟩
      · refine ⟨(some ⟨g, 0, none⟩, n, cap), e1, fun p s => ⟨hn, (by show b.size ≤ cap; omega), hm, fun h => (nomatch h), fun h => ⟨f, hf, ?_, ?_⟩⟩, fun x h => (by injection h with h; rw [← h]; exact hg), hb3⟩
        · show Own W' 0 (.slice (some ⟨g, 0, none⟩) n cap) b.size f
          rw [← hn]
          exact ⟨hc.1, .inr ⟨g, cap, cur, rfl, Nat.zero_le _, hh, hnc, hm, hr⟩⟩
        · show str f b.size = b
          rw [← hn]; exact hs
    have HR : Hid (Sem.run Tryz.prog (Builtin.append_ #[27, 27] 27 #[.slice (some ⟨w.heap.size, 0, none⟩) 0 0, .slice (some x) n c]) W = .ok v' W') := r1
    have HC : Hid (∀ v w', (∃ bv : Option Addr × Nat × Nat, v = .slice bv.1 bv.2.1 bv.2.2 ∧ (∀ p s, PB w' ⟨p, bv, s, b⟩) ∧ (∀ x, bv.1 = some x → w.heap.size ≤ x.block) ∧ Below w.heap.size w w') → ClEnd b w (.returned v) w') := fun v w' h => by
      obtain ⟨bv, e, r⟩ := h
      exact ⟨bv, by rw [e], r⟩
    generalize hPP : ClEnd b w = PP at *
    clear r hf hs hn z hl r1 r2 r3 hb3 h0 bW hPP
    have qS : (binOp .eql 27 (.slice (some x) n c) (.slice none 0 0)).run Tryz.prog w = .ok (.bool false) w := Lib.run_eql_slice_nil w 27 5 (some x) n c 0 0 Tryz.underlying27
    go_enter Tryz.func45, Tryz.ntmps45
    go_wp2_with (at_builtin; refine wpList_append_ran (by rfl) _ _ 27 (by rfl) _ _ _ _ (by rfl) (by rfl) HR.out ?_)
    exact HC.out _ _ HT.out

theorem aps_mid {A M B : List Fv} {f : Fv} (h : (A ++ M ++ B).Pairwise Aps) (hf : ∀ y ∈ A ++ B, Aps y f) : (A ++ f :: B).Pairwise Aps := by
  have sy : ∀ x y, Aps x y → Aps y x := fun x y k a b e => k b a e.symm
  obtain ⟨h1, h2, h3⟩ := List.pairwise_append.1 h
  obtain ⟨h4, h5, h6⟩ := List.pairwise_append.1 h1
  refine List.pairwise_append.2 ⟨h4, List.pairwise_cons.2 ⟨fun y hy => sy _ _ (hf y (List.mem_append_right _ hy)), h2⟩, fun x hx y hy => ?_⟩
  rcases List.mem_cons.1 hy with rfl | hy
  · exact hf x (List.mem_append_left _ hx)
  · exact h3 x (List.mem_append_left _ hx) y hy
theorem turned_upd {w w' : World} {b : Nat} (h : w.mapTurned w' b) : Upd (fun k => k = b) w w' := by
  have g := h.grown
  exact ⟨g.os, g.tape, g.output, g.size, fun i hi hm => g.block i hi (fun e => hm (by injection e))⟩
theorem fld0 (w : World) (a : Option Addr) (n c : Nat) (b : Bool) : (Instr.field 106 (.agg #[.slice a n c, .bool b]) 0).run Tryz.prog w = .ok (.slice a n c) w := by kernel_rfl
theorem fld1 (w : World) (a : Option Addr) (n c : Nat) (b : Bool) : (Instr.field 106 (.agg #[.slice a n c, .bool b]) 1).run Tryz.prog w = .ok (.bool b) w := by kernel_rfl
/-- What is left when a file was put. -/
def PutEnd (p m : Nat) (V : List Fv) (q : Option Nat) (s : St) (F : Int) (w : World) (e : Ending) (w' : World) : Prop :=
  e = .returned (.tuple #[]) ∧ PX w' p m V q { s with fs := V.map fl } F ∧ Upd (fun k => k = p ∨ k = m) w w'
set_option maxHeartbeats 4000000 in
theorem put_any (p m : Nat) (V : List Fv) (q : Option Nat) (s : St) (F : Int) (x : ByteArray) (f : Fv) (A M B : List Fv) (w : World) (h : PX w p m V q s F) (P : Part V x A M B) (hf : f.path = x) (hb : PB w f) (hs : f.b.size ≤ 262144) (hx : x.size ≤ 600)
    (ha : ∀ y ∈ A ++ B, Aps y f) (hl : (A ++ f :: B).length ≤ 4096) :
    Calls Tryz.prog 44 #[.pointer (some ⟨p, 0, none⟩), .string x, vl f] w (PutEnd p m (A ++ f :: B) q s F w) := by
  have hml : x.size ≤ maxLen := by unfold maxLen; omega
  obtain ⟨⟨ba, bn, bc⟩, hbv⟩ : ∃ y : Option Addr × Nat × Nat, f.bv = y := ⟨_, rfl⟩
  have hvl : vl f = .agg #[.slice ba bn bc, .bool f.sure] := by unfold vl; rw [hbv]
  obtain ⟨⟨ta, tn, tc⟩, htv⟩ : ∃ y : Option Addr × Nat × Nat, (top M).bv = y := ⟨_, rfl⟩
  have htl : vl (top M) = .agg #[.slice ta tn tc, .bool (top M).sure] := by unfold vl; rw [htv]
  have hbn : bn = f.b.size := by have := hb.n; rw [hbv] at this; exact this
  have htn : tn = (top M).b.size := by have := (h.topB P).n; rw [htv] at this; exact this
  have hts := h.topS P
  have hus := h.used_le
  -- used
  have hU : (used s.fs : Int) + ((bn : Int) - (tn : Int)) = ((used ((A ++ f :: B).map fl) : Nat) : Int) := by
    have h1 := P.used
    rw [← h.f] at h1
    have h2 := used_mid (A := A) (B := B) f
    have h3 : used (M.map fl) = (top M).b.size := by
      rcases P.m with ⟨_, e⟩ | ⟨_, g, e, _⟩
      · subst e; rfl
      · subst e; rfl
    omega
  obtain ⟨W, hW⟩ : ∃ W, w.alloc (.cells #[.slice ba bn bc, .bool f.sure] 106) = W := ⟨_, rfl⟩
  have bW : Below w.heap.size w W := by rw [← hW]; exact bal _ _
  have bx0 : W.cell? ⟨w.heap.size, 0, none⟩ = some (.slice ba bn bc) := by rw [← hW]; simp
  have bx1 : W.cell? ⟨w.heap.size, 1, none⟩ = some (.bool f.sure) := by rw [← hW]; simp
  have hXE : PX W p m V q s F := h.keep bW
  have c0 := hXE.c0
  have c1 := hXE.c1
  have f1 := hXE.soft 1
  have lk := ((hXE.drewN 1).look P hml).2
  rw [htl] at lk
  have lk : (Instr.lookup 107 (.map (some m)) (.string x) false).run Tryz.prog W.drew = .ok (.agg #[.slice ta tn tc, .bool (top M).sure]) W.drew := lk
  have fd := fld0 W.drew ta tn tc (top M).sure
  obtain ⟨U, hUU⟩ : ∃ U : Nat, used ((A ++ f :: B).map fl) = U := ⟨_, rfl⟩
  obtain ⟨u0, hu0⟩ : ∃ u0 : Nat, used s.fs = u0 := ⟨_, rfl⟩
  rw [hUU] at hU
  rw [hu0] at hU c1 hus
  have w1 : IntKind.i64.wrap ((bn : Int) - (tn : Int)) = (bn : Int) - (tn : Int) := by rw [IntKind.wrap_i64]; omega
  have w2 : IntKind.i64.wrap ((u0 : Int) + ((bn : Int) - (tn : Int))) = ((U : Nat) : Int) := by rw [hU, IntKind.wrap_i64]; omega
  obtain ⟨ts, hts'⟩ : ∃ ts, (top M).sure = ts := ⟨_, rfl⟩
  rw [hts'] at lk fd
  have hpm := h.ne
  obtain ⟨E1, hE1⟩ : ∃ E1, (W.setCell ⟨p, 1, none⟩ (.int .i64 ((U : Nat) : Int))).drew = E1 := ⟨_, rfl⟩
  have hU1 : Upd (fun k => k = p) w E1 := by rw [← hE1]; exact (Upd.put (M := fun k => k = p) (Upd.of bW) (p := ⟨p, 1, none⟩) (.inl rfl) _).drew
  have hown : E1.drew.ownsMap Tryz.prog 9 RF m V.length (DM V) := map_upd (M := fun k => k = p) h.m hU1.drew (fun e => hpm e.symm)
  have hvn := h.n
  obtain ⟨W3, hr, ho3, ht3⟩ := hown.store lawS Tryz.underlying107 (by unfold maxLen; omega) (keyS hml) (RF_mk f)
  rw [P.put hf] at ho3
  rw [hvl] at hr
  have hU3 : Upd (fun k => k = p ∨ k = m) w W3 := (hU1.drew.mono fun k _ e => .inl e).trans ((turned_upd ht3).mono fun k _ e => .inr e)
  have hX3 : PX W3 p m (A ++ f :: B) q { s with fs := (A ++ f :: B).map fl } F := by
    have hmem : ∀ y ∈ A ++ B, y ∈ V := fun y hy => by
      rw [P.v]
      rcases List.mem_append.1 hy with k | k
      · exact List.mem_append_left _ (List.mem_append_left _ k)
      · exact List.mem_append_right _ k
    have hin : ∀ y ∈ A ++ f :: B, y = f ∨ y ∈ V := fun y hy => by
      rcases List.mem_append.1 hy with k | k
      · exact .inr (hmem y (List.mem_append_left _ k))
      · rcases List.mem_cons.1 k with rfl | k
        · exact .inl rfl
        · exact .inr (hmem y (List.mem_append_right _ k))
    have hnb : ∀ g cur, w.heap[g]? = some (.cells cur 5 (0, 0)) → ¬ (g = p ∨ g = m) := fun g cur e k => by
      rcases k with rfl | rfl
      · rw [h.o] at e
        injection e with e
        injection e with _ e _
        cases e
      · obtain ⟨es, clock, hbb, _⟩ := h.m
        rw [hbb] at e
        injection e with e
        cases e
    refine ⟨?_, ?_, fun y hy => ?_, rfl, ⟨?_, fun g hg => ?_, fun g hg => ?_, h.wf.m0, h.wf.m1, h.wf.b0, h.wf.b1⟩, P.riseP h.r hf, aps_mid (by rw [← P.v]; exact h.d) ha, h.F0, h.F1⟩
    · have e1 : W3.heap[p]? = E1.heap[p]? := (turned_upd ht3).block p (Nat.lt_of_lt_of_le h.lt hU1.size) (fun e => hpm e)
      rw [e1, ← hE1]
      have := heap_setCell_same W p 1 _ _ (.int .i64 ((U : Nat) : Int)) hXE.o
      show (W.setCell ⟨p, 1, none⟩ (.int .i64 ((U : Nat) : Int))).heap[p]? = _
      rw [this]
      show some (Obj.cells #[_, .int .i64 ((U : Nat) : Int), _, _, _, _] _) = _
      rw [← hUU]
    · have := tight ho3
      rw [dm_size] at this
      exact this
    · rcases hin y hy with rfl | k
      · exact hb.upd hU3 hnb
      · exact (h.b y k).upd hU3 hnb
    · show ((A ++ f :: B).map fl).length ≤ 4096
      rw [List.length_map]; exact hl
    · obtain ⟨y, hy, rfl⟩ := List.mem_map.1 hg
      rcases hin y hy with rfl | k
      · exact hs
      · exact h.wf.b (fl y) (by rw [h.f]; exact List.mem_map_of_mem k)
    · obtain ⟨y, hy, rfl⟩ := List.mem_map.1 hg
      rcases hin y hy with rfl | k
      · show y.path.size ≤ 600
        rw [hf]; exact hx
      · exact h.wf.p (fl y) (by rw [h.f]; exact List.mem_map_of_mem k)
  have HT : Hid (PutEnd p m (A ++ f :: B) q s F w (.returned (.tuple #[])) W3) := ⟨rfl, hX3, hU3⟩
  obtain ⟨fs, hfs'⟩ : ∃ fs, f.sure = fs := ⟨_, rfl⟩
  rw [hfs'] at bx1 hvl hW hr
  rw [hvl]
  have hlt := h.lt
  have d0 : E1.cell? ⟨p, 0, none⟩ = some (.map (some m)) := by
    rw [← hE1]
    show (W.setCell _ _).cell? _ = _
    rw [cell_other (by decide)]; exact c0
  have hnp : w.heap.size ≠ p := by omega
  have dx0 : E1.cell? ⟨w.heap.size, 0, none⟩ = some (.slice ba bn bc) := by
    rw [← hE1]
    show (W.setCell _ _).cell? _ = _
    rw [World.cell?_setCell_other _ _ _ _ (fun e => hnp (by injection e with e; exact e.symm))]; exact bx0
  have dx1 : E1.cell? ⟨w.heap.size, 1, none⟩ = some (.bool fs) := by
    rw [← hE1]
    show (W.setCell _ _).cell? _ = _
    rw [World.cell?_setCell_other _ _ _ _ (fun e => hnp (by injection e with e; exact e.symm))]; exact bx1
  generalize hPP : PutEnd p m (A ++ f :: B) q s F w = PP at *
  clear hU hbn htn hXE bW hts' htl hvl hml hus hts hUU hu0 h P hf hb hs hx ha hl hbv htv hpm hU1 hown hvn ho3 ht3 hU3 hX3 hfs' hPP hnp
  go_enter Tryz.func44, Tryz.ntmps44
  go_wp2_with fail
  go_region
  go_wp2_with fail
  go_region
  go_wp2
  exact bodyPost_end (v := .tuple #[]) (by simp [results, Tryz.results44, go_sem]) rfl HT.out
set_option maxHeartbeats 4000000 in
theorem drop_any (p m : Nat) (V : List Fv) (q : Option Nat) (s : St) (F : Int) (x : ByteArray) (A M B : List Fv) (w : World) (h : PX w p m V q s F) (P : Part V x A M B) (hx : x.size ≤ maxLen) :
    Calls Tryz.prog 94 #[.pointer (some ⟨p, 0, none⟩), .string x] w (PutEnd p m (A ++ B) q s F w) := by
  obtain ⟨⟨ta, tn, tc⟩, htv⟩ : ∃ y : Option Addr × Nat × Nat, (top M).bv = y := ⟨_, rfl⟩
  have htl : vl (top M) = .agg #[.slice ta tn tc, .bool (top M).sure] := by unfold vl; rw [htv]
  have htn : tn = (top M).b.size := by have := (h.topB P).n; rw [htv] at this; exact this
  have hts := h.topS P
  have hus := h.used_le
  have hU : (used s.fs : Int) - (tn : Int) = ((used ((A ++ B).map fl) : Nat) : Int) := by
    have h1 := P.used
    rw [← h.f] at h1
    have h3 : used (M.map fl) = (top M).b.size := by
      rcases P.m with ⟨_, e⟩ | ⟨_, g, e, _⟩
      · subst e; rfl
      · subst e; rfl
    omega
  have c0 := h.c0
  have c1 := h.c1
  have f1 := h.soft 1
  have lk := ((h.drewN 1).look P hx).2
  rw [htl] at lk
  have lk : (Instr.lookup 107 (.map (some m)) (.string x) false).run Tryz.prog w.drew = .ok (.agg #[.slice ta tn tc, .bool (top M).sure]) w.drew := lk
  have fd := fld0 w.drew ta tn tc (top M).sure
  obtain ⟨ts, hts'⟩ : ∃ ts, (top M).sure = ts := ⟨_, rfl⟩
  rw [hts'] at lk fd
  obtain ⟨U, hUU⟩ : ∃ U : Nat, used ((A ++ B).map fl) = U := ⟨_, rfl⟩
  obtain ⟨u0, hu0⟩ : ∃ u0 : Nat, used s.fs = u0 := ⟨_, rfl⟩
  rw [hUU] at hU
  rw [hu0] at hU c1 hus
  have w2 : IntKind.i64.wrap ((u0 : Int) - (tn : Int)) = ((U : Nat) : Int) := by rw [hU, IntKind.wrap_i64]; omega
  have hpm := h.ne
  obtain ⟨E1, hE1⟩ : ∃ E1, (w.setCell ⟨p, 1, none⟩ (.int .i64 ((U : Nat) : Int))).drew = E1 := ⟨_, rfl⟩
  have hU1 : Upd (fun k => k = p) w E1 := by rw [← hE1]; exact (Upd.put (M := fun k => k = p) (Upd.refl _ _) (p := ⟨p, 1, none⟩) (.inl rfl) _).drew
  have hown : E1.ownsMap Tryz.prog 9 RF m V.length (DM V) := map_upd (M := fun k => k = p) h.m hU1 (fun e => hpm e.symm)
  obtain ⟨W3, hr, ho3, ht3⟩ := hown.drop lawS Tryz.underlying107 (keyS hx) 0
  rw [P.del] at ho3
  have hU3 : Upd (fun k => k = p ∨ k = m) w W3 := (hU1.mono fun k _ e => .inl e).trans ((turned_upd ht3).mono fun k _ e => .inr e)
  have hX3 : PX W3 p m (A ++ B) q { s with fs := (A ++ B).map fl } F := by
    have hmem : ∀ y ∈ A ++ B, y ∈ V := fun y hy => by
      rw [P.v]
      rcases List.mem_append.1 hy with k | k
      · exact List.mem_append_left _ (List.mem_append_left _ k)
      · exact List.mem_append_right _ k
    have hnb : ∀ g cur, w.heap[g]? = some (.cells cur 5 (0, 0)) → ¬ (g = p ∨ g = m) := fun g cur e k => by
      rcases k with rfl | rfl
      · rw [h.o] at e
        injection e with e
        injection e with _ e _
        cases e
      · obtain ⟨es, clock, hbb, _⟩ := h.m
        rw [hbb] at e
        injection e with e
        cases e
    have hsub : (A ++ B).Sublist V := by
      rw [P.v, List.append_assoc]
      exact List.Sublist.append (List.Sublist.refl _) (List.sublist_append_right _ _)
    have hn := h.n
    refine ⟨?_, ?_, fun y hy => (h.b y (hmem y hy)).upd hU3 hnb, rfl, ⟨?_, fun g hg => ?_, fun g hg => ?_, h.wf.m0, h.wf.m1, h.wf.b0, h.wf.b1⟩, P.riseD h.r, h.d.sublist hsub, h.F0, h.F1⟩
    · have e1 : W3.heap[p]? = E1.heap[p]? := (turned_upd ht3).block p (Nat.lt_of_lt_of_le h.lt hU1.size) (fun e => hpm e)
      rw [e1, ← hE1]
      have := heap_setCell_same w p 1 _ _ (.int .i64 ((U : Nat) : Int)) h.o
      show (w.setCell ⟨p, 1, none⟩ (.int .i64 ((U : Nat) : Int))).heap[p]? = _
      rw [this]
      show some (Obj.cells #[_, .int .i64 ((U : Nat) : Int), _, _, _, _] _) = _
      rw [← hUU]
    · have := tight ho3
      rw [dm_size] at this
      exact this
    · show ((A ++ B).map fl).length ≤ 4096
      rw [List.length_map]; exact Nat.le_trans hsub.length_le hn
    · obtain ⟨y, hy, rfl⟩ := List.mem_map.1 hg
      exact h.wf.b (fl y) (by rw [h.f]; exact List.mem_map_of_mem (hmem y hy))
    · obtain ⟨y, hy, rfl⟩ := List.mem_map.1 hg
      exact h.wf.p (fl y) (by rw [h.f]; exact List.mem_map_of_mem (hmem y hy))
  have HT : Hid (PutEnd p m (A ++ B) q s F w (.returned (.tuple #[])) W3) := ⟨rfl, hX3, hU3⟩
  have d0 : E1.cell? ⟨p, 0, none⟩ = some (.map (some m)) := by
    rw [← hE1]
    show (w.setCell _ _).cell? _ = _
    rw [cell_other (by decide)]; exact c0
  generalize hPP : PutEnd p m (A ++ B) q s F w = PP at *
  clear hU htn hts' htl hus hts hUU hu0 h P hx htv hpm hU1 hown ho3 ht3 hU3 hX3 hPP
  go_enter Tryz.func94, Tryz.ntmps94
  go_wp2_with fail
  go_region
  go_wp2
  exact bodyPost_end (v := .tuple #[]) (by simp [results, Tryz.results94, go_sem]) rfl HT.out
end Go.Proofs.YtebngmgdciahiaaGreatDoor

namespace Go.Proofs.YtebngmgdciahiaaGreatDoor
open Go.RowKit Dk Nm
attribute [local go_sem ↓] Go.wp_at_zero Go.wp_at_succ
set_option linter.unusedVariables false

def fndZ (z : Option Fz) (s : St) (x : ByteArray) : Int := if (askZ z s [x]).1 ≠ 0 then (askZ z s [x]).1 else if there x s.fs = true then 0 else 6
/-- What finding a file leaves. -/
def FindEnd (p m : Nat) (V : List Fv) (q : Option Nat) (s : St) (z : Option Fz) (x : ByteArray) (M : List Fv) (w : World) (e : Ending) (w' : World) : Prop :=
  ∃ t F, e = .returned (.tuple #[vl t, .int .i64 (fndZ z s x)]) ∧ ((fndZ z s x = 0 ∧ (askZ z s [x]).1 = 0 ∧ there x s.fs = true ∧ t = top M) ∨ (fndZ z s x ≠ 0 ∧ ((askZ z s [x]).1 = 0 → there x s.fs = false) ∧ t = zeroF)) ∧
    PX w' p m V q (askZ z s [x]).2.2 F ∧ FZ w' q (askZ z s [x]).2.1 ∧ Upd (Mk p q) w w'
theorem strs1 (w : World) (x : ByteArray) : Strs (w.alloc (.cells #[.string x] 9)) (some ⟨w.heap.size, 0, none⟩) [x] := fun _ => ⟨w.heap.size, 0, rfl, fun i hi => by
  have : i = 0 := by simpa using hi
  subst this
  simp⟩
/-- A block of two cells that is written. -/
theorem two_set {w : World} {g : Nat} {u v : Value} {ty : TypeId} {cs : Array Value} (h : w.heap[g]? = some (.cells #[u, v] ty)) (a b : Value) :
    ((w.setCell ⟨g, 0, none⟩ a).setCell ⟨g, 1, none⟩ b).heap[g]? = some (.cells #[a, b] ty) := by
  have h1 := heap_setCell_same w g 0 _ _ a h
  have h2 := heap_setCell_same _ g 1 _ _ b h1
  rw [h2]; rfl
theorem two_upd {w : World} {g : Nat} (a b : Value) : Upd (fun k => k = g) w ((w.setCell ⟨g, 0, none⟩ a).setCell ⟨g, 1, none⟩ b) :=
  Upd.put (M := fun k => k = g) (Upd.put (M := fun k => k = g) (Upd.refl _ w) (p := ⟨g, 0, none⟩) (.inl rfl) _) (p := ⟨g, 1, none⟩) (.inl rfl) _
set_option maxHeartbeats 4000000 in
theorem find_any (p m : Nat) (V : List Fv) (q : Option Nat) (s : St) (F : Int) (z : Option Fz) (x : ByteArray) (A M B : List Fv) (w : World) (h : PX w p m V q s F) (hz : FZ w q z) (hb : Zb z) (P : Part V x A M B) (hx : x.size ≤ maxLen) :
    Calls Tryz.prog 92 #[.pointer (some ⟨p, 0, none⟩), .string x] w (FindEnd p m V q s z x M w) := by
  obtain ⟨W0, hW0⟩ : ∃ W, w.alloc (.cells #[.slice none 0 0, .bool false] 106) = W := ⟨_, rfl⟩
  have b0 : Below w.heap.size w W0 := by rw [← hW0]; exact bal _ _
  have z0 : W0.heap[w.heap.size]? = some (.cells #[.slice none 0 0, .bool false] 106) := by rw [← hW0]; exact heap_alloc_new _ _
  have n0 : W0.heap.size = w.heap.size + 1 := by rw [← hW0]; simp
  obtain ⟨W, hW⟩ : ∃ W, W0.alloc (.cells #[.string x] 9) = W := ⟨_, rfl⟩
  have b1 : Below w.heap.size w W := by rw [← hW]; exact b0.trans ((bal _ _).mono (by omega))
  have hS : Strs W (some ⟨W0.heap.size, 0, none⟩) [x] := by
    have := strs1 W0 x
    rw [hW] at this
    exact this
  have z1 : W.heap[w.heap.size]? = some (.cells #[.slice none 0 0, .bool false] 106) := by
    rw [← hW, (bal W0 _).block w.heap.size (by omega)]; exact z0
  have cA := pask_any p m V q s F z (some ⟨W0.heap.size, 0, none⟩) 1 [x] W (h.keep b1) (hz.keep b1) hb hS (by show 1 ≤ 1000; omega)
  have hql : ∀ k, q = some k → k < w.heap.size := fun k e => by
    subst e
    obtain ⟨cs, hk⟩ := hz.type
    exact (Array.getElem?_eq_some_iff.1 hk).1
  have hpl := h.lt
  obtain ⟨g, hg⟩ : ∃ g, w.heap.size = g := ⟨_, rfl⟩
  rw [hg] at z1 hpl
  have hfs : (askZ z s [x]).2.2.fs = s.fs := askZ_fs z s [x]
  obtain ⟨d, hd⟩ : ∃ d, fndZ z s x = d := ⟨_, rfl⟩
  have hdl := hd
  unfold fndZ at hdl
  have HE : Hid (∀ t F e w', e = .returned (.tuple #[vl t, .int .i64 d]) → ((d = 0 ∧ (askZ z s [x]).1 = 0 ∧ there x s.fs = true ∧ t = top M) ∨ (d ≠ 0 ∧ ((askZ z s [x]).1 = 0 → there x s.fs = false) ∧ t = zeroF)) → PX w' p m V q (askZ z s [x]).2.2 F → FZ w' q (askZ z s [x]).2.1 → Upd (Mk p q) w w' → FindEnd p m V q s z x M w e w') := by
    intro t F e w' h1 h2 h3 h4 h5
    refine ⟨t, F, ?_, ?_, h3, h4, h5⟩
    · rw [hd]; exact h1
    · rw [hd]; exact h2
  generalize hPP : FindEnd p m V q s z x M w = PP at *
  obtain ⟨e0, he0⟩ : ∃ e0, (askZ z s [x]).1 = e0 := ⟨_, rfl⟩
  obtain ⟨s1, hs1⟩ : ∃ s1, (askZ z s [x]).2.2 = s1 := ⟨_, rfl⟩
  obtain ⟨zz, hzz⟩ : ∃ zz, (askZ z s [x]).2.1 = zz := ⟨_, rfl⟩
  rw [he0, hs1, hzz] at cA HE
  rw [he0] at hdl
  rw [hs1] at hfs
  have HB1 : Hid (Upd (Mk p q) w W) := Upd.of b1
  have HG : Hid (w.heap.size = g) := hg
  have HZ1 : Hid (W.heap[g]? = some (.cells #[.slice none 0 0, .bool false] 106)) := z1
  have HNG : Hid (¬ Mk p q g) := fun k => by
    rcases k with k | k
    · omega
    · have := hql g k; omega
  have HDL : Hid ((if e0 ≠ 0 then e0 else if there x s.fs = true then 0 else 6) = d) := hdl
  have HFS : Hid (s1.fs = s.fs) := hfs
  have HP : Hid (Part V x A M B) := P
  have HX : Hid (x.size ≤ maxLen) := hx
  have cA1 : Calls Tryz.prog 93 #[.pointer (some ⟨p, 0, none⟩), .slice (some ⟨W0.heap.size, 0, none⟩) 1 1] W (PAsk p m V q e0 s1 zz W) := cA
  clear h hz hb P hx z0 b0 z1 b1 hS hql hpl hfs hd hdl hPP he0 hs1 hzz n0 cA
  go_enter Tryz.func92, Tryz.ntmps92
  go_wp2_with fail
  go_at_call 93
  refine cA1.mono ?_
  rintro e w1 ⟨rfl, F1, h1, hz1, u1⟩
  clear cA1
  have hgW : g < W.heap.size := (Array.getElem?_eq_some_iff.1 HZ1.out).1
  have zc : w1.heap[g]? = some (.cells #[.slice none 0 0, .bool false] 106) := (u1.block g hgW HNG.out).trans HZ1.out
  have g0 := cell_of_row w1 g 0 _ _ _ zc
  have g1 := cell_of_row w1 g 1 _ _ _ zc
  have gf : ∀ j, w1.frozen? ⟨g, j, none⟩ = false := fun j => frozen_of_row w1 g j _ _ zc
  simp only [List.getElem?_toArray, List.getElem?_cons_zero, List.getElem?_cons_succ] at g0 g1
  have HZC : Hid (w1.heap[g]? = some (.cells #[.slice none 0 0, .bool false] 106)) := zc
  have HD1 : Hid (PX w1 p m V q s1 F1) := h1
  have HZZ : Hid (FZ w1 q zz) := hz1
  have HU1 : Hid (Upd (Mk p q) w w1) := HB1.out.trans u1
  clear u1 hz1 zc hgW hW hW0
  by_cases k0 : e0 = 0
  · subst k0
    have lk := (h1.look HP.out HX.out).1
    rw [HFS.out] at lk
    have d0 := h1.c0
    obtain ⟨⟨ta, tn, tc⟩, htv⟩ : ∃ y : Option Addr × Nat × Nat, (top M).bv = y := ⟨_, rfl⟩
    obtain ⟨ts, hts'⟩ : ∃ ts, (top M).sure = ts := ⟨_, rfl⟩
    have htl : vl (top M) = .agg #[.slice ta tn tc, .bool ts] := by unfold vl; rw [htv, hts']
    have HTL : Hid (vl (top M) = .agg #[.slice ta tn tc, .bool ts]) := htl
    rw [htl] at lk
    obtain ⟨w2, hw2⟩ : ∃ w2, w1.alloc (.cells #[.slice ta tn tc, .bool ts] 106) = w2 := ⟨_, rfl⟩
    have b2 : Below w1.heap.size w1 w2 := by rw [← hw2]; exact bal _ _
    have hgl : g < w1.heap.size := (Array.getElem?_eq_some_iff.1 HZC.out).1
    have z2 : w2.heap[g]? = some (.cells #[.slice none 0 0, .bool false] 106) := (b2.block g hgl).trans HZC.out
    have y0 := cell_of_row w2 g 0 _ _ _ z2
    have y1 := cell_of_row w2 g 1 _ _ _ z2
    have yf : ∀ j, w2.frozen? ⟨g, j, none⟩ = false := fun j => frozen_of_row w2 g j _ _ z2
    simp only [List.getElem?_toArray, List.getElem?_cons_zero, List.getElem?_cons_succ] at y0 y1
    have x0 : w2.cell? ⟨w1.heap.size, 0, none⟩ = some (.slice ta tn tc) := by rw [← hw2]; simp
    have x1 : w2.cell? ⟨w1.heap.size, 1, none⟩ = some (.bool ts) := by rw [← hw2]; simp
    have HB2 : Hid (Below w1.heap.size w1 w2) := b2
    have HGL : Hid (w.heap.size ≤ g) := by unfold Hid; omega
    have HZ2 : Hid (w2.heap[g]? = some (.cells #[.slice none 0 0, .bool false] 106)) := z2
    clear htl htv hts' h1 g0 g1 gf z2 b2
    have fin : ∀ (a : Option Addr) (n c : Nat) (b : Bool) (w3 : World), (w2.setCell ⟨g, 0, none⟩ (.slice a n c)).setCell ⟨g, 1, none⟩ (.bool b) = w3 → Hid (w3.cell? ⟨g, 0, none⟩ = some (.slice a n c) ∧ w3.cell? ⟨g, 1, none⟩ = some (.bool b) ∧ PX w3 p m V q s1 F1 ∧ FZ w3 q zz ∧ Upd (Mk p q) w w3) := by
      intro a n c b w3 e
      subst e
      have t := two_set (cs := #[]) HZ2.out (.slice a n c) (.bool b)
      have u := two_upd (w := w2) (g := g) (.slice a n c) (.bool b)
      have X2 := HD1.out.keep HB2.out
      have Z2 := HZZ.out.keep HB2.out
      refine ⟨cell_of_row _ g 0 _ _ _ t, cell_of_row _ g 1 _ _ _ t, ?_, ?_, ?_⟩
      · refine X2.turn u (fun k hk cur T e => ?_) (fun e => ?_) ?_ rfl X2.wf X2.F0 X2.F1
        · subst hk
          rw [HZ2.out] at e
          injection e with e
          injection e with _ e _
          subst e; decide
        · subst e
          obtain ⟨es, clock, hbb, _⟩ := X2.m
          rw [hbb] at HZ2
          have := HZ2.out
          injection this with this
          cases this
        · rw [u.block p X2.lt (fun e => HNG.out (.inl e.symm))]; exact X2.o
      · exact Z2.upd u fun k e k2 => HNG.out (.inr (by rw [e, k2]))
      · exact (HU1.out.after HB2.out).then u (fun i hi e => by have := HGL.out; omega)
    cases ht : there x s.fs with
    | true =>
      rw [ht] at lk
      have HDE : Hid (d = 0) := by have := HDL.out; rw [if_neg (fun k => k rfl), if_pos ht] at this; exact this.symm
      have HTH : Hid (there x s.fs = true) := ht
      obtain ⟨w3, hw3⟩ : ∃ w3, (w2.setCell ⟨g, 0, none⟩ (.slice ta tn tc)).setCell ⟨g, 1, none⟩ (.bool ts) = w3 := ⟨_, rfl⟩
      have HF := fin _ _ _ _ _ hw3
      have r0 := HF.out.1
      have r1 := HF.out.2.1
      clear ht fin
      go_wp2
      exact bodyPost_ret (v := .tuple #[.agg #[.slice ta tn tc, .bool ts], .int .i64 0]) (by simp [results, Tryz.results92, go_sem, r0, r1]) rfl (HE.out (top M) F1 _ _ (by rw [HTL.out, HDE.out] <;> rfl) (.inl ⟨HDE.out, by trivial, HTH.out, rfl⟩) HF.out.2.2.1 HF.out.2.2.2.1 HF.out.2.2.2.2)
    | false =>
      rw [ht] at lk
      have HDE : Hid (d = 6) := by have := HDL.out; rw [if_neg (fun k => k rfl), if_neg (by rw [ht]; decide)] at this; exact this.symm
      have HTH : Hid (there x s.fs = false) := ht
      obtain ⟨w3, hw3⟩ : ∃ w3, (w2.setCell ⟨g, 0, none⟩ (.slice none 0 0)).setCell ⟨g, 1, none⟩ (.bool false) = w3 := ⟨_, rfl⟩
      have HF := fin _ _ _ _ _ hw3
      have r0 := HF.out.1
      have r1 := HF.out.2.1
      clear ht fin
      go_wp2
      exact bodyPost_ret (v := .tuple #[.agg #[.slice none 0 0, .bool false], .int .i64 6]) (by simp [results, Tryz.results92, go_sem, r0, r1]) rfl (HE.out zeroF F1 _ _ (by rw [HDE.out] <;> rfl) (.inr ⟨by rw [HDE.out]; decide, fun _ => HTH.out, rfl⟩) HF.out.2.2.1 HF.out.2.2.2.1 HF.out.2.2.2.2)
  · have k1 : (e0 == 0) = false := by simpa using k0
    have HDE : Hid (d = e0) := by have := HDL.out; rw [if_pos k0] at this; exact this.symm
    have HK : Hid (e0 ≠ 0) := k0
    obtain ⟨w3, hw3⟩ : ∃ w3, (w1.setCell ⟨g, 0, none⟩ (.slice none 0 0)).setCell ⟨g, 1, none⟩ (.bool false) = w3 := ⟨_, rfl⟩
    have hgw := HG.out
    have HF : Hid (w3.cell? ⟨g, 0, none⟩ = some (.slice none 0 0) ∧ w3.cell? ⟨g, 1, none⟩ = some (.bool false) ∧ PX w3 p m V q s1 F1 ∧ FZ w3 q zz ∧ Upd (Mk p q) w w3) := by
      rw [← hw3]
      have t := two_set (cs := #[]) HZC.out (.slice none 0 0) (.bool false)
      have u := two_upd (w := w1) (g := g) (.slice none 0 0) (.bool false)
      refine ⟨cell_of_row _ g 0 _ _ _ t, cell_of_row _ g 1 _ _ _ t, ?_, ?_, ?_⟩
      · refine h1.turn u (fun k hk cur T e => ?_) (fun e => ?_) ?_ rfl h1.wf h1.F0 h1.F1
        · subst hk
          rw [HZC.out] at e
          injection e with e
          injection e with _ e _
          subst e; decide
        · subst e
          obtain ⟨es, clock, hbb, _⟩ := h1.m
          rw [hbb] at HZC
          have := HZC.out
          injection this with this
          cases this
        · rw [u.block p h1.lt (fun e => HNG.out (.inl e.symm))]; exact h1.o
      · exact HZZ.out.upd u fun k e k2 => HNG.out (.inr (by rw [e, k2]))
      · exact HU1.out.then u (fun i hi e => by omega)
    have r0 := HF.out.1
    have r1 := HF.out.2.1
    clear h1 k0
    go_wp2
    exact bodyPost_ret (v := .tuple #[.agg #[.slice none 0 0, .bool false], .int .i64 e0]) (by simp [results, Tryz.results92, go_sem, r0, r1]) rfl (HE.out zeroF F1 _ _ (by rw [HDE.out] <;> rfl) (.inr ⟨by rw [HDE.out]; exact HK.out, fun e => absurd e HK.out, rfl⟩) HF.out.2.2.1 HF.out.2.2.2.1 HF.out.2.2.2.2)
end Go.Proofs.YtebngmgdciahiaaGreatDoor

namespace Go.Proofs.YtebngmgdciahiaaGreatDoor
open Go.RowKit Dk Nm
attribute [local go_sem ↓] Go.wp_at_zero Go.wp_at_succ
set_option linter.unusedVariables false

section
variable {V A M B : List Fv} {x : ByteArray}
theorem Part.dataAt (h : Part V x A M B) (t : there x (V.map fl) = true) : Go.Proofs.YtebngmgdciahiaaGreatDoor.dataAt x (V.map fl) = (top M).b := by
  obtain ⟨e, _, _⟩ := top_mem h t
  unfold Go.Proofs.YtebngmgdciahiaaGreatDoor.dataAt
  rw [← h.l, h.v, e]
  simp
  rfl
theorem Part.sureAt (h : Part V x A M B) (t : there x (V.map fl) = true) : Go.Proofs.YtebngmgdciahiaaGreatDoor.setSure (V.map fl) (place x (V.map fl)) = (A ++ { top M with sure := true } :: B).map fl := by
  obtain ⟨e, _, _⟩ := top_mem h t
  unfold Go.Proofs.YtebngmgdciahiaaGreatDoor.setSure
  rw [← h.l]
  apply List.ext_getElem?
  intro i
  rw [h.v, e]
  simp only [List.getElem?_modify, List.map_append, List.map_cons, List.append_assoc, List.singleton_append]
  by_cases k : A.length = i
  · subst k
    simp
    rfl
  · by_cases k2 : i < A.length
    · simp [List.getElem?_append_left, k2, k]
    · rw [List.getElem?_append_right (by simpa using Nat.le_of_not_lt k2), List.getElem?_append_right (by simpa using Nat.le_of_not_lt k2)]
      obtain ⟨j, hj⟩ : ∃ j, i - (A.map fl).length = j + 1 := ⟨i - A.length - 1, by rw [List.length_map]; omega⟩
      rw [hj, List.getElem?_cons_succ, List.getElem?_cons_succ]
      simp [k]
theorem Part.apsT (h : Part V x A M B) (t : there x (V.map fl) = true) (d : V.Pairwise Aps) : ∀ y ∈ A ++ B, Aps y (top M) := by
  obtain ⟨e, _, _⟩ := top_mem h t
  rw [h.v, e] at d
  obtain ⟨h1, h2, h3⟩ := List.pairwise_append.1 d
  obtain ⟨h4, h5, h6⟩ := List.pairwise_append.1 h1
  intro y hy
  rcases List.mem_append.1 hy with k | k
  · exact h6 y k _ (List.mem_singleton.2 rfl)
  · have := h3 (top M) (by simp) y k
    exact fun a b e => this b a e.symm
end
/-- What an operation that answers a number leaves. -/
def POp (p m : Nat) (V : List Fv) (q : Option Nat) (d : Int) (s' : St) (z' : Option Fz) (w : World) (e : Ending) (w' : World) : Prop :=
  e = .returned (.int .i64 d) ∧ ∃ V' F', PX w' p m V' q s' F' ∧ FZ w' q z' ∧ Upd (Ms p m q) w w' ∧ Gw w V V'
theorem mk_ms {p m : Nat} {q : Option Nat} {k : Nat} (h : Mk p q k) : Ms p m q k := by
  rcases h with h | h
  · exact .inl h
  · exact .inr (.inr h)
def PRead (p m : Nat) (V : List Fv) (q : Option Nat) (Y : ByteArray × Int) (s' : St) (z' : Option Fz) (w : World) (e : Ending) (w' : World) : Prop :=
  ∃ bv : Option Addr × Nat × Nat, e = .returned (.tuple #[.slice bv.1 bv.2.1 bv.2.2, .int .i64 Y.2]) ∧ (∀ p s, PB w' ⟨p, bv, s, Y.1⟩) ∧ ∃ F', PX w' p m V q s' F' ∧ FZ w' q z' ∧ Upd (Mk p q) w w'
theorem PB.keep {w w' : World} {x : Fv} (h : PB w x) (b : Below w.heap.size w w') : PB w' x := h.upd (M := fun _ => False) (Upd.of b) fun _ _ _ k => k
set_option maxHeartbeats 4000000 in
theorem pread_any (p m : Nat) (V : List Fv) (q : Option Nat) (s : St) (F : Int) (z : Option Fz) (x : ByteArray) (w : World) (h : PX w p m V q s F) (hz : FZ w q z) (hb : Zb z) (hx : x.size ≤ maxLen) :
    Calls Tryz.prog 60 #[.pointer (some ⟨p, 0, none⟩), .string x] w (PRead p m V q (readZ z s x) (askZ z s [x]).2.2 (askZ z s [x]).2.1 w) := by
  obtain ⟨A, M, B, P⟩ := part_at h.r x
  have cF := find_any p m V q s F z x A M B w h hz hb P hx
  have hs := h.f
  have HP : Hid (Part V x A M B) := P
  have HV : Hid (s.fs = V.map fl) := h.f
  -- what is answered
  have HY : Hid (∀ t, ((fndZ z s x = 0 ∧ (askZ z s [x]).1 = 0 ∧ there x s.fs = true ∧ t = top M) ∨ (fndZ z s x ≠ 0 ∧ ((askZ z s [x]).1 = 0 → there x s.fs = false) ∧ t = zeroF)) → readZ z s x = (t.b, fndZ z s x)) := by
    intro t ht
    unfold readZ
    rcases ht with ⟨h1, h2, h3, h4⟩ | ⟨h1, h2, h4⟩
    · rw [if_neg (fun k => k h2), if_pos h3, h1, h4]
      rw [h.f] at h3 ⊢
      rw [P.dataAt h3]
    · subst h4
      unfold fndZ
      by_cases k : (askZ z s [x]).1 = 0
      · rw [if_neg (fun e => e k), if_neg (by rw [h2 k]; decide), if_neg (fun e => e k), if_neg (by rw [h2 k]; decide)]; rfl
      · rw [if_pos k, if_pos k]; rfl
  obtain ⟨Y, hY⟩ : ∃ Y, readZ z s x = Y := ⟨_, rfl⟩
  rw [hY]
  unfold Hid at HY
  rw [hY] at HY
  have HY : Hid (∀ t, ((fndZ z s x = 0 ∧ (askZ z s [x]).1 = 0 ∧ there x s.fs = true ∧ t = top M) ∨ (fndZ z s x ≠ 0 ∧ ((askZ z s [x]).1 = 0 → there x s.fs = false) ∧ t = zeroF)) → Y = (t.b, fndZ z s x)) := HY
  obtain ⟨d, hd⟩ : ∃ d, fndZ z s x = d := ⟨_, rfl⟩
  rw [hd] at HY
  have HD : Hid (fndZ z s x = d) := hd
  have HT : Hid (∀ (bv : Option Addr × Nat × Nat) (b : ByteArray) F' e w', Y = (b, d) → e = .returned (.tuple #[.slice bv.1 bv.2.1 bv.2.2, .int .i64 d]) → (∀ p s, PB w' ⟨p, bv, s, b⟩) → PX w' p m V q (askZ z s [x]).2.2 F' → FZ w' q (askZ z s [x]).2.1 → Upd (Mk p q) w w' → PRead p m V q Y (askZ z s [x]).2.2 (askZ z s [x]).2.1 w e w') := by
    intro bv b F' e w' hy h1 h2 h3 h4 h5
    subst hy
    exact ⟨bv, h1, h2, F', h3, h4, h5⟩
  have cF1 : Calls Tryz.prog 92 #[.pointer (some ⟨p, 0, none⟩), .string x] w fun e w' => ∃ ta tn tc ts t F1, e = .returned (.tuple #[.agg #[.slice ta tn tc, .bool ts], .int .i64 d]) ∧ Hid (t.bv = (ta, tn, tc) ∧ Y = (t.b, d) ∧ PB w' t ∧ t.b.size ≤ 262144 ∧ PX w' p m V q (askZ z s [x]).2.2 F1 ∧ FZ w' q (askZ z s [x]).2.1 ∧ Upd (Mk p q) w w') := by
    refine cF.mono ?_
    rintro e w1 ⟨t, F1, h1, h2, h3, h4, h5⟩
    rw [hd] at h2 h1
    refine ⟨t.bv.1, t.bv.2.1, t.bv.2.2, t.sure, t, F1, h1, rfl, HY.out t h2, ?_, ?_, h3, h4, h5⟩
    · rcases h2 with ⟨_, _, _, e⟩ | ⟨_, _, e⟩
      · rw [e]; exact h3.topB P
      · rw [e]; exact PB.zero _
    · rcases h2 with ⟨_, _, _, e⟩ | ⟨_, _, e⟩
      · rw [e]; exact h3.topS P
      · rw [e]; exact Nat.zero_le _
  generalize hPP : PRead p m V q Y (askZ z s [x]).2.2 (askZ z s [x]).2.1 w = PP at *
  clear h hz hb hx P cF hs hY hd hPP
  go_enter Tryz.func60, Tryz.ntmps60
  go_wp2_with fail
  go_at_call 92
  refine cF1.mono ?_
  rintro e w1 ⟨ta, tn, tc, ts, t, F1, rfl, HH⟩
  clear cF1
  obtain ⟨w2, hw2⟩ : ∃ w2, w1.alloc (.cells #[.slice ta tn tc, .bool ts] 106) = w2 := ⟨_, rfl⟩
  have b2 : Below w1.heap.size w1 w2 := by rw [← hw2]; exact bal _ _
  have x0 : w2.cell? ⟨w1.heap.size, 0, none⟩ = some (.slice ta tn tc) := by rw [← hw2]; simp
  have x1 : w2.cell? ⟨w1.heap.size, 1, none⟩ = some (.bool ts) := by rw [← hw2]; simp
  have HB2 : Hid (Below w1.heap.size w1 w2) := b2
  have cC : Calls Tryz.prog 45 #[.slice ta tn tc] w2 (ClEnd t.b w2) := by
    obtain ⟨e1, _, hpb, hsz, _⟩ := HH.out
    obtain ⟨f, hf, hr, hst⟩ := hpb.row
    have hn := hpb.n
    have hc := hpb.c
    have hzz := hpb.z
    rw [e1] at hn hc hzz hr
    dsimp only at hn hc hzz hr
    rw [← hn] at hr hst
    exact clone_any ta tn tc t.b f w2 (hr.keep b2) hf hst hn (fun e => by have := hzz e; exact ⟨by omega, this⟩) (by omega)
  clear b2
  go_wp2_with fail
  go_at_call 45
  refine cC.mono ?_
  rintro e w3 ⟨⟨ca, cn, cc⟩, rfl, hpb, _, b3⟩
  have HB3 : Hid (∀ p s, PB w3 ⟨p, (ca, cn, cc), s, t.b⟩) := hpb
  have HB4 : Hid (Below w2.heap.size w2 w3) := b3
  clear cC hpb b3 x0 x1
  dsimp only
  go_wp2
  obtain ⟨_, e2, _, _, h3, h4, h5⟩ := HH.out
  have hbb := HB2.out.trans (HB4.out.mono HB2.out.size)
  exact HT.out (ca, cn, cc) t.b F1 _ _ e2 rfl HB3.out (h3.keep hbb) (h4.keep hbb) (h5.after hbb)

theorem delZ_eq (z : Option Fz) (s : St) (x : ByteArray) : (delZ z s x).1 = fndZ z s x ∧ (fndZ z s x ≠ 0 → (delZ z s x).2 = (askZ z s [x]).2.2) ∧ ((askZ z s [x]).1 = 0 → there x s.fs = true → (delZ z s x).2 = { (askZ z s [x]).2.2 with fs := Dk.cut s.fs (place x s.fs) }) := by
  unfold delZ fndZ
  by_cases k : (askZ z s [x]).1 = 0
  · simp only [k, ne_eq, not_true, if_false]
    by_cases t : there x s.fs = true
    · simp [t]
    · simp [t]
  · simp [k]
theorem synZ_eq (z : Option Fz) (s : St) (x : ByteArray) : (synZ z s x).1 = fndZ z s x ∧ (fndZ z s x ≠ 0 → (synZ z s x).2 = (askZ z s [x]).2.2) ∧ ((askZ z s [x]).1 = 0 → there x s.fs = true → (synZ z s x).2 = { (askZ z s [x]).2.2 with fs := Go.Proofs.YtebngmgdciahiaaGreatDoor.setSure s.fs (place x s.fs) }) := by
  unfold synZ fndZ
  by_cases k : (askZ z s [x]).1 = 0
  · simp only [k, ne_eq, not_true, if_false]
    by_cases t : there x s.fs = true
    · simp [t]
    · simp [t]
  · simp [k]
set_option maxHeartbeats 4000000 in
theorem pdelete_any (p m : Nat) (V : List Fv) (q : Option Nat) (s : St) (F : Int) (z : Option Fz) (x : ByteArray) (w : World) (h : PX w p m V q s F) (hz : FZ w q z) (hb : Zb z) (hx : x.size ≤ maxLen) :
    Calls Tryz.prog 64 #[.pointer (some ⟨p, 0, none⟩), .string x] w (POp p m V q (delZ z s x).1 (delZ z s x).2 (askZ z s [x]).2.1 w) := by
  obtain ⟨A, M, B, P⟩ := part_at h.r x
  have cF := find_any p m V q s F z x A M B w h hz hb P hx
  have hs := h.f
  have hfs : (askZ z s [x]).2.2.fs = s.fs := askZ_fs z s [x]
  obtain ⟨y1, y2, y3⟩ := delZ_eq z s x
  obtain ⟨d, hd⟩ : ∃ d, fndZ z s x = d := ⟨_, rfl⟩
  obtain ⟨s1, hs1⟩ : ∃ s1, (askZ z s [x]).2.2 = s1 := ⟨_, rfl⟩
  rw [hs1] at y2 y3 hfs
  rw [hd] at y1 y2
  rw [y1]
  have HP : Hid (Part V x A M B) := P
  have HT0 : Hid (∀ w' F', d ≠ 0 → PX w' p m V q s1 F' → FZ w' q (askZ z s [x]).2.1 → Upd (Mk p q) w w' → POp p m V q d (delZ z s x).2 (askZ z s [x]).2.1 w (.returned (.int .i64 d)) w') := fun w' F' h0 h1 h2 h3 => ⟨rfl, V, F', by rw [y2 h0]; exact h1, h2, h3.mono fun k _ e => mk_ms e, Gw.sub fun y hy => hy⟩
  have HT1 : Hid (∀ w' F', (askZ z s [x]).1 = 0 → there x s.fs = true → PX w' p m (A ++ B) q { s1 with fs := (A ++ B).map fl } F' → FZ w' q (askZ z s [x]).2.1 → Upd (Ms p m q) w w' → POp p m V q d (delZ z s x).2 (askZ z s [x]).2.1 w (.returned (.int .i64 d)) w') := fun w' F' h0 ht h1 h2 h3 => by
    refine ⟨rfl, A ++ B, F', ?_, h2, h3, Gw.sub fun y hy => ?_⟩
    · rw [y3 h0 ht, hs, P.cut (by rw [← hs]; exact ht)]; exact h1
    · rw [P.v]
      rcases List.mem_append.1 hy with k | k
      · exact List.mem_append_left _ (List.mem_append_left _ k)
      · exact List.mem_append_right _ k
  have cF1 : Calls Tryz.prog 92 #[.pointer (some ⟨p, 0, none⟩), .string x] w fun e w' => ∃ ta tn tc ts F1, e = .returned (.tuple #[.agg #[.slice ta tn tc, .bool ts], .int .i64 d]) ∧ Hid ((d = 0 → (askZ z s [x]).1 = 0 ∧ there x s.fs = true) ∧ PX w' p m V q s1 F1 ∧ FZ w' q (askZ z s [x]).2.1 ∧ Upd (Mk p q) w w') := by
    refine cF.mono ?_
    rintro e w1 ⟨t, F1, h1, h2, h3, h4, h5⟩
    rw [hd] at h2 h1
    rw [hs1] at h3
    refine ⟨t.bv.1, t.bv.2.1, t.bv.2.2, t.sure, F1, h1, fun h0 => ?_, h3, h4, h5⟩
    rcases h2 with ⟨_, a, b, _⟩ | ⟨a, _, _⟩
    · exact ⟨a, b⟩
    · exact absurd h0 a
  have HX : Hid (x.size ≤ maxLen) := hx
  generalize hPP : POp p m V q d (delZ z s x).2 (askZ z s [x]).2.1 w = PP at *
  clear h hz hb hx P cF hs y1 y2 y3 hd hs1 hPP hfs
  go_enter Tryz.func64, Tryz.ntmps64
  go_wp2_with fail
  go_at_call 92
  refine cF1.mono ?_
  rintro e w1 ⟨ta, tn, tc, ts, F1, rfl, HH⟩
  clear cF1
  obtain ⟨w2, hw2⟩ : ∃ w2, w1.alloc (.cells #[.slice ta tn tc, .bool ts] 106) = w2 := ⟨_, rfl⟩
  have b2 : Below w1.heap.size w1 w2 := by rw [← hw2]; exact bal _ _
  have HB2 : Hid (Below w1.heap.size w1 w2) := b2
  by_cases k0 : d = 0
  · subst k0
    have cD : Calls Tryz.prog 94 #[.pointer (some ⟨p, 0, none⟩), .string x] w2 (PutEnd p m (A ++ B) q s1 F1 w2) := by
      obtain ⟨_, h3, _, _⟩ := HH.out
      exact drop_any p m V q s1 F1 x A M B w2 (h3.keep b2) HP.out HX.out
    clear b2
    go_wp2_with fail
    go_at_call 94
    refine cD.mono ?_
    rintro e w3 ⟨rfl, h6, u6⟩
    have H6 : Hid (PX w3 p m (A ++ B) q { s1 with fs := (A ++ B).map fl } F1) := h6
    have U6 : Hid (Upd (fun k => k = p ∨ k = m) w2 w3) := u6
    clear cD h6 u6
    go_wp2
    obtain ⟨hh, h3, h4, h5⟩ := HH.out
    have hh := hh (by trivial)
    refine HT1.out _ F1 hh.1 hh.2 H6.out ((h4.keep HB2.out).upd U6.out fun k e k2 => ?_) (((h5.after HB2.out).mono fun k _ e => mk_ms e).trans (U6.out.mono fun k _ e => by rcases e with e | e; exact .inl e; exact .inr (.inl e)))
    rcases k2 with k2 | k2
    · exact (fz_off h3 h4 e).1 k2.symm
    · exact (fz_off h3 h4 e).2 k2.symm
  · have k1 : (d == 0) = false := by simpa using k0
    have K0 : Hid (d ≠ 0) := k0
    clear b2 k0
    go_wp2
    obtain ⟨hh, h3, h4, h5⟩ := HH.out
    exact HT0.out _ F1 K0.out (h3.keep HB2.out) (h4.keep HB2.out) (h5.after HB2.out)
set_option maxHeartbeats 4000000 in
theorem psync_any (p m : Nat) (V : List Fv) (q : Option Nat) (s : St) (F : Int) (z : Option Fz) (x : ByteArray) (w : World) (h : PX w p m V q s F) (hz : FZ w q z) (hb : Zb z) (hx : x.size ≤ maxLen) :
    Calls Tryz.prog 62 #[.pointer (some ⟨p, 0, none⟩), .string x] w (POp p m V q (synZ z s x).1 (synZ z s x).2 (askZ z s [x]).2.1 w) := by
  obtain ⟨A, M, B, P⟩ := part_at h.r x
  have cF := find_any p m V q s F z x A M B w h hz hb P hx
  have hs := h.f
  have hfs : (askZ z s [x]).2.2.fs = s.fs := askZ_fs z s [x]
  obtain ⟨y1, y2, y3⟩ := synZ_eq z s x
  obtain ⟨d, hd⟩ : ∃ d, fndZ z s x = d := ⟨_, rfl⟩
  obtain ⟨s1, hs1⟩ : ∃ s1, (askZ z s [x]).2.2 = s1 := ⟨_, rfl⟩
  rw [hs1] at y2 y3 hfs
  rw [hd] at y1 y2
  rw [y1]
  have HP : Hid (Part V x A M B) := P
  have HS : Hid (s.fs = V.map fl) := hs
  have HDD : Hid (V.Pairwise Aps) := h.d
  have HT0 : Hid (∀ w' F', d ≠ 0 → PX w' p m V q s1 F' → FZ w' q (askZ z s [x]).2.1 → Upd (Mk p q) w w' → POp p m V q d (synZ z s x).2 (askZ z s [x]).2.1 w (.returned (.int .i64 d)) w') := fun w' F' h0 h1 h2 h3 => ⟨rfl, V, F', by rw [y2 h0]; exact h1, h2, h3.mono fun k _ e => mk_ms e, Gw.sub fun y hy => hy⟩
  have HT1 : Hid (∀ w' F', (askZ z s [x]).1 = 0 → there x s.fs = true → PX w' p m (A ++ { top M with sure := true } :: B) q { s1 with fs := (A ++ { top M with sure := true } :: B).map fl } F' → FZ w' q (askZ z s [x]).2.1 → Upd (Ms p m q) w w' → POp p m V q d (synZ z s x).2 (askZ z s [x]).2.1 w (.returned (.int .i64 d)) w') := fun w' F' h0 ht h1 h2 h3 => by
    refine ⟨rfl, A ++ { top M with sure := true } :: B, F', ?_, h2, h3, fun y hy k a e => .inr ?_⟩
    · rw [y3 h0 ht, hs, P.sureAt (by rw [← hs]; exact ht)]; exact h1
    · obtain ⟨_, ht2, _⟩ := top_mem P (by rw [← hs]; exact ht)
      rcases List.mem_append.1 hy with t | t
      · exact ⟨y, by rw [P.v]; exact List.mem_append_left _ (List.mem_append_left _ t), k, e⟩
      · rcases List.mem_cons.1 t with t | t
        · subst t; exact ⟨top M, ht2, k, e⟩
        · exact ⟨y, by rw [P.v]; exact List.mem_append_right _ t, k, e⟩
  have cF1 : Calls Tryz.prog 92 #[.pointer (some ⟨p, 0, none⟩), .string x] w fun e w' => ∃ ta tn tc ts F1, e = .returned (.tuple #[.agg #[.slice ta tn tc, .bool ts], .int .i64 d]) ∧ Hid ((d = 0 → (askZ z s [x]).1 = 0 ∧ there x s.fs = true ∧ (top M).bv = (ta, tn, tc)) ∧ PX w' p m V q s1 F1 ∧ FZ w' q (askZ z s [x]).2.1 ∧ Upd (Mk p q) w w') := by
    refine cF.mono ?_
    rintro e w1 ⟨t, F1, h1, h2, h3, h4, h5⟩
    rw [hd] at h2 h1
    rw [hs1] at h3
    refine ⟨t.bv.1, t.bv.2.1, t.bv.2.2, t.sure, F1, h1, fun h0 => ?_, h3, h4, h5⟩
    rcases h2 with ⟨_, a, b, c⟩ | ⟨a, _, _⟩
    · subst c; exact ⟨a, b, rfl⟩
    · exact absurd h0 a
  generalize hPP : POp p m V q d (synZ z s x).2 (askZ z s [x]).2.1 w = PP at *
  clear h hz hb hx P cF hs y1 y2 y3 hd hs1 hPP hfs
  go_enter Tryz.func62, Tryz.ntmps62
  go_wp2_with fail
  go_at_call 92
  refine cF1.mono ?_
  rintro e w1 ⟨ta, tn, tc, ts, F1, rfl, HH⟩
  clear cF1
  obtain ⟨w2, hw2⟩ : ∃ w2, w1.alloc (.cells #[.slice ta tn tc, .bool ts] 106) = w2 := ⟨_, rfl⟩
  have b2 : Below w1.heap.size w1 w2 := by rw [← hw2]; exact bal _ _
  have HB2 : Hid (Below w1.heap.size w1 w2) := b2
  by_cases k0 : d = 0
  · subst k0
    have hg2 : w2.heap[w1.heap.size]? = some (.cells #[.slice ta tn tc, .bool ts] 106) := by rw [← hw2]; exact heap_alloc_new _ _
    have x0 := cell_of_row w2 w1.heap.size 0 _ _ _ hg2
    have x1 := cell_of_row w2 w1.heap.size 1 _ _ _ hg2
    have xf := frozen_of_row w2 w1.heap.size 1 _ _ hg2
    simp only [List.getElem?_toArray, List.getElem?_cons_zero, List.getElem?_cons_succ] at x0 x1
    obtain ⟨w3, hw3⟩ : ∃ w3, w2.setCell ⟨w1.heap.size, 1, none⟩ (.bool true) = w3 := ⟨_, rfl⟩
    have hg3 : w3.heap[w1.heap.size]? = some (.cells #[.slice ta tn tc, .bool true] 106) := by
      rw [← hw3, heap_setCell_same w2 w1.heap.size 1 _ _ (.bool true) hg2]; rfl
    have y0 := cell_of_row w3 w1.heap.size 0 _ _ _ hg3
    have y1 := cell_of_row w3 w1.heap.size 1 _ _ _ hg3
    simp only [List.getElem?_toArray, List.getElem?_cons_zero, List.getElem?_cons_succ] at y0 y1
    have b3 : Below w1.heap.size w1 w3 := by rw [← hw3]; exact b2.setCell (Nat.le_refl _) _
    have HB3 : Hid (Below w1.heap.size w1 w3) := b3
    have cD : Calls Tryz.prog 44 #[.pointer (some ⟨p, 0, none⟩), .string x, .agg #[.slice ta tn tc, .bool true]] w3 (PutEnd p m (A ++ { top M with sure := true } :: B) q s1 F1 w3) := by
      obtain ⟨hh, h3, _, _⟩ := HH.out
      obtain ⟨h00, ht, hbv⟩ := hh rfl
      rw [HS.out] at ht
      obtain ⟨hM, hmem, hpath⟩ := top_mem HP.out ht
      have hX3 := h3.keep b3
      have hv : vl { top M with sure := true } = .agg #[.slice ta tn tc, .bool true] := by unfold vl; rw [hbv]
      rw [← hv]
      refine put_any p m V q s1 F1 x { top M with sure := true } A M B w3 hX3 HP.out hpath ((hX3.topB HP.out).as rfl rfl) (hX3.topS HP.out) ?_ ?_ ?_
      · have := hX3.wf.p (fl (top M)) (by rw [hX3.f]; exact List.mem_map_of_mem hmem)
        have e2 : (fl (top M)).path = x := hpath
        rw [e2] at this; exact this
      · intro y hy a b
        exact HP.out.apsT ht HDD.out y hy a b
      · have hn := hX3.n
        have e := HP.out.v
        rw [hM] at e
        rw [e] at hn
        simpa using hn
    clear b2 b3 hg2 hg3
    go_wp2_with fail
    go_at_call 44
    refine cD.mono ?_
    rintro e w4 ⟨rfl, h6, u6⟩
    have H6 : Hid (PX w4 p m (A ++ { top M with sure := true } :: B) q { s1 with fs := (A ++ { top M with sure := true } :: B).map fl } F1) := h6
    have U6 : Hid (Upd (fun k => k = p ∨ k = m) w3 w4) := u6
    clear cD h6 u6
    go_wp2
    obtain ⟨hh, h3, h4, h5⟩ := HH.out
    have hh := hh (by trivial)
    refine HT1.out _ F1 hh.1 hh.2.1 H6.out ((h4.keep HB3.out).upd U6.out fun k e k2 => ?_) (((h5.after HB3.out).mono fun k _ e => mk_ms e).trans (U6.out.mono fun k _ e => by rcases e with e | e; exact .inl e; exact .inr (.inl e)))
    rcases k2 with k2 | k2
    · exact (fz_off h3 h4 e).1 k2.symm
    · exact (fz_off h3 h4 e).2 k2.symm
  · have k1 : (d == 0) = false := by simpa using k0
    have K0 : Hid (d ≠ 0) := k0
    clear b2 k0
    go_wp2
    obtain ⟨hh, h3, h4, h5⟩ := HH.out
    exact HT0.out _ F1 K0.out (h3.keep HB2.out) (h4.keep HB2.out) (h5.after HB2.out)
end Go.Proofs.YtebngmgdciahiaaGreatDoor
