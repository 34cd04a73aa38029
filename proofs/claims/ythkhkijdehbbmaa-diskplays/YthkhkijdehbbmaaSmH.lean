/-
  All paths that begin so, rising.
-/
import Derived.Test.YthkhkijdehbbmaaSmG
import Derived.Test.YthkhkijdehbbmaaSmF
import Derived.Maps.RangeWalk
set_option maxRecDepth 100000
namespace Go.Proofs.Ythkhkijdehbbmaa
open Go.RowKit Go.Sort
open _root_.Go.Proofs.Ythkhkijdehbbmaa.Nm _root_.Go.Proofs.Ythkhkijdehbbmaa.Dk
attribute [local go_sem ↓] Go.wp_at_zero Go.wp_at_succ
set_option linter.unusedVariables false

theorem ranges_upd {M : Nat → Prop} {P : Program} {k : TypeId} {R : Value → Option (DataW Value × List MemPlace)} {w w' : World} {b r n cnt : Nat} {D : DataW Value} {left : Lit → Bool} (h : w.ranges P k R b r n D left cnt) (u : Upd M w w') (hb : ¬ M b) (hr : ¬ M r) : w'.ranges P k R b r n D left cnt := by
  obtain ⟨es, clock, since, seen, c0, h1, F, h2, hD, h3, rest⟩ := h
  exact ⟨es, clock, since, seen, c0, (u.block b (Array.getElem?_eq_some_iff.1 h1).1 hb).trans h1, F, h2, hD, (u.block r (Array.getElem?_eq_some_iff.1 h3).1 hr).trans h3, rest⟩
theorem ranges_r {P : Program} {k : TypeId} {R : Value → Option (DataW Value × List MemPlace)} {w : World} {b r n cnt : Nat} {D : DataW Value} {left : Lit → Bool} (h : w.ranges P k R b r n D left cnt) {cs : Array Value} {ty : TypeId} {fr : Nat × Nat} : w.heap[r]? ≠ some (.cells cs ty fr) := by
  obtain ⟨es, clock, since, seen, c0, h1, F, h2, hD, h3, rest⟩ := h
  rw [h3]; intro e; injection e with e; cases e
theorem ranges_b {P : Program} {k : TypeId} {R : Value → Option (DataW Value × List MemPlace)} {w : World} {b r n cnt : Nat} {D : DataW Value} {left : Lit → Bool} (h : w.ranges P k R b r n D left cnt) {cs : Array Value} {ty : TypeId} {fr : Nat × Nat} : w.heap[b]? ≠ some (.cells cs ty fr) := by
  obtain ⟨es, clock, since, seen, c0, h1, F, h2, hD, h3, rest⟩ := h
  rw [h1]; intro e; injection e with e; cases e
theorem has_mem (V : List Fv) (t : ByteArray) : Maps.has (DM V) (kl t) = true ↔ ∃ y ∈ V, y.path = t := by
  show (V.map en).any (fun e => e.1.sameKey (kl t)) = true ↔ _
  rw [List.any_eq_true]
  constructor
  · rintro ⟨e, he, h⟩
    obtain ⟨y, hy, rfl⟩ := List.mem_map.1 he
    refine ⟨y, hy, ?_⟩
    have h : (kl y.path).sameKey (kl t) = true := h
    rw [kl_same] at h
    exact of_decide_eq_true h
  · rintro ⟨y, hy, rfl⟩
    exact ⟨en y, List.mem_map_of_mem hy, by show (kl y.path).sameKey (kl y.path) = true; rw [kl_same]; exact decide_eq_true rfl⟩
theorem keyS_inv {v : Value} {l : Lit} (h : keyOf Try.prog 9 v = some l) : ∃ s : ByteArray, v = .string s ∧ l = kl s ∧ s.size ≤ maxLen := Go.WideMaps.string_of_keyOf Try.underlying9 h
theorem rf_inv {v : Value} {y : DataW Value × List MemPlace} (h : RF v = some y) : ∃ c : Option Addr × Nat × Nat × Bool, v = .agg #[.slice c.1 c.2.1 c.2.2.1, .bool c.2.2.2] := by
  obtain ⟨_, a, n, c, b, e⟩ := RF_inv h
  exact ⟨(a, n, c, b), e⟩
/-- What is there so far. -/
structure Got (V : List Fv) (x : ByteArray) (left : Lit → Bool) (L : List Sv) : Prop where
  nd : (L.map fun y => tx y.s).Nodup
  mem : ∀ t : ByteArray, tx t ∈ L.map (fun y => tx y.s) ↔ ∃ y ∈ V, y.path = t ∧ pre (tx t) (tx x) = true ∧ left (kl t) = false
theorem Got.start (V : List Fv) (x : ByteArray) : Got V x (Maps.has (DM V)) [] := ⟨List.nodup_nil, fun t => by
  constructor
  · intro h; cases h
  · rintro ⟨y, hy, rfl, _, h⟩
    rw [(has_mem V y.path).2 ⟨y, hy, rfl⟩] at h; cases h⟩
theorem struck {left : Lit → Bool} {t u : ByteArray} : (left (kl u) && !(kl u).sameKey (kl t)) = false ↔ left (kl u) = false ∨ u = t := by
  rw [kl_same]
  by_cases h : u = t
  · subst h; simp
  · simp [h]
theorem Got.skip {V : List Fv} {x t : ByteArray} {left : Lit → Bool} {L : List Sv} (h : Got V x left L) (hp : pre (tx t) (tx x) = false) : Got V x (fun z => left z && !z.sameKey (kl t)) L := ⟨h.nd, fun u => by
  rw [h.mem u]
  constructor
  · rintro ⟨y, hy, e, p, l⟩
    exact ⟨y, hy, e, p, struck.2 (.inl l)⟩
  · rintro ⟨y, hy, e, p, l⟩
    rcases struck.1 l with l | l
    · exact ⟨y, hy, e, p, l⟩
    · subst l
      rw [p] at hp; cases hp⟩
theorem Got.more {V : List Fv} {x t : ByteArray} {left : Lit → Bool} {L : List Sv} (h : Got V x left L) (hp : pre (tx t) (tx x) = true) (hl : left (kl t) = true) (hm : ∃ y ∈ V, y.path = t) : Got V x (fun z => left z && !z.sameKey (kl t)) (L ++ [⟨t⟩]) := by
  have hn : tx t ∉ L.map (fun y => tx y.s) := fun k => by
    obtain ⟨_, _, _, _, l⟩ := (h.mem t).1 k
    rw [hl] at l; cases l
  refine ⟨?_, fun u => ?_⟩
  · rw [List.map_append]
    refine List.nodup_append.2 ⟨h.nd, by simp, fun a ha b hb e => ?_⟩
    rw [List.map_singleton, List.mem_singleton] at hb
    subst hb; subst e
    exact hn ha
  · rw [List.map_append, List.mem_append, h.mem u]
    constructor
    · rintro (⟨y, hy, e, p, l⟩ | k)
      · exact ⟨y, hy, e, p, struck.2 (.inl l)⟩
      · rw [List.map_singleton, List.mem_singleton] at k
        have := tx_inj k
        subst this
        obtain ⟨y, hy, e⟩ := hm
        exact ⟨y, hy, e, hp, struck.2 (.inr rfl)⟩
    · rintro ⟨y, hy, e, p, l⟩
      rcases struck.1 l with l | l
      · exact .inl ⟨y, hy, e, p, l⟩
      · subst l
        exact .inr (by simp)
/-- What stands there in the end, sorted, is the list. -/
theorem Got.done {V : List Fv} {x : ByteArray} {left : Lit → Bool} {L L' : List Sv} (h : Got V x left L) (hr : Rise V) (hl : ∀ k, left k = false) (hp : PermIn 0 L.length (L.map fun y => tx y.s).toArray (L'.map fun y => tx y.s).toArray) (hs : SortedIn ls 0 L.length (L'.map fun y => tx y.s).toArray) :
    (L'.map fun y => y.s) = lst x (V.map fl) := by
  obtain ⟨G, hG⟩ : ∃ G, (V.filter fun f => pre (tx f.path) (tx x)).map (fun f => tx f.path) = G := ⟨_, rfl⟩
  have hGr : G.Pairwise fun a b => ls a b = true := by
    rw [← hG, List.pairwise_map]
    exact hr.sublist List.filter_sublist
  have hGn : G.Nodup := hGr.imp fun {a b} k e => by subst e; rw [ls_same] at k; cases k
  have hperm : G.Perm (L.map fun y => tx y.s) := (List.perm_ext_iff_of_nodup hGn h.nd).2 fun a => by
    have ha : a = tx ⟨a.toArray⟩ := by unfold tx; simp
    rw [ha, h.mem, ← hG]
    constructor
    · intro k
      obtain ⟨y, hy, e⟩ := List.mem_map.1 k
      obtain ⟨h1, h2⟩ := List.mem_filter.1 hy
      refine ⟨y, h1, tx_inj e, ?_, hl _⟩
      rw [← e]; exact h2
    · rintro ⟨y, hy, e, p, _⟩
      refine List.mem_map.2 ⟨y, List.mem_filter.2 ⟨hy, ?_⟩, by rw [e]⟩
      rw [e]; exact p
  have hlen : G.length = L.length := by rw [hperm.length_eq, List.length_map]
  have hsz : (L.map fun y => tx y.s).toArray.size = L.length := by simp
  have anti : ∀ a b : List UInt8, ls a b = false → ls b a = false → a = b := fun a b h k => ls_none a b h k
  have e1 := sorted_unique_holds (lt := ls) swo_ls anti _ _ (by rw [hsz]; exact hp) (by rw [hsz]; exact hs)
  have e2 := sorted_unique_holds (lt := ls) swo_ls anti (L.map fun y => tx y.s).toArray G.toArray (by
    refine ⟨by rw [hsz]; simpa using hlen, fun i hi => ?_, ?_⟩
    · rcases hi with hi | hi
      · exact absurd hi (Nat.not_lt_zero _)
      · rw [hsz] at hi
        rw [getElem!_neg G.toArray i (by simp; omega), getElem!_neg _ i (by rw [hsz]; omega)]
    · have q1 : (G.toArray.extract 0 (L.map fun y => tx y.s).toArray.size).toList = G := by rw [hsz, ← hlen]; simp
      have q2 : ((L.map fun y => tx y.s).toArray.extract 0 (L.map fun y => tx y.s).toArray.size).toList = L.map fun y => tx y.s := by
        rw [hsz, Array.toList_extract]
        show List.take (L.length - 0) (List.drop 0 (L.map fun y => tx y.s)) = _
        rw [List.drop_zero, Nat.sub_zero]
        exact List.take_of_length_le (by simp)
      rw [q1, q2]; exact hperm) (by
    intro i j _ hij hj
    rw [hsz, ← hlen] at hj
    have := List.pairwise_iff_getElem.1 hGr i j (by omega) hj hij
    rw [getElem!_pos _ i (by simp; omega), getElem!_pos _ j (by simpa using hj)]
    simp only [List.getElem_toArray]
    exact ls_both _ _ this)
  have e3 : (L'.map fun y => tx y.s) = G := by
    have := e1.trans e2.symm
    simpa using this
  have e4 : (L'.map fun y => y.s).map tx = (lst x (V.map fl)).map tx := by
    rw [List.map_map]
    show (L'.map fun y => tx y.s) = _
    rw [e3, ← hG]
    unfold lst
    rw [List.filter_map, List.map_map, List.map_map]
    rfl
  exact (List.map_inj_right fun a b k => tx_inj k).1 e4
end Go.Proofs.Ythkhkijdehbbmaa
