/-
  Texts of earlier stages, one behind the other: SmH, SmI, SmJ.
-/
import Derived.Test.YtebngmgdciahiaaDoorG3
import Derived.Maps.RangeWalk
import Derived.Test.YtebngmgdciahiaaDoorG1a
import Derived.Lib.RowBridge
import Derived.Lib.SortBridge
import Derived.Sort.LotA
import Derived.Sort.OwnSorted
set_option maxRecDepth 100000
namespace Go.Proofs.YtebngmgdciahiaaDoor
open Go.RowKit Go.Sort
open _root_.Go.Proofs.YtebngmgdciahiaaDoor.Nm _root_.Go.Proofs.YtebngmgdciahiaaDoor.Dk
attribute [local go_sem ↓] Go.wp_at_zero Go.wp_at_succ
set_option linter.unusedVariables false

theorem ranges_upd {M : Nat → Prop} {P : Program} {k : TypeId} {R : Value → Option (DataW Value × List MemPlace)} {w w' : World} {b r n cnt : Nat} {D : DataW Value} {left : Lit → Bool} (h : w.ranges P k R b r n D left cnt) (u : Upd M w w') (hb : ¬ M b) (hr : ¬ M r) : w'.ranges P k R b r n D left cnt := by
  obtain ⟨es, clock, since, seen, c0, h1, F, h2, hD, h3, rest⟩ := h
  exact ⟨es, clock, since, seen, c0, (u.block b (Array.getElem?_eq_some_iff.1 h1).1 hb).trans h1, F, h2, hD, (u.block r (Array.getElem?_eq_some_iff.1 h3).1 hr).trans h3, rest⟩
theorem ranges_r {P : Program} {k : TypeId} {R : Value → Option (DataW Value × List MemPlace)} {w : World} {b r n cnt : Nat} {D : DataW Value} {left : Lit → Bool} (h : w.ranges P k R b r n D left cnt) {cs : Array Value} {ty : TypeId} {fr : Nat × Nat} : w.heap[r]? ≠ some (.cells cs ty fr) := by
  obtain ⟨es, clock, since, seen, c0, h1, F, h2, hD, h3, rest⟩ := h
  rw [h3]; intro e; injection e with e; cases e
theorem ranges_b {P : Program} {k : TypeId} {R : Value → Option (DataW Value × List MemPlace)} {w : World} {b r n cnt : Nat} {D : DataW Value} {left : Lit → Bool} (h : w.ranges P k R b r n D left cnt) {cs : Array Value} {ty : TypeId} {fr : Nat × Nat} : w.heap[b]? ≠ some (.cells cs ty fr) := by
  obtain ⟨es, clock, since, seen, c0, h1, F, h2, hD, h3, rest⟩ := h
  rw [h1]; intro e; injection e with e; cases e
theorem has_mem (V : List Fv) (t : ByteArray) : Maps.has (DM V) (kl t) = true ↔ ∃ y ∈ V, y.path = t := by
  show (V.map en).any (fun e => e.1.sameKey (kl t)) = true ↔ _
  rw [List.any_eq_true]
  constructor
  · rintro ⟨e, he, h⟩
    obtain ⟨y, hy, rfl⟩ := List.mem_map.1 he
    refine ⟨y, hy, ?_⟩
    have h : (kl y.path).sameKey (kl t) = true := h
    rw [kl_same] at h
    exact of_decide_eq_true h
  · rintro ⟨y, hy, rfl⟩
    exact ⟨en y, List.mem_map_of_mem hy, by show (kl y.path).sameKey (kl y.path) = true; rw [kl_same]; exact decide_eq_true rfl⟩
theorem keyS_inv {v : Value} {l : Lit} (h : keyOf Tryd.prog 9 v = some l) : ∃ s : ByteArray, v = .string s ∧ l = kl s ∧ s.size ≤ maxLen := Go.WideMaps.string_of_keyOf Tryd.underlying9 h
theorem rf_inv {v : Value} {y : DataW Value × List MemPlace} (h : RF v = some y) : ∃ c : Option Addr × Nat × Nat × Bool, v = .agg #[.slice c.1 c.2.1 c.2.2.1, .bool c.2.2.2] := by
  obtain ⟨_, a, n, c, b, e⟩ := RF_inv h
  exact ⟨(a, n, c, b), e⟩
/-- What is there so far. -/
structure Got (V : List Fv) (x : ByteArray) (left : Lit → Bool) (L : List Sv) : Prop where
  nd : (L.map fun y => tx y.s).Nodup
  mem : ∀ t : ByteArray, tx t ∈ L.map (fun y => tx y.s) ↔ ∃ y ∈ V, y.path = t ∧ pre (tx t) (tx x) = true ∧ left (kl t) = false
theorem Got.start (V : List Fv) (x : ByteArray) : Got V x (Maps.has (DM V)) [] := ⟨List.nodup_nil, fun t => by
  constructor
  · intro h; cases h
  · rintro ⟨y, hy, rfl, _, h⟩
    rw [(has_mem V y.path).2 ⟨y, hy, rfl⟩] at h; cases h⟩
theorem struck {left : Lit → Bool} {t u : ByteArray} : (left (kl u) && !(kl u).sameKey (kl t)) = false ↔ left (kl u) = false ∨ u = t := by
  rw [kl_same]
  by_cases h : u = t
  · subst h; simp
  · simp [h]
theorem Got.skip {V : List Fv} {x t : ByteArray} {left : Lit → Bool} {L : List Sv} (h : Got V x left L) (hp : pre (tx t) (tx x) = false) : Got V x (fun z => left z && !z.sameKey (kl t)) L := ⟨h.nd, fun u => by
  rw [h.mem u]
  constructor
  · rintro ⟨y, hy, e, p, l⟩
    exact ⟨y, hy, e, p, struck.2 (.inl l)⟩
  · rintro ⟨y, hy, e, p, l⟩
    rcases struck.1 l with l | l
    · exact ⟨y, hy, e, p, l⟩
    · subst l
      rw [p] at hp; cases hp⟩
theorem Got.more {V : List Fv} {x t : ByteArray} {left : Lit → Bool} {L : List Sv} (h : Got V x left L) (hp : pre (tx t) (tx x) = true) (hl : left (kl t) = true) (hm : ∃ y ∈ V, y.path = t) : Got V x (fun z => left z && !z.sameKey (kl t)) (L ++ [⟨t⟩]) := by
  have hn : tx t ∉ L.map (fun y => tx y.s) := fun k => by
    obtain ⟨_, _, _, _, l⟩ := (h.mem t).1 k
    rw [hl] at l; cases l
  refine ⟨?_, fun u => ?_⟩
  · rw [List.map_append]
    refine List.nodup_append.2 ⟨h.nd, by simp, fun a ha b hb e => ?_⟩
    rw [List.map_singleton, List.mem_singleton] at hb
    subst hb; subst e
    exact hn ha
  · rw [List.map_append, List.mem_append, h.mem u]
    constructor
    · rintro (⟨y, hy, e, p, l⟩ | k)
      · exact ⟨y, hy, e, p, struck.2 (.inl l)⟩
      · rw [List.map_singleton, List.mem_singleton] at k
        have := tx_inj k
        subst this
        obtain ⟨y, hy, e⟩ := hm
        exact ⟨y, hy, e, hp, struck.2 (.inr rfl)⟩
    · rintro ⟨y, hy, e, p, l⟩
      rcases struck.1 l with l | l
      · exact .inl ⟨y, hy, e, p, l⟩
      · subst l
        exact .inr (by simp)
end Go.Proofs.YtebngmgdciahiaaDoor

namespace Go.Proofs.YtebngmgdciahiaaDoor
open Go.RowKit
open _root_.Go.Proofs.YtebngmgdciahiaaDoor.Nm _root_.Go.Proofs.YtebngmgdciahiaaDoor.Dk
attribute [local go_sem ↓] Go.wp_at_zero Go.wp_at_succ
set_option linter.unusedVariables false

/-- A row of texts that is new. -/
def PathsEnd (Y : List ByteArray) (w : World) (e : Ending) (w' : World) : Prop :=
  ∃ v M, e = .returned v ∧ SOwn w' w.heap.size v M ∧ (M.map fun y => y.s) = Y ∧ Below w.heap.size w w'
theorem vl_inv {v : Value} {y : DataW Value × List MemPlace} (h : RF v = some y) : ∃ c : Fv, v = vl c := by
  obtain ⟨_, a, n, c, b, e⟩ := RF_inv h
  exact ⟨⟨⟨#[]⟩, (a, n, c), b, ⟨#[]⟩⟩, e⟩
/-- The round's relation. -/
structure Walk (V : List Fv) (x : ByteArray) (m Bs r : Nat) (w : World) (left : Lit → Bool) (cnt : Nat) (v : Value) (L : List Sv) (wr : World) : Prop where
  rg : wr.ranges Tryd.prog 9 RF m r V.length (DM V) left cnt
  bx : wr.heap[Bs]? = some (.cells #[v] 124)
  ow : SOwn wr (Bs + 2) v L
  gt : Got V x left L
  ln : L.length + cnt ≤ V.length
  bl : Below Bs w wr
  sz : Bs + 2 ≤ wr.heap.size
theorem sown_upd {M : Nat → Prop} {w w' : World} {base : Nat} {v : Value} {L : List Sv} (h : SOwn w base v L) (u : Upd M w w') (hm : ∀ g cur, w.heap[g]? = some (.cells cur 9 (0, 0)) → ¬ M g) : SOwn w' base v L := own_upd h u hm
/-- What List leaves. -/
def PList (p m : Nat) (V : List Fv) (q : Option Nat) (Y : List ByteArray × Int) (s' : St) (z' : Option Fz) (w : World) (e : Ending) (w' : World) : Prop :=
  ∃ v M, e = .returned (.tuple #[v, .int .i64 Y.2]) ∧ SOwn w' w.heap.size v M ∧ (M.map fun y => y.s) = Y.1 ∧ ∃ F', PX w' p m V q s' F' ∧ FZ w' q z' ∧ Upd (Mk p q) w w'
/-- Files. -/
theorem lst_all (l : List Fl) : lst ⟨#[]⟩ l = l.map fun f => f.path := by
  unfold lst
  congr 1
  rw [List.filter_eq_self]
  intro f _
  exact pre_nil _
end Go.Proofs.YtebngmgdciahiaaDoor

namespace Go.Proofs.YtebngmgdciahiaaDoor
open Go.RowKit
open _root_.Go.Proofs.YtebngmgdciahiaaDoor.Nm _root_.Go.Proofs.YtebngmgdciahiaaDoor.Dk
attribute [local go_sem ↓] Go.wp_at_zero Go.wp_at_succ
set_option linter.unusedVariables false

def z0 : Fz := ⟨0, 0, false⟩
theorem newfuse_any (w : World) : Calls Tryd.prog 33 #[] w fun e w' => e = .returned (.pointer (some ⟨w.heap.size, 0, none⟩)) ∧ FZ w' (some w.heap.size) (some z0) ∧ Below w.heap.size w w' := by
  have HF : Hid (FZ (w.alloc (.cells #[.int .i64 0, .int .i64 0] 112)) (some w.heap.size) (some z0)) := ⟨heap_alloc_new _ _, rfl⟩
  go_enter Tryd.func33, Tryd.ntmps33
  go_wp2
  go_ret
  exact ⟨rfl, HF.out, bal _ _⟩
theorem newPX (w : World) (q : Option Nat) (mo : Int) (h0 : 0 ≤ mo) (h1 : mo ≤ 4194304) : PX ((w.alloc (.map #[] 0)).alloc (.cells #[.map (some w.heap.size), .int .i64 0, .int .i64 mo, .pointer (q.map fun k => ⟨k, 0, none⟩), .bool false, .int .i64 0] 78)) (w.alloc (.map #[] 0)).heap.size w.heap.size [] q ⟨[], mo, false, 0⟩ 0 := by
  refine ⟨heap_alloc_new _ _, ?_, fun x hx => absurd hx (List.not_mem_nil), rfl, ⟨Nat.zero_le _, fun f hf => absurd hf (List.not_mem_nil), fun f hf => absurd hf (List.not_mem_nil), h0, h1, Int.le_refl _, (by show (0 : Int) ≤ 9223372036854775807; decide)⟩, List.Pairwise.nil, List.Pairwise.nil, rfl, ⟨by decide, by decide⟩⟩
  exact (World.ownsMap_made w Tryd.prog 9 RF).alloc _
set_option maxHeartbeats 2000000 in
theorem new_any (mo : Int) (q : Option Nat) (w : World) (hm0 : -9223372036854775808 ≤ mo) (hm1 : mo ≤ 9223372036854775807) :
    Calls Tryd.prog 9 #[.int .i64 mo, .pointer (q.map fun k => ⟨k, 0, none⟩)] w fun e w' => e = .returned (.pointer (some ⟨w.heap.size + 1, 0, none⟩)) ∧ PX w' (w.heap.size + 1) w.heap.size [] q (newSt mo) 0 ∧ Below w.heap.size w w' := by
  obtain ⟨r, hr⟩ : ∃ r, (q.map fun k => (⟨k, 0, none⟩ : Addr)) = r := ⟨_, rfl⟩
  have hsz : (w.alloc (.map #[] 0)).heap.size = w.heap.size + 1 := by simp
  have hmm := @run_makeMap Tryd.prog
  have K : ∀ mm : Int, 0 ≤ mm → mm ≤ 4194304 → newSt mo = ⟨[], mm, false, 0⟩ → Hid (PX ((w.alloc (.map #[] 0)).alloc (.cells #[.map (some w.heap.size), .int .i64 0, .int .i64 mm, .pointer r, .bool false, .int .i64 0] 78)) (w.heap.size + 1) w.heap.size [] q (newSt mo) 0) := fun mm h0 h1 e => by
    have := newPX w q mm h0 h1
    rw [hsz, hr] at this
    unfold Hid
    rw [e]; exact this
  have HB : ∀ v, Hid (Below w.heap.size w ((w.alloc (.map #[] 0)).alloc (.cells v 78))) := fun v => (bal _ _).alloc (by simp) _
  rw [hr]
  by_cases h0 : mo < 0
  · have HK := K 0 (Int.le_refl _) (by decide) (by unfold newSt; rw [if_pos (.inl h0)])
    clear K hr
    go_enter Tryd.func9, Tryd.ntmps9
    go_wp2
    go_ret
    exact ⟨by simp, HK.out, (HB _).out⟩
  · have d0 : decide (mo < 0) = false := decide_eq_false h0
    by_cases h1 : 4194304 < mo
    · have HK := K 0 (Int.le_refl _) (by decide) (by unfold newSt; rw [if_pos (.inr h1)])
      have d1 : decide (4194304 < mo) = true := decide_eq_true h1
      clear K hr
      go_enter Tryd.func9, Tryd.ntmps9
      go_wp2
      go_ret
      exact ⟨by simp, HK.out, (HB _).out⟩
    · have HK := K mo (by omega) (by omega) (by unfold newSt; rw [if_neg (by omega)])
      have d1 : decide (4194304 < mo) = false := decide_eq_false h1
      clear K hr
      go_enter Tryd.func9, Tryd.ntmps9
      go_wp2
      go_ret
      exact ⟨by simp, HK.out, (HB _).out⟩
theorem room_pany (p m : Nat) (V : List Fv) (q : Option Nat) (s : St) (F : Int) (w : World) (h : PX w p m V q s F) :
    Calls Tryd.prog 40 #[.pointer (some ⟨p, 0, none⟩)] w fun e w' => e = .returned (.int .i64 (s.most - ((used s.fs : Nat) : Int))) ∧ ∃ n, w' = w.drewN n := by
  have c1 := h.c1
  have c2 := h.c2
  have hu := h.used_le
  have m0 := h.wf.m0
  have m1 := h.wf.m1
  obtain ⟨u, hu'⟩ : ∃ u : Nat, used s.fs = u := ⟨_, rfl⟩
  obtain ⟨mo, hm⟩ : ∃ mo, s.most = mo := ⟨_, rfl⟩
  rw [hu'] at c1 hu ⊢
  rw [hm] at c2 m0 m1 ⊢
  have wz : IntKind.i64.wrap (mo - (u : Int)) = mo - (u : Int) := by rw [IntKind.wrap_i64]; omega
  clear h hu' hm
  go_enter Tryd.func40, Tryd.ntmps40
  go_wp2_with fail
  go_quiet (fail)
  go_wp2
  go_ret
  exact ⟨rfl, nq, rfl⟩
theorem p_only {w : World} {p m : Nat} {V : List Fv} {q : Option Nat} {s : St} {F : Int} (h : PX w p m V q s F) : (∀ k, k = p → ∀ cur T, w.heap[k]? = some (.cells cur T (0, 0)) → T ≠ 5) ∧ ¬ m = p := by
  refine ⟨fun k hk cur T e => ?_, fun e => h.ne e.symm⟩
  subst hk
  rw [h.o] at e
  injection e with e
  injection e with _ e _
  subst e; decide
theorem offline_any (p m : Nat) (V : List Fv) (q : Option Nat) (s : St) (F : Int) (b : Bool) (w : World) (h : PX w p m V q s F) :
    Calls Tryd.prog 23 #[.pointer (some ⟨p, 0, none⟩), .bool b] w fun e w' => e = .returned (.tuple #[]) ∧ PX w' p m V q { s with off := b } F ∧ Upd (fun k => k = p) w w' := by
  have c4 := h.c4
  have f4 := h.soft 4
  obtain ⟨w3, hw3⟩ : ∃ w3, w.setCell ⟨p, 4, none⟩ (.bool b) = w3 := ⟨_, rfl⟩
  have u : Upd (fun k => k = p) w w3 := by rw [← hw3]; exact Upd.put (M := fun k => k = p) (Upd.refl _ _) (p := ⟨p, 4, none⟩) (.inl rfl) _
  have HF : Hid (PX w3 p m V q { s with off := b } F ∧ Upd (fun k => k = p) w w3) := by
    refine ⟨h.turn u (p_only h).1 (p_only h).2 ?_ rfl ⟨h.wf.n, h.wf.b, h.wf.p, h.wf.m0, h.wf.m1, h.wf.b0, h.wf.b1⟩ h.F0 h.F1, u⟩
    rw [← hw3, heap_setCell_same w p 4 _ _ (.bool b) h.o]; rfl
  obtain ⟨ob, hob⟩ : ∃ ob, s.off = ob := ⟨_, rfl⟩
  rw [hob] at c4
  clear h u hob
  go_enter Tryd.func23, Tryd.ntmps23
  go_wp2
  exact bodyPost_end (v := .tuple #[]) (by simp [results, Tryd.results23, go_sem]) rfl ⟨rfl, HF.out.1, HF.out.2⟩
theorem fail_any (p m : Nat) (V : List Fv) (q : Option Nat) (s : St) (F n : Int) (w : World) (h : PX w p m V q s F) (h0 : -9223372036854775808 ≤ n) (h1 : n ≤ 9223372036854775807) :
    Calls Tryd.prog 25 #[.pointer (some ⟨p, 0, none⟩), .int .i64 n] w fun e w' => e = .returned (.tuple #[]) ∧ PX w' p m V q { s with bad := max n 0 } n ∧ Upd (fun k => k = p) w w' := by
  have c4 := h.c5
  have f4 := h.soft 5
  obtain ⟨w3, hw3⟩ : ∃ w3, w.setCell ⟨p, 5, none⟩ (.int .i64 n) = w3 := ⟨_, rfl⟩
  have u : Upd (fun k => k = p) w w3 := by rw [← hw3]; exact Upd.put (M := fun k => k = p) (Upd.refl _ _) (p := ⟨p, 5, none⟩) (.inl rfl) _
  have HF : Hid (PX w3 p m V q { s with bad := max n 0 } n ∧ Upd (fun k => k = p) w w3) := by
    refine ⟨h.turn u (p_only h).1 (p_only h).2 ?_ rfl ⟨h.wf.n, h.wf.b, h.wf.p, h.wf.m0, h.wf.m1, (by show 0 ≤ max n 0; omega), (by show max n 0 ≤ _; omega)⟩ rfl ⟨h0, h1⟩, u⟩
    rw [← hw3, heap_setCell_same w p 5 _ _ (.int .i64 n) h.o]; rfl
  clear h u
  go_enter Tryd.func25, Tryd.ntmps25
  go_wp2
  exact bodyPost_end (v := .tuple #[]) (by simp [results, Tryd.results25, go_sem]) rfl ⟨rfl, HF.out.1, HF.out.2⟩
/-- All entries are cleared. -/
theorem clear_map {w : World} {b n : Nat} {D : DataW Value} (h : w.ownsMap Tryd.prog 9 RF b n D) (ty : TypeId) : ∃ w', (Builtin.clear_ #[76] ty #[.map (some b)]).run Tryd.prog w = .ok (.tuple #[]) w' ∧ w'.ownsMap Tryd.prog 9 RF b 0 (.map []) ∧ w.mapTurned w' b := by
  obtain ⟨es, clock, hb, F, hs, rfl⟩ := h
  refine ⟨Go.ChangeMaps.setBlock w b (.map #[] clock), by simp [Builtin.clear_, run_underlying Tryd.underlying76, MapKept.run_getObj_map hb, MapKept.run_setObj_map _ hb, Result.andThen, Go.ChangeMaps.setBlock], ⟨#[], clock, Go.ChangeMaps.heap_setBlock_same hb _, ⟨by simp, Go.MapKept.stamped_empty clock, by simp⟩, Nat.le_refl _, rfl⟩, ⟨es, clock, #[], clock, hb, rfl⟩⟩
set_option maxHeartbeats 2000000 in
theorem wipe_any (p m : Nat) (V : List Fv) (q : Option Nat) (s : St) (F : Int) (w : World) (h : PX w p m V q s F) :
    Calls Tryd.prog 24 #[.pointer (some ⟨p, 0, none⟩)] w fun e w' => e = .returned (.tuple #[]) ∧ PX w' p m [] q { s with fs := [] } F ∧ Upd (fun k => k = p ∨ k = m) w w' := by
  obtain ⟨w1, hr, ho1, ht1⟩ := clear_map h.m 0
  have hpm := h.ne
  have u1 := turned_upd ht1
  have o1 : w1.heap[p]? = _ := (u1.block p h.lt (fun e => hpm e)).trans h.o
  have c0 := h.c0
  have d0 := cell_of_row w1 p 0 _ _ _ o1
  have d1 := cell_of_row w1 p 1 _ _ _ o1
  have f1 := frozen_of_row w1 p 1 _ _ o1
  obtain ⟨w3, hw3⟩ : ∃ w3, w1.setCell ⟨p, 1, none⟩ (.int .i64 0) = w3 := ⟨_, rfl⟩
  have HF : Hid (PX w3 p m [] q { s with fs := [] } F ∧ Upd (fun k => k = p ∨ k = m) w w3) := by
    have u3 : Upd (fun k => k = p) w1 w3 := by rw [← hw3]; exact Upd.put (M := fun k => k = p) (Upd.refl _ _) (p := ⟨p, 1, none⟩) (.inl rfl) _
    refine ⟨⟨?_, map_upd ho1 u3 (fun e => hpm e.symm), fun x hx => absurd hx (List.not_mem_nil), rfl, ⟨Nat.zero_le _, fun f hf => absurd hf (List.not_mem_nil), fun f hf => absurd hf (List.not_mem_nil), h.wf.m0, h.wf.m1, h.wf.b0, h.wf.b1⟩, List.Pairwise.nil, List.Pairwise.nil, h.F0, h.F1⟩, (u1.mono fun k _ e => .inr e).trans (u3.mono fun k _ e => .inl e)⟩
    rw [← hw3, heap_setCell_same w1 p 1 _ _ (.int .i64 0) o1]; rfl
  simp only [List.getElem?_toArray, List.getElem?_cons_zero, List.getElem?_cons_succ] at d0 d1
  obtain ⟨u0, hu0⟩ : ∃ u0 : Nat, used s.fs = u0 := ⟨_, rfl⟩
  rw [hu0] at d1
  clear h u1 o1 ho1 ht1 hpm hu0
  go_enter Tryd.func24, Tryd.ntmps24
  go_wp2
  exact bodyPost_end (v := .tuple #[]) (by simp [results, Tryd.results24, go_sem]) rfl ⟨rfl, HF.out.1, HF.out.2⟩
end Go.Proofs.YtebngmgdciahiaaDoor
