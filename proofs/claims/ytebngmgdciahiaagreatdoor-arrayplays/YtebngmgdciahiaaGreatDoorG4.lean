/-
  Texts of earlier stages, one behind the other: SmG, SmH, SmI, SmJ.
-/
import Derived.Test.YtebngmgdciahiaaGreatDoorG1a
import Derived.Test.YtebngmgdciahiaaGreatDoorLs
import Derived.Test.YtebngmgdciahiaaGreatDoorG2
import Derived.Lib.RowBridge
import Derived.Lib.SortBridge
import Derived.Sort.LotA
import Derived.Sort.OwnSorted
import Derived.Shelf.GgSortFunc.Whole
import Derived.Shelf.GgSortFunc.Tiny
import Derived.Test.YtebngmgdciahiaaGreatDoorG3
import Derived.Maps.RangeWalk
set_option maxRecDepth 100000
namespace Go.Proofs.YtebngmgdciahiaaGreatDoor
open Go.RowKit Go.Shelf Go.Lib Go.Sort
open _root_.Go.Proofs.YtebngmgdciahiaaGreatDoor.Nm _root_.Go.Proofs.YtebngmgdciahiaaGreatDoor.Dk
attribute [local go_sem ↓] Go.wp_at_zero Go.wp_at_succ
set_option linter.unusedVariables false

theorem swo_ls : SWO ls where
  irrefl x := ls_same x
  trans x y z h k := ls_trans x y z h k
  ntrans x y z h k := by
    cases e : ls x z with
    | false => rfl
    | true =>
      cases e2 : ls y x with
      | true => rw [ls_trans _ _ _ e2 e] at k; cases k
      | false =>
        have := ls_none _ _ h e2
        subst this
        rw [e] at k; cases k
noncomputable def siT : TypeInfo := (Tryz.prog.info? 103).get (by kernel_rfl)
noncomputable def siE : TypeInfo := (Tryz.prog.info? 9).get (by kernel_rfl)
theorem siK (n : Nat) (h2 : 2 ≤ n) : Lib.swapperK n siE 24 = 4 := by
  have a : siE.hasPointers = true := by kernel_rfl
  have b : siE.bytes = 16 := by kernel_rfl
  have c : (n == 0) = false := by simp; omega
  have d : (n == 1) = false := by simp; omega
  simp [Lib.swapperK, a, b, c, d]
theorem encStr_tx (s : ByteArray) : encStr (tx s) = .string s := by
  show Value.string ⟨(tx s).toArray⟩ = _
  unfold tx
  simp
set_option maxHeartbeats 2000000 in
/-- The program's own closure: it reads the boxed slice and two of its texts. -/
theorem less_txt (blk off c Bs size : Nat) (W : World) (G : Nat → List UInt8) (hs : W.cell? ⟨Bs, 0, none⟩ = some (.slice (some ⟨blk, off, none⟩) size c))
    (hc : ∀ t, t < size → W.cell? ⟨blk, off + t, none⟩ = some (encStr (G t))) (i j : Nat) (hi : i < size) (hj : j < size) :
    Calls Tryz.prog 81 #[.int .i64 i, .int .i64 j, .pointer (some ⟨Bs, 0, none⟩)] W fun e w' => e = .returned (.bool (ls (G i) (G j))) ∧ ∃ q, w' = W.drewN q := by
  obtain ⟨a, ha⟩ : ∃ a : ByteArray, (⟨(G i).toArray⟩ : ByteArray) = a := ⟨_, rfl⟩
  obtain ⟨b, hb⟩ : ∃ b : ByteArray, (⟨(G j).toArray⟩ : ByteArray) = b := ⟨_, rfl⟩
  have ci : W.cell? ⟨blk, off + i, none⟩ = some (.string a) := by rw [hc i hi, ← ha]
  have cj : W.cell? ⟨blk, off + j, none⟩ = some (.string b) := by rw [hc j hj, ← hb]
  have ea : tx a = G i := by rw [← ha]; unfold tx; simp
  have eb : tx b = G j := by rw [← hb]; unfold tx; simp
  rw [← ea, ← eb]
  have cL : ∀ w, Calls Tryz.prog 82 #[.string a, .string b] w fun e w' => e = .returned (.bool (ls (tx a) (tx b))) ∧ w' = w := fun w => (less_any a b w).mono fun e w' h => ⟨h.1, h.2.symm⟩
  clear hc ha hb ea eb
  go_enter Tryz.func81, Tryz.ntmps81
  go_wp2_with fail
  go_quiet ((go_at_call 82; refine (cL _).mono ?_; rintro e w9 ⟨rfl, rfl⟩; exact ⟨rfl, _, rfl⟩))
  go_wp2
  go_ret
  exact ⟨rfl, nq, rfl⟩
/-- Behind the sort: the same texts, rising. -/
def SortEnd (base Bs : Nat) (v : Value) (L : List Sv) (w : World) (e : Ending) (w' : World) : Prop :=
  e = .returned (.tuple #[]) ∧ ∃ L', SOwn w' base v L' ∧ PermIn 0 L.length (L.map fun y => tx y.s).toArray (L'.map fun y => tx y.s).toArray ∧ SortedIn ls 0 L.length (L'.map fun y => tx y.s).toArray ∧ w'.heap[Bs]? = w.heap[Bs]? ∧ w.grownBy w' v.ownBlock
theorem scs_enc (L : List Sv) : scs L = (L.map fun y => tx y.s).map encStr := by
  unfold scs
  induction L with
  | nil => rfl
  | cons e L ih =>
    rw [List.flatMap_cons, ih, List.map_cons, List.map_cons, encStr_tx]
    rfl
theorem sort_tiny (n : Nat) (h1 : n ≤ 1) (p : Option Addr) (c Bs : Nat) (w : World) :
    Calls Tryz.prog 80 #[.iface 103 (.slice p n c), .func (.func 81) #[] #[.pointer (some ⟨Bs, 0, none⟩)]] w fun e w' => e = .returned (.tuple #[]) ∧ ∃ os, w' = grow w os := by
  have hK : Lib.swapperK n siE 24 = n + 1 := by
    rcases Nat.eq_zero_or_pos n with h | h
    · subst h; simp [Lib.swapperK]
    · obtain rfl : n = 1 := by omega
      simp [Lib.swapperK]
  have hS := Any.sort_Slice_tiny Tryz.sl6 103 9 siT siE (by kernel_rfl) (by kernel_rfl) (by kernel_rfl) (by kernel_rfl) 24 (fun _ => by kernel_rfl) p n c h1 (111 + n) (by
    rw [hK]
    rcases Nat.eq_zero_or_pos n with h | h
    · subst h; kernel_rfl
    · obtain rfl : n = 1 := by omega
      kernel_rfl) (.func 81) #[] #[.pointer (some ⟨Bs, 0, none⟩)] w
  exact hS
set_option maxHeartbeats 2000000 in
theorem sort_some (blk c Bs : Nat) (d : Array (List UInt8)) (h2 : 2 ≤ d.size) (h12 : d.size ≤ 1000000) (w : World) (hs : w.cell? ⟨Bs, 0, none⟩ = some (.slice (some ⟨blk, 0, none⟩) d.size c)) (hne : Bs ≠ blk) (hH : Holds encStr w blk 0 d) (hblk : blk < w.heap.size) :
    Calls Tryz.prog 80 #[.iface 103 (.slice (some ⟨blk, 0, none⟩) d.size c), .func (.func 81) #[] #[.pointer (some ⟨Bs, 0, none⟩)]] w fun e w' =>
      e = .returned (.tuple #[]) ∧ ∃ d' n os, PermIn 0 d.size d d' ∧ SortedIn ls 0 d.size d' ∧ w' = grow (putRow encStr (Sort.ahead w n) blk 0 d') os := by
  have hBs : Bs < w.heap.size := block_lt_of_cell hs
  have hless : LessReads Tryz.prog 81 #[.pointer (some ⟨Bs, 0, none⟩)] encStr ls blk 0 d.size w := by
    intro m os dk hk i j hi hj
    have e : sortWorld encStr w blk 0 m dk os = putRow encStr (grow (Sort.ahead w m) os) blk 0 dk := by
      unfold sortWorld; rw [putRow_grow _ (Sort.ahead w m) _ blk 0 _ hblk]
    have hHg : Holds encStr (grow (Sort.ahead w m) os) blk 0 d := holds_grow _ _ _ blk 0 d hblk (holds_ahead _ _ _ _ _ _ hH)
    refine less_txt blk 0 c Bs d.size _ (fun t => dk[t]!) ?_ (fun t ht => ?_) i j hi hj
    · rw [e, cell?_putRow_other _ _ blk 0 dk _ (Or.inl hne), cell?_grow _ _ _ hBs]
      exact hs
    · rw [e]; exact cell?_putRow _ _ blk 0 d dk hHg hk t (by omega)
  exact Any.sort_Slice_sorted Tryz.sl6 103 9 siT siE (by kernel_rfl) (by kernel_rfl) (by kernel_rfl) (by kernel_rfl) 24 (fun _ => by kernel_rfl) (by kernel_rfl) (fun _ => by kernel_rfl) encStr (fun _ => rfl) ls swo_ls 81 _
    (enters_of Tryz.func81 (by kernel_rfl) rfl) blk 0 c d h2 (by omega) 114 (by rw [siK _ h2]; kernel_rfl) true
    (fun args W => run_callFunc_extern Tryz.func114 (by kernel_rfl) (by kernel_rfl) (by kernel_rfl) (e := Extern.ReflectliteSwapper.swap true) (by kernel_rfl) args W) _ hless hH hblk
theorem permIn_same (d : Array (List UInt8)) : PermIn 0 d.size d d := ⟨rfl, fun _ _ => rfl, List.Perm.refl _⟩
theorem sortedIn_small (d : Array (List UInt8)) {n : Nat} (h : n ≤ 1) : SortedIn ls 0 n d := fun i j _ _ _ => by omega
theorem below_grow (w : World) (os : Array Obj) : Below w.heap.size w (grow w os) := ⟨rfl, rfl, rfl, by simp [grow], fun k hk => heap_grow_old _ _ hk⟩
theorem sort_any (base Bs : Nat) (v : Value) (L : List Sv) (w : World) (ho : SOwn w base v L) (hb : w.heap[Bs]? = some (.cells #[v] 103)) (hl : L.length ≤ 1000000) :
    Calls Tryz.prog 80 #[.iface 103 v, .func (.func 81) #[] #[.pointer (some ⟨Bs, 0, none⟩)]] w (SortEnd base Bs v L w) := by
  have hBs : Bs < w.heap.size := (Array.getElem?_eq_some_iff.1 hb).1
  have hsz : (L.map fun y => tx y.s).toArray.size = L.length := by simp
  by_cases h1 : L.length ≤ 1
  · have tiny : ∀ p c, v = .slice p L.length c → Calls Tryz.prog 80 #[.iface 103 v, .func (.func 81) #[] #[.pointer (some ⟨Bs, 0, none⟩)]] w (SortEnd base Bs v L w) := fun p c e => by
      have cS := sort_tiny L.length h1 p c Bs w
      rw [← e] at cS
      refine cS.mono ?_
      rintro e w' ⟨rfl, os, rfl⟩
      have hbl := below_grow w os
      have hp := permIn_same (L.map fun y => tx y.s).toArray
      rw [hsz] at hp
      exact ⟨rfl, L, ho.keep hbl, hp, sortedIn_small _ h1, hbl.block Bs hBs, ⟨hbl.os, hbl.tape, hbl.output, hbl.size, fun k hk _ => hbl.block k hk⟩⟩
    rcases ho.2 with ⟨e1, e2⟩ | ⟨g, cap, cur, e1, hg, hh, hr⟩
    · exact tiny none 0 (by rw [e1, e2])
    · exact tiny _ _ e1
  · rcases ho.2 with ⟨e1, e2⟩ | ⟨g, cap, cur, e1, hg, hh, hnc, hm, hcs, ht⟩
    · omega
    · have hne : Bs ≠ g := fun e => by
        subst e
        rw [hb] at hh
        injection hh with hh
        injection hh with _ hh _
        cases hh
      have hgl : g < w.heap.size := (Array.getElem?_eq_some_iff.1 hh).1
      have ht' : cur.toList.take (L.map fun y => tx y.s).length = (L.map fun y => tx y.s).map encStr := by
        rw [List.length_map, ← scs_enc]
        rw [Nat.mul_one] at ht; exact ht
      have hH := Go.holds_of_block hh ht'
      have cS := sort_some g cap Bs (L.map fun y => tx y.s).toArray (by rw [hsz]; omega) (by rw [hsz]; exact hl) w (by
        rw [hsz, ← e1]
        rw [cell_of_row w Bs 0 _ _ _ hb]; rfl) hne hH hgl
      rw [hsz, ← e1] at cS
      refine cS.mono ?_
      rintro e w' ⟨rfl, d', n, os, hp, hso, rfl⟩
      obtain ⟨T, hT⟩ : ∃ T : List (List UInt8), d' = T.toArray := ⟨d'.toList, by simp⟩
      subst hT
      have hTl : T.length = L.length := by
        have := hp.1
        simpa using this
      have hgr := Go.grownBy_sorted (w := w) (g := g) (n := n) (os := os) T.toArray
      refine ⟨rfl, T.map fun t => ⟨⟨t.toArray⟩⟩, ?_, ?_, ?_, hgr.block Bs hBs (fun e => hne (Option.some.inj e)), ?_⟩
      · have e3 : ((T.map fun t => (⟨⟨t.toArray⟩⟩ : Sv)).map fun y => tx y.s) = T := by
          rw [List.map_map]
          have : ((fun y : Sv => tx y.s) ∘ fun t => (⟨⟨t.toArray⟩⟩ : Sv)) = id := by funext t; simp [tx]
          rw [this, List.map_id]
        have hor := Go.ownsRow_sorted (n := n) (os := os) (ss := L.map fun y => tx y.s) (ts := T) (by rw [hTl, List.length_map]) hg hh (by rw [List.length_map]; exact hnc) hm (by rw [hcs])
        unfold SOwn
        rw [scs_enc, e3, e1, List.length_map, hTl]
        rw [List.length_map] at hor
        exact hor
      · have e3 : ((T.map fun t => (⟨⟨t.toArray⟩⟩ : Sv)).map fun y => tx y.s) = T := by
          rw [List.map_map]
          have : ((fun y : Sv => tx y.s) ∘ fun t => (⟨⟨t.toArray⟩⟩ : Sv)) = id := by funext t; simp [tx]
          rw [this, List.map_id]
        rw [e3]; exact hp
      · have e3 : ((T.map fun t => (⟨⟨t.toArray⟩⟩ : Sv)).map fun y => tx y.s) = T := by
          rw [List.map_map]
          have : ((fun y : Sv => tx y.s) ∘ fun t => (⟨⟨t.toArray⟩⟩ : Sv)) = id := by funext t; simp [tx]
          rw [this, List.map_id]
        rw [e3]; exact hso
      · rw [e1]; exact hgr
end Go.Proofs.YtebngmgdciahiaaGreatDoor

namespace Go.Proofs.YtebngmgdciahiaaGreatDoor
open Go.RowKit Go.Sort
open _root_.Go.Proofs.YtebngmgdciahiaaGreatDoor.Nm _root_.Go.Proofs.YtebngmgdciahiaaGreatDoor.Dk
attribute [local go_sem ↓] Go.wp_at_zero Go.wp_at_succ
set_option linter.unusedVariables false

theorem ranges_upd {M : Nat → Prop} {P : Program} {k : TypeId} {R : Value → Option (DataW Value × List MemPlace)} {w w' : World} {b r n cnt : Nat} {D : DataW Value} {left : Lit → Bool} (h : w.ranges P k R b r n D left cnt) (u : Upd M w w') (hb : ¬ M b) (hr : ¬ M r) : w'.ranges P k R b r n D left cnt := by
  obtain ⟨es, clock, since, seen, c0, h1, F, h2, hD, h3, rest⟩ := h
  exact ⟨es, clock, since, seen, c0, (u.block b (Array.getElem?_eq_some_iff.1 h1).1 hb).trans h1, F, h2, hD, (u.block r (Array.getElem?_eq_some_iff.1 h3).1 hr).trans h3, rest⟩
theorem ranges_r {P : Program} {k : TypeId} {R : Value → Option (DataW Value × List MemPlace)} {w : World} {b r n cnt : Nat} {D : DataW Value} {left : Lit → Bool} (h : w.ranges P k R b r n D left cnt) {cs : Array Value} {ty : TypeId} {fr : Nat × Nat} : w.heap[r]? ≠ some (.cells cs ty fr) := by
  obtain ⟨es, clock, since, seen, c0, h1, F, h2, hD, h3, rest⟩ := h
  rw [h3]; intro e; injection e with e; cases e
theorem ranges_b {P : Program} {k : TypeId} {R : Value → Option (DataW Value × List MemPlace)} {w : World} {b r n cnt : Nat} {D : DataW Value} {left : Lit → Bool} (h : w.ranges P k R b r n D left cnt) {cs : Array Value} {ty : TypeId} {fr : Nat × Nat} : w.heap[b]? ≠ some (.cells cs ty fr) := by
  obtain ⟨es, clock, since, seen, c0, h1, F, h2, hD, h3, rest⟩ := h
  rw [h1]; intro e; injection e with e; cases e
theorem has_mem (V : List Fv) (t : ByteArray) : Maps.has (DM V) (kl t) = true ↔ ∃ y ∈ V, y.path = t := by
  show (V.map en).any (fun e => e.1.sameKey (kl t)) = true ↔ _
  rw [List.any_eq_true]
  constructor
  · rintro ⟨e, he, h⟩
    obtain ⟨y, hy, rfl⟩ := List.mem_map.1 he
    refine ⟨y, hy, ?_⟩
    have h : (kl y.path).sameKey (kl t) = true := h
    rw [kl_same] at h
    exact of_decide_eq_true h
  · rintro ⟨y, hy, rfl⟩
    exact ⟨en y, List.mem_map_of_mem hy, by show (kl y.path).sameKey (kl y.path) = true; rw [kl_same]; exact decide_eq_true rfl⟩
theorem keyS_inv {v : Value} {l : Lit} (h : keyOf Tryz.prog 9 v = some l) : ∃ s : ByteArray, v = .string s ∧ l = kl s ∧ s.size ≤ maxLen := Go.WideMaps.string_of_keyOf Tryz.underlying9 h
theorem rf_inv {v : Value} {y : DataW Value × List MemPlace} (h : RF v = some y) : ∃ c : Option Addr × Nat × Nat × Bool, v = .agg #[.slice c.1 c.2.1 c.2.2.1, .bool c.2.2.2] := by
  obtain ⟨_, a, n, c, b, e⟩ := RF_inv h
  exact ⟨(a, n, c, b), e⟩
/-- What is there so far. -/
structure Got (V : List Fv) (x : ByteArray) (left : Lit → Bool) (L : List Sv) : Prop where
  nd : (L.map fun y => tx y.s).Nodup
  mem : ∀ t : ByteArray, tx t ∈ L.map (fun y => tx y.s) ↔ ∃ y ∈ V, y.path = t ∧ pre (tx t) (tx x) = true ∧ left (kl t) = false
theorem Got.start (V : List Fv) (x : ByteArray) : Got V x (Maps.has (DM V)) [] := ⟨List.nodup_nil, fun t => by
  constructor
  · intro h; cases h
  · rintro ⟨y, hy, rfl, _, h⟩
    rw [(has_mem V y.path).2 ⟨y, hy, rfl⟩] at h; cases h⟩
theorem struck {left : Lit → Bool} {t u : ByteArray} : (left (kl u) && !(kl u).sameKey (kl t)) = false ↔ left (kl u) = false ∨ u = t := by
  rw [kl_same]
  by_cases h : u = t
  · subst h; simp
  · simp [h]
theorem Got.skip {V : List Fv} {x t : ByteArray} {left : Lit → Bool} {L : List Sv} (h : Got V x left L) (hp : pre (tx t) (tx x) = false) : Got V x (fun z => left z && !z.sameKey (kl t)) L := ⟨h.nd, fun u => by
  rw [h.mem u]
  constructor
  · rintro ⟨y, hy, e, p, l⟩
    exact ⟨y, hy, e, p, struck.2 (.inl l)⟩
  · rintro ⟨y, hy, e, p, l⟩
    rcases struck.1 l with l | l
    · exact ⟨y, hy, e, p, l⟩
    · subst l
      rw [p] at hp; cases hp⟩
theorem Got.more {V : List Fv} {x t : ByteArray} {left : Lit → Bool} {L : List Sv} (h : Got V x left L) (hp : pre (tx t) (tx x) = true) (hl : left (kl t) = true) (hm : ∃ y ∈ V, y.path = t) : Got V x (fun z => left z && !z.sameKey (kl t)) (L ++ [⟨t⟩]) := by
  have hn : tx t ∉ L.map (fun y => tx y.s) := fun k => by
    obtain ⟨_, _, _, _, l⟩ := (h.mem t).1 k
    rw [hl] at l; cases l
  refine ⟨?_, fun u => ?_⟩
  · rw [List.map_append]
    refine List.nodup_append.2 ⟨h.nd, by simp, fun a ha b hb e => ?_⟩
    rw [List.map_singleton, List.mem_singleton] at hb
    subst hb; subst e
    exact hn ha
  · rw [List.map_append, List.mem_append, h.mem u]
    constructor
    · rintro (⟨y, hy, e, p, l⟩ | k)
      · exact ⟨y, hy, e, p, struck.2 (.inl l)⟩
      · rw [List.map_singleton, List.mem_singleton] at k
        have := tx_inj k
        subst this
        obtain ⟨y, hy, e⟩ := hm
        exact ⟨y, hy, e, hp, struck.2 (.inr rfl)⟩
    · rintro ⟨y, hy, e, p, l⟩
      rcases struck.1 l with l | l
      · exact .inl ⟨y, hy, e, p, l⟩
      · subst l
        exact .inr (by simp)
/-- What stands there in the end, sorted, is the list. -/
theorem Got.done {V : List Fv} {x : ByteArray} {left : Lit → Bool} {L L' : List Sv} (h : Got V x left L) (hr : Rise V) (hl : ∀ k, left k = false) (hp : PermIn 0 L.length (L.map fun y => tx y.s).toArray (L'.map fun y => tx y.s).toArray) (hs : SortedIn ls 0 L.length (L'.map fun y => tx y.s).toArray) :
    (L'.map fun y => y.s) = lst x (V.map fl) := by
  obtain ⟨G, hG⟩ : ∃ G, (V.filter fun f => pre (tx f.path) (tx x)).map (fun f => tx f.path) = G := ⟨_, rfl⟩
  have hGr : G.Pairwise fun a b => ls a b = true := by
    rw [← hG, List.pairwise_map]
    exact hr.sublist List.filter_sublist
  have hGn : G.Nodup := hGr.imp fun {a b} k e => by subst e; rw [ls_same] at k; cases k
  have hperm : G.Perm (L.map fun y => tx y.s) := (List.perm_ext_iff_of_nodup hGn h.nd).2 fun a => by
    have ha : a = tx ⟨a.toArray⟩ := by unfold tx; simp
    rw [ha, h.mem, ← hG]
    constructor
    · intro k
      obtain ⟨y, hy, e⟩ := List.mem_map.1 k
      obtain ⟨h1, h2⟩ := List.mem_filter.1 hy
      refine ⟨y, h1, tx_inj e, ?_, hl _⟩
      rw [← e]; exact h2
    · rintro ⟨y, hy, e, p, _⟩
      refine List.mem_map.2 ⟨y, List.mem_filter.2 ⟨hy, ?_⟩, by rw [e]⟩
      rw [e]; exact p
  have hlen : G.length = L.length := by rw [hperm.length_eq, List.length_map]
  have hsz : (L.map fun y => tx y.s).toArray.size = L.length := by simp
  have anti : ∀ a b : List UInt8, ls a b = false → ls b a = false → a = b := fun a b h k => ls_none a b h k
  have e1 := sorted_unique_holds (lt := ls) swo_ls anti _ _ (by rw [hsz]; exact hp) (by rw [hsz]; exact hs)
  have e2 := sorted_unique_holds (lt := ls) swo_ls anti (L.map fun y => tx y.s).toArray G.toArray (by
    refine ⟨by rw [hsz]; simpa using hlen, fun i hi => ?_, ?_⟩
    · rcases hi with hi | hi
      · exact absurd hi (Nat.not_lt_zero _)
      · rw [hsz] at hi
        rw [getElem!_neg G.toArray i (by simp; omega), getElem!_neg _ i (by rw [hsz]; omega)]
    · have q1 : (G.toArray.extract 0 (L.map fun y => tx y.s).toArray.size).toList = G := by rw [hsz, ← hlen]; simp
      have q2 : ((L.map fun y => tx y.s).toArray.extract 0 (L.map fun y => tx y.s).toArray.size).toList = L.map fun y => tx y.s := by
        rw [hsz, Array.toList_extract]
        show List.take (L.length - 0) (List.drop 0 (L.map fun y => tx y.s)) = _
        rw [List.drop_zero, Nat.sub_zero]
        exact List.take_of_length_le (by simp)
      rw [q1, q2]; exact hperm) (by
    intro i j _ hij hj
    rw [hsz, ← hlen] at hj
    have := List.pairwise_iff_getElem.1 hGr i j (by omega) hj hij
    rw [getElem!_pos _ i (by simp; omega), getElem!_pos _ j (by simpa using hj)]
    simp only [List.getElem_toArray]
    exact ls_both _ _ this)
  have e3 : (L'.map fun y => tx y.s) = G := by
    have := e1.trans e2.symm
    simpa using this
  have e4 : (L'.map fun y => y.s).map tx = (lst x (V.map fl)).map tx := by
    rw [List.map_map]
    show (L'.map fun y => tx y.s) = _
    rw [e3, ← hG]
    unfold lst
    rw [List.filter_map, List.map_map, List.map_map]
    rfl
  exact (List.map_inj_right fun a b k => tx_inj k).1 e4
end Go.Proofs.YtebngmgdciahiaaGreatDoor

namespace Go.Proofs.YtebngmgdciahiaaGreatDoor
open Go.RowKit
open _root_.Go.Proofs.YtebngmgdciahiaaGreatDoor.Nm _root_.Go.Proofs.YtebngmgdciahiaaGreatDoor.Dk
attribute [local go_sem ↓] Go.wp_at_zero Go.wp_at_succ
set_option linter.unusedVariables false

/-- A row of texts that is new. -/
def PathsEnd (Y : List ByteArray) (w : World) (e : Ending) (w' : World) : Prop :=
  ∃ v M, e = .returned v ∧ SOwn w' w.heap.size v M ∧ (M.map fun y => y.s) = Y ∧ Below w.heap.size w w'
theorem vl_inv {v : Value} {y : DataW Value × List MemPlace} (h : RF v = some y) : ∃ c : Fv, v = vl c := by
  obtain ⟨_, a, n, c, b, e⟩ := RF_inv h
  exact ⟨⟨⟨#[]⟩, (a, n, c), b, ⟨#[]⟩⟩, e⟩
/-- The round's relation. -/
structure Walk (V : List Fv) (x : ByteArray) (m Bs r : Nat) (w : World) (left : Lit → Bool) (cnt : Nat) (v : Value) (L : List Sv) (wr : World) : Prop where
  rg : wr.ranges Tryz.prog 9 RF m r V.length (DM V) left cnt
  bx : wr.heap[Bs]? = some (.cells #[v] 103)
  ow : SOwn wr (Bs + 2) v L
  gt : Got V x left L
  ln : L.length + cnt ≤ V.length
  bl : Below Bs w wr
  sz : Bs + 2 ≤ wr.heap.size
theorem sown_upd {M : Nat → Prop} {w w' : World} {base : Nat} {v : Value} {L : List Sv} (h : SOwn w base v L) (u : Upd M w w') (hm : ∀ g cur, w.heap[g]? = some (.cells cur 9 (0, 0)) → ¬ M g) : SOwn w' base v L := own_upd h u hm
set_option maxHeartbeats 8000000 in
theorem paths_any (p m : Nat) (V : List Fv) (q : Option Nat) (s : St) (F : Int) (x : ByteArray) (w : World) (h : PX w p m V q s F) (hx : x.size ≤ maxLen) :
    Calls Tryz.prog 43 #[.pointer (some ⟨p, 0, none⟩), .string x] w (PathsEnd (lst x s.fs) w) := by
  obtain ⟨W, hW⟩ : ∃ W, w.alloc (.cells #[.slice none 0 0] 103) = W := ⟨_, rfl⟩
  have bW : Below w.heap.size w W := by rw [← hW]; exact bal _ _
  have hXW := h.keep bW
  have hsW : W.heap.size = w.heap.size + 1 := by rw [← hW]; simp
  have c0 := hXW.c0
  have hown := hXW.m
  have hbx : W.heap[w.heap.size]? = some (.cells #[.slice none 0 0] 103) := by rw [← hW]; exact heap_alloc_new _ _
  have hml : m < w.heap.size := h.m.lt
  have hn := h.n
  have HR : Hid (Rise V) := h.r
  have HV : Hid (s.fs = V.map fl) := h.f
  have HWF : Hid (Wf s) := h.wf
  have HPT : Hid (∀ t : ByteArray, (∃ y ∈ V, y.path = t) → t.size ≤ 600) := fun t ⟨y, hy, e⟩ => by
    have := h.wf.p (fl y) (by rw [h.f]; exact List.mem_map_of_mem hy)
    rw [← e]; exact this
  have HT : Hid (∀ v M w', SOwn w' w.heap.size v M → (M.map fun y => y.s) = lst x s.fs → Below w.heap.size w w' → PathsEnd (lst x s.fs) w (.returned v) w') := fun v M w' h1 h2 h3 => ⟨v, M, rfl, h1, h2, h3⟩
  obtain ⟨Bs, hBs⟩ : ∃ Bs, w.heap.size = Bs := ⟨_, rfl⟩
  have HB : Hid (w.heap.size = Bs) := hBs
  rw [hBs] at hbx hml hsW bW
  have HBX : Hid (W.heap[Bs]? = some (.cells #[.slice none 0 0] 103)) := hbx
  have HML : Hid (m < Bs) := hml
  have HSW : Hid (W.heap.size = Bs + 1) := hsW
  have HBW : Hid (Below Bs w W) := bW
  have HN : Hid (V.length ≤ 4096) := hn
  generalize hPP : PathsEnd (lst x s.fs) w = PP at *
  clear h hXW bW hbx hml hn hsW hPP
  go_enter Tryz.func43, Tryz.ntmps43
  go_wp2_with (at_range; refine wpList_range_own _ rfl _ 107 rfl 9 106 lawS Tryz.underlying107 RF m V.length (DM V) rfl hown ?_; intro w0 hrg hg hs)
  have HW0 : Hid (Walk V x m Bs W.heap.size w (Maps.has (DM V)) (Maps.size (DM V)) (.slice none 0 0) [] w0) := by
    have hl : Bs < W.heap.size := by have := HSW.out; omega
    exact ⟨hrg, (hg.block Bs hl (by simp)).trans HBX.out, SOwn.start _ _, Got.start V x, by rw [dm_size]; exact Nat.le_of_eq (Nat.zero_add _), HBW.out.trans ⟨hg.os, hg.tape, hg.output, hg.size, fun k hk => hg.block k (by omega) (by simp)⟩, by have := HSW.out; omega⟩
  clear hrg hg hs hown c0
  go_frame
  go_loopw [12] (fun _ wr => ∃ left cnt v L, Walk V x m Bs W.heap.size w left cnt v L wr) (fun _ wr => wr.rangeLeft m W.heap.size)
  case atStart => exact ⟨_, _, _, [], HW0.out⟩
  case round =>
    obtain ⟨left, cnt, v, L, hWk⟩ := hrel
    have hrg := hWk.rg
    have hbx := cell_of_row wr Bs 0 _ _ _ hWk.bx
    simp only [List.getElem?_toArray, List.getElem?_cons_zero] at hbx
    have HWk : Hid (Walk V x m Bs W.heap.size w left cnt v L wr) := hWk
    clear hWk
    go_wp2_with (first
      | (at_next; refine wpList_next_ranges _ rfl _ rfl 9 lawS RF Value.string vl (fun key kl' hk => by obtain ⟨t, e, _⟩ := keyS_inv hk; exact ⟨t, e⟩) (fun v' y' hv' => vl_inv hv') m W.heap.size V.length (DM V) left cnt rfl hrg ?_ ?_)
      | go_in)
    · -- nothing is left
      intro hc0 hl0
      have HL0 : Hid (∀ k, left k = false) := hl0
      have cS := sort_any (Bs + 2) Bs v L wr HWk.out.ow HWk.out.bx (by have := HWk.out.ln; have := HN.out; omega)
      clear hrg hc0 hl0
      go_wp2_with fail
      go_at_call 80
      refine cS.mono ?_
      rintro e w2 ⟨rfl, L', ho', hp', hs', hb', hg'⟩
      have hb2 : w2.heap[Bs]? = some (.cells #[v] 103) := hb'.trans HWk.out.bx
      have y0 := cell_of_row w2 Bs 0 _ _ _ hb2
      simp only [List.getElem?_toArray, List.getElem?_cons_zero] at y0
      have HF : Hid (SOwn w2 w.heap.size v L' ∧ (L'.map fun y => y.s) = lst x s.fs ∧ Below w.heap.size w w2) := by
        refine ⟨ho'.mono (by have := HB.out; omega), by rw [HV.out]; exact HWk.out.gt.done HR.out HL0.out hp' hs', ?_⟩
        rw [HB.out]
        refine HWk.out.bl.trans ⟨hg'.os, hg'.tape, hg'.output, hg'.size, fun k hk => hg'.block k (by have := HWk.out.sz; omega) fun e => ?_⟩
        rcases HWk.out.ow.2 with ⟨e1, _⟩ | ⟨g, cap, cur, e1, hg3, _⟩
        · rw [e1] at e; simp [Value.ownBlock] at e
        · rw [e1] at e; simp [Value.ownBlock] at e; omega
      clear cS ho' hp' hs' hb' hg' hb2 hbx
      go_wp2
      exact HT.out _ _ _ HF.out.1 HF.out.2.1 HF.out.2.2
    · -- one more
      intro t c kl' y yp wb cnt' hkey hlk hv hat hrg1 hlt hgr hsz hen
      obtain ⟨t', et, ek, _⟩ := keyS_inv hkey
      injection et with et
      subst et; subst ek
      have hmem : ∃ y ∈ V, y.path = t := (has_mem V t).1 (Maps.has_true_of_atKey hat)
      have ht6 := HPT.out t hmem
      have HMEM : Hid (∃ y ∈ V, y.path = t) := hmem
      have HLK : Hid (left (kl t) = true) := hlk
      have cP := prefix_any t x wb (by unfold maxLen; omega) hx
      have ug : Upd (fun k => k = W.heap.size) wr wb := ⟨hgr.os, hgr.tape, hgr.output, hgr.size, fun k hk hm => hgr.block k hk (fun e => hm (Option.some.inj e))⟩
      have hbx1 : wb.heap[Bs]? = some (.cells #[v] 103) := (hgr.block Bs (Array.getElem?_eq_some_iff.1 HWk.out.bx).1 (fun e => (by injection e with e; have := HSW.out; omega))).trans HWk.out.bx
      have how1 : SOwn wb (Bs + 2) v L := sown_upd HWk.out.ow ug fun g cur e k => ranges_r hrg (by rw [← k]; exact e)
      have hbl1 : Below Bs w wb := HWk.out.bl.trans ⟨hgr.os, hgr.tape, hgr.output, hgr.size, fun k hk => hgr.block k (by have := HWk.out.sz; omega) (fun e => (by injection e with e; have := HSW.out; omega))⟩
      have HRG1 : Hid (wb.ranges Tryz.prog 9 RF m W.heap.size V.length (DM V) (fun z => left z && !z.sameKey (kl t)) cnt') := hrg1
      have HBX1 : Hid (wb.heap[Bs]? = some (.cells #[v] 103)) := hbx1
      have HOW1 : Hid (SOwn wb (Bs + 2) v L) := how1
      have HBL1 : Hid (Below Bs w wb) := hbl1
      have HSZ1 : Hid (Bs + 2 ≤ wb.heap.size) := by unfold Hid; rw [hsz]; exact HWk.out.sz
      have HLT : Hid (cnt' < cnt) := hlt
      have HRG : Hid (wr.ranges Tryz.prog 9 RF m W.heap.size V.length (DM V) left cnt) := hrg
      have yb := cell_of_row wb Bs 0 _ _ _ hbx1
      simp only [List.getElem?_toArray, List.getElem?_cons_zero] at yb
      have yf := frozen_of_row wb Bs 0 _ _ hbx1
      clear hkey hlk hv hat hrg1 hlt hgr hsz hmem ug hbx1 how1 hbl1 hrg hbx
      go_wp2_with fail
      go_at_call 79
      refine cP.mono ?_
      rintro e w2 ⟨rfl, rfl⟩
      clear cP hen
      cases hp : pre (tx t) (tx x) with
      | false =>
        have HP : Hid (pre (tx t) (tx x) = false) := hp
        clear hp yb yf
        go_wp2
        go_roundw
        case rel => exact ⟨_, cnt', v, L, HRG1.out, HBX1.out, HOW1.out, HWk.out.gt.skip HP.out, by have := HWk.out.ln; have := HLT.out; omega, HBL1.out, HSZ1.out⟩
        case measure => rw [HRG1.out.left_eq, HRG.out.left_eq]; exact HLT.out
      | true =>
        have HP : Hid (pre (tx t) (tx x) = true) := hp
        obtain ⟨W1, hW1⟩ : ∃ W1, wb.alloc (.cells #[.string t] 9) = W1 := ⟨_, rfl⟩
        have b1 : Below wb.heap.size wb W1 := by rw [← hW1]; exact bal _ _
        have hlit := litS wb ⟨t⟩
        rw [hW1] at hlit
        obtain ⟨v', W2, r1, o1, g1, b2⟩ := appendS (c := 1) (HOW1.out.keep b1) hlit (fun e => by cases e) (by have := HWk.out.ln; have := HN.out; simp; omega) (by have := HSZ1.out; have := b1.size; omega)
        obtain ⟨a', c', ev, _⟩ := o1.row
        obtain ⟨nn, hnn⟩ : ∃ nn, (L ++ [(⟨t⟩ : Sv)]).length = nn := ⟨_, rfl⟩
        rw [hnn] at ev
        obtain ⟨v', hv'⟩ : ∃ u, u = Value.slice a' nn c' := ⟨_, rfl⟩
        rw [← hv'] at ev
        subst ev
        have u2 : Upd (fun k => Bs + 2 ≤ k) wb W2 := (Upd.of b1).then ⟨b2.os, b2.tape, b2.output, b2.size, fun k hk hm => b2.block k (by omega)⟩ (fun i _ k => k)
        have hbx2 : W2.heap[Bs]? = some (.cells #[v] 103) := (u2.block Bs (Array.getElem?_eq_some_iff.1 HBX1.out).1 (by omega)).trans HBX1.out
        have zb := cell_of_row W2 Bs 0 _ _ _ hbx2
        simp only [List.getElem?_toArray, List.getElem?_cons_zero] at zb
        have zf := frozen_of_row W2 Bs 0 _ _ hbx2
        have HR1 : Hid (Sem.run Tryz.prog (Builtin.append_ #[103, 103] 103 #[v, .slice (some ⟨wb.heap.size, 0, none⟩) 1 1]) W1 = .ok v' W2) := r1
        have HW9 : Hid (Walk V x m Bs W.heap.size w (fun z => left z && !z.sameKey (kl t)) cnt' v' (L ++ [⟨t⟩]) (W2.setCell ⟨Bs, 0, none⟩ v')) := by
          have u3 : Upd (fun k => k = Bs) W2 (W2.setCell ⟨Bs, 0, none⟩ v') := Upd.put (M := fun k => k = Bs) (Upd.refl _ _) (p := ⟨Bs, 0, none⟩) (.inl rfl) _
          have hml := HML.out
          have hsw := HSW.out
          refine ⟨?_, ?_, ?_, HWk.out.gt.more HP.out HLK.out HMEM.out, ?_, ?_, ?_⟩
          · have g0 : Upd (fun k => (∃ a n c, v = .slice (some ⟨k, a, none⟩) n c) ∨ wb.heap.size ≤ k) wb W2 := by
              refine (Upd.of b1).then (N := fun k => ∃ a n c, v = .slice (some ⟨k, a, none⟩) n c) ⟨g1.os, g1.tape, g1.output, g1.size, fun k hk hm => g1.block k hk fun e => ?_⟩ (fun i _ k => .inl k)
              rcases HOW1.out.2 with ⟨e1, _⟩ | ⟨g, cap, cur, e1, _⟩
              · rw [e1] at e; simp [Value.ownBlock] at e
              · rw [e1] at e; simp [Value.ownBlock] at e
                subst e
                exact hm ⟨0, _, _, e1⟩
            have hv : ∀ k, (∃ a n c, v = .slice (some ⟨k, a, none⟩) n c) → Bs + 2 ≤ k ∧ ∃ cur, wb.heap[k]? = some (.cells cur 9 (0, 0)) := fun k ⟨a, n, c, e⟩ => by
              rcases HOW1.out.2 with ⟨e1, _⟩ | ⟨g, cap, cur, e1, hg, hh, _⟩
              · rw [e1] at e; cases e
              · rw [e1] at e
                injection e with e _ _
                injection e with e
                injection e with e
                subst e
                exact ⟨hg, cur, hh⟩
            have hrl : W.heap.size < wb.heap.size := by have := HSZ1.out; omega
            refine ranges_upd (ranges_upd HRG1.out g0 (fun k => ?_) fun k => ?_) u3 (by omega) (by omega)
            · rcases k with k | k
              · have := (hv m k).1; omega
              · have := HSZ1.out; omega
            · rcases k with k | k
              · have := (hv _ k).1; omega
              · omega
          · rw [heap_setCell_same W2 Bs 0 _ _ v' hbx2]; rfl
          · exact sown_upd o1 u3 fun g cur e k => by
              subst k
              rw [hbx2] at e
              injection e with e
              injection e with _ e _
              cases e
          · have := HWk.out.ln; have := HLT.out; rw [List.length_append]; simp; omega
          · exact (HBL1.out.trans ⟨u2.os, u2.tape, u2.output, u2.size, fun k hk => u2.block k (by have := HSZ1.out; omega) (by omega)⟩).setCell (Nat.le_refl _) _
          · have := HSZ1.out; have := u2.size; simp [World.setCell]; omega
        subst hv'
        clear hp b1 hlit r1 o1 g1 b2 u2 hbx2
        go_wp2_with (at_builtin; refine wpList_append_ran (by rfl) _ _ 103 (by rfl) _ _ _ _ (by rfl) (by rfl) HR1.out ?_)
        go_roundw
        case rel => exact ⟨_, cnt', _, _, HW9.out⟩
        case measure => rw [HW9.out.rg.left_eq, HRG.out.left_eq]; exact HLT.out
/-- What List leaves. -/
def PList (p m : Nat) (V : List Fv) (q : Option Nat) (Y : List ByteArray × Int) (s' : St) (z' : Option Fz) (w : World) (e : Ending) (w' : World) : Prop :=
  ∃ v M, e = .returned (.tuple #[v, .int .i64 Y.2]) ∧ SOwn w' w.heap.size v M ∧ (M.map fun y => y.s) = Y.1 ∧ ∃ F', PX w' p m V q s' F' ∧ FZ w' q z' ∧ Upd (Mk p q) w w'
set_option maxHeartbeats 4000000 in
theorem plist_any (p m : Nat) (V : List Fv) (q : Option Nat) (s : St) (F : Int) (z : Option Fz) (x : ByteArray) (w : World) (h : PX w p m V q s F) (hz : FZ w q z) (hb : Zb z) (hx : x.size ≤ maxLen) :
    Calls Tryz.prog 66 #[.pointer (some ⟨p, 0, none⟩), .string x] w (PList p m V q (lisZ z s x) (askZ z s []).2.2 (askZ z s []).2.1 w) := by
  have cA := pask_any p m V q s F z none 0 [] w h hz hb (fun k => absurd k (Nat.not_lt_zero _)) (Nat.zero_le _)
  have hfs : (askZ z s []).2.2.fs = s.fs := askZ_fs z s []
  have hy : lisZ z s x = if (askZ z s []).1 ≠ 0 then ([], (askZ z s []).1) else (lst x s.fs, 0) := rfl
  obtain ⟨Y, hY⟩ : ∃ Y, lisZ z s x = Y := ⟨_, rfl⟩
  rw [hY] at hy ⊢
  obtain ⟨e0, he0⟩ : ∃ e0, (askZ z s []).1 = e0 := ⟨_, rfl⟩
  obtain ⟨s1, hs1⟩ : ∃ s1, (askZ z s []).2.2 = s1 := ⟨_, rfl⟩
  obtain ⟨z1, hz1⟩ : ∃ z1, (askZ z s []).2.1 = z1 := ⟨_, rfl⟩
  rw [he0, hs1, hz1] at cA
  rw [he0] at hy
  rw [hs1] at hfs
  rw [hs1, hz1]
  have cA1 : Calls Tryz.prog 93 #[.pointer (some ⟨p, 0, none⟩), .slice none 0 0] w (PAsk p m V q e0 s1 z1 w) := cA
  have HT : Hid (∀ v M d F' w', SOwn w' w.heap.size v M → Y = (M.map (fun y => y.s), d) → PX w' p m V q s1 F' → FZ w' q z1 → Upd (Mk p q) w w' → PList p m V q Y s1 z1 w (.returned (.tuple #[v, .int .i64 d])) w') := fun v M d F' w' h1 h2 h3 h4 h5 => by subst h2; exact ⟨v, M, rfl, h1, rfl, F', h3, h4, h5⟩
  have HX : Hid (x.size ≤ maxLen) := hx
  have HF : Hid (s1.fs = s.fs) := hfs
  have HY : Hid (Y = if e0 ≠ 0 then ([], e0) else (lst x s.fs, 0)) := hy
  generalize hPP : PList p m V q Y s1 z1 w = PP at *
  clear h hz hb hx cA hfs hy hY he0 hs1 hz1 hPP
  go_enter Tryz.func66, Tryz.ntmps66
  go_wp2_with fail
  go_at_call 93
  refine cA1.mono ?_
  rintro e w1 ⟨rfl, F1, h1, hz1, u1⟩
  have HD1 : Hid (PX w1 p m V q s1 F1) := h1
  have HZ1 : Hid (FZ w1 q z1) := hz1
  have HU1 : Hid (Upd (Mk p q) w w1) := u1
  clear cA1 hz1 u1
  by_cases k0 : e0 = 0
  · subst k0
    have cP := paths_any p m V q s1 F1 x w1 h1 HX.out
    rw [HF.out] at cP
    have HE : Hid (Y = (lst x s.fs, 0)) := by unfold Hid; rw [HY.out, if_neg (fun k => k rfl)]
    clear h1
    go_wp2_with fail
    go_at_call 43
    refine cP.mono ?_
    rintro e w2 ⟨v, M, rfl, ho, hm, hbl⟩
    have HO : Hid (SOwn w2 w1.heap.size v M) := ho
    have HM : Hid ((M.map fun y => y.s) = lst x s.fs) := hm
    have HBL : Hid (Below w1.heap.size w1 w2) := hbl
    clear cP ho hm hbl
    go_wp2
    exact HT.out v M 0 F1 _ (HO.out.mono HU1.out.size) (by rw [HE.out, HM.out]) (HD1.out.keep HBL.out) (HZ1.out.keep HBL.out) (HU1.out.after HBL.out)
  · have k1 : (e0 == 0) = false := by simpa using k0
    have HE : Hid (Y = ([], e0)) := by unfold Hid; rw [HY.out, if_pos k0]
    clear h1 k0
    go_wp2
    exact HT.out _ [] e0 F1 _ (SOwn.start _ _) HE.out HD1.out HZ1.out HU1.out
/-- Files. -/
theorem lst_all (l : List Fl) : lst ⟨#[]⟩ l = l.map fun f => f.path := by
  unfold lst
  congr 1
  rw [List.filter_eq_self]
  intro f _
  exact pre_nil _
set_option maxHeartbeats 4000000 in
theorem files_any (p m : Nat) (V : List Fv) (q : Option Nat) (s : St) (F : Int) (w : World) (h : PX w p m V q s F) :
    Calls Tryz.prog 76 #[.pointer (some ⟨p, 0, none⟩)] w (PathsEnd (s.fs.map fun f => f.path) w) := by
  have cP := paths_any p m V q s F ⟨#[]⟩ w h (Nat.zero_le _)
  rw [lst_all] at cP
  generalize hPP : PathsEnd (s.fs.map fun f => f.path) w = PP at *
  have HT : Hid (∀ e w', PathsEnd (s.fs.map fun f => f.path) w e w' → PP e w') := fun e w' k => by rw [← hPP]; exact k
  rw [← hPP] at cP
  have cP1 : Calls Tryz.prog 43 #[.pointer (some ⟨p, 0, none⟩), .string ⟨#[]⟩] w fun e w' => ∃ v, e = .returned v ∧ Hid (PP (.returned v) w') := cP.mono fun e w' k => by
    obtain ⟨v, M, e1, r⟩ := k
    exact ⟨v, e1, HT.out _ _ ⟨v, M, rfl, r⟩⟩
  clear h cP hPP HT
  go_enter Tryz.func76, Tryz.ntmps76
  go_wp2_with fail
  go_at_call 43
  refine cP1.mono ?_
  rintro e w1 ⟨v, rfl, HH⟩
  clear cP1
  go_wp2
  exact HH.out
end Go.Proofs.YtebngmgdciahiaaGreatDoor

namespace Go.Proofs.YtebngmgdciahiaaGreatDoor
open Go.RowKit
open _root_.Go.Proofs.YtebngmgdciahiaaGreatDoor.Nm _root_.Go.Proofs.YtebngmgdciahiaaGreatDoor.Dk
attribute [local go_sem ↓] Go.wp_at_zero Go.wp_at_succ
set_option linter.unusedVariables false

def z0 : Fz := ⟨0, 0, false⟩
theorem newfuse_any (w : World) : Calls Tryz.prog 26 #[] w fun e w' => e = .returned (.pointer (some ⟨w.heap.size, 0, none⟩)) ∧ FZ w' (some w.heap.size) (some z0) ∧ Below w.heap.size w w' := by
  have HF : Hid (FZ (w.alloc (.cells #[.int .i64 0, .int .i64 0] 102)) (some w.heap.size) (some z0)) := ⟨heap_alloc_new _ _, rfl⟩
  go_enter Tryz.func26, Tryz.ntmps26
  go_wp2
  go_ret
  exact ⟨rfl, HF.out, bal _ _⟩
theorem newPX (w : World) (q : Option Nat) (mo : Int) (h0 : 0 ≤ mo) (h1 : mo ≤ 4194304) : PX ((w.alloc (.map #[] 0)).alloc (.cells #[.map (some w.heap.size), .int .i64 0, .int .i64 mo, .pointer (q.map fun k => ⟨k, 0, none⟩), .bool false, .int .i64 0] 109)) (w.alloc (.map #[] 0)).heap.size w.heap.size [] q ⟨[], mo, false, 0⟩ 0 := by
  refine ⟨heap_alloc_new _ _, ?_, fun x hx => absurd hx (List.not_mem_nil), rfl, ⟨Nat.zero_le _, fun f hf => absurd hf (List.not_mem_nil), fun f hf => absurd hf (List.not_mem_nil), h0, h1, Int.le_refl _, (by show (0 : Int) ≤ 9223372036854775807; decide)⟩, List.Pairwise.nil, List.Pairwise.nil, rfl, ⟨by decide, by decide⟩⟩
  exact (World.ownsMap_made w Tryz.prog 9 RF).alloc _
set_option maxHeartbeats 2000000 in
theorem new_any (mo : Int) (q : Option Nat) (w : World) (hm0 : -9223372036854775808 ≤ mo) (hm1 : mo ≤ 9223372036854775807) :
    Calls Tryz.prog 27 #[.int .i64 mo, .pointer (q.map fun k => ⟨k, 0, none⟩)] w fun e w' => e = .returned (.pointer (some ⟨w.heap.size + 1, 0, none⟩)) ∧ PX w' (w.heap.size + 1) w.heap.size [] q (newSt mo) 0 ∧ Below w.heap.size w w' := by
  obtain ⟨r, hr⟩ : ∃ r, (q.map fun k => (⟨k, 0, none⟩ : Addr)) = r := ⟨_, rfl⟩
  have hsz : (w.alloc (.map #[] 0)).heap.size = w.heap.size + 1 := by simp
  have hmm := @run_makeMap Tryz.prog
  have K : ∀ mm : Int, 0 ≤ mm → mm ≤ 4194304 → newSt mo = ⟨[], mm, false, 0⟩ → Hid (PX ((w.alloc (.map #[] 0)).alloc (.cells #[.map (some w.heap.size), .int .i64 0, .int .i64 mm, .pointer r, .bool false, .int .i64 0] 109)) (w.heap.size + 1) w.heap.size [] q (newSt mo) 0) := fun mm h0 h1 e => by
    have := newPX w q mm h0 h1
    rw [hsz, hr] at this
    unfold Hid
    rw [e]; exact this
  have HB : ∀ v, Hid (Below w.heap.size w ((w.alloc (.map #[] 0)).alloc (.cells v 109))) := fun v => (bal _ _).alloc (by simp) _
  rw [hr]
  by_cases h0 : mo < 0
  · have HK := K 0 (Int.le_refl _) (by decide) (by unfold newSt; rw [if_pos (.inl h0)])
    clear K hr
    go_enter Tryz.func27, Tryz.ntmps27
    go_wp2
    go_ret
    exact ⟨by simp, HK.out, (HB _).out⟩
  · have d0 : decide (mo < 0) = false := decide_eq_false h0
    by_cases h1 : 4194304 < mo
    · have HK := K 0 (Int.le_refl _) (by decide) (by unfold newSt; rw [if_pos (.inr h1)])
      have d1 : decide (4194304 < mo) = true := decide_eq_true h1
      clear K hr
      go_enter Tryz.func27, Tryz.ntmps27
      go_wp2
      go_ret
      exact ⟨by simp, HK.out, (HB _).out⟩
    · have HK := K mo (by omega) (by omega) (by unfold newSt; rw [if_neg (by omega)])
      have d1 : decide (4194304 < mo) = false := decide_eq_false h1
      clear K hr
      go_enter Tryz.func27, Tryz.ntmps27
      go_wp2
      go_ret
      exact ⟨by simp, HK.out, (HB _).out⟩
theorem used_pany (p m : Nat) (V : List Fv) (q : Option Nat) (s : St) (F : Int) (w : World) (h : PX w p m V q s F) :
    Calls Tryz.prog 77 #[.pointer (some ⟨p, 0, none⟩)] w fun e w' => e = .returned (.int .i64 ((used s.fs : Nat) : Int)) ∧ w' = w := by
  have c1 := h.c1
  obtain ⟨u, hu⟩ : ∃ u : Nat, used s.fs = u := ⟨_, rfl⟩
  rw [hu] at c1 ⊢
  clear h hu
  go_enter Tryz.func77, Tryz.ntmps77
  go_wp2
  go_ret
  exact ⟨rfl, rfl⟩
theorem room_pany (p m : Nat) (V : List Fv) (q : Option Nat) (s : St) (F : Int) (w : World) (h : PX w p m V q s F) :
    Calls Tryz.prog 78 #[.pointer (some ⟨p, 0, none⟩)] w fun e w' => e = .returned (.int .i64 (s.most - ((used s.fs : Nat) : Int))) ∧ ∃ n, w' = w.drewN n := by
  have c1 := h.c1
  have c2 := h.c2
  have hu := h.used_le
  have m0 := h.wf.m0
  have m1 := h.wf.m1
  obtain ⟨u, hu'⟩ : ∃ u : Nat, used s.fs = u := ⟨_, rfl⟩
  obtain ⟨mo, hm⟩ : ∃ mo, s.most = mo := ⟨_, rfl⟩
  rw [hu'] at c1 hu ⊢
  rw [hm] at c2 m0 m1 ⊢
  have wz : IntKind.i64.wrap (mo - (u : Int)) = mo - (u : Int) := by rw [IntKind.wrap_i64]; omega
  clear h hu' hm
  go_enter Tryz.func78, Tryz.ntmps78
  go_wp2_with fail
  go_quiet (fail)
  go_wp2
  go_ret
  exact ⟨rfl, nq, rfl⟩
theorem ops_any (k : Nat) (z : Fz) (w : World) (hz : FZ w (some k) (some z)) :
    Calls Tryz.prog 41 #[.pointer (some ⟨k, 0, none⟩)] w fun e w' => e = .returned (.int .i64 z.done) ∧ w' = w := by
  obtain ⟨zn, zd, zb⟩ := z
  have z1 := cell_of_row w k 1 _ _ _ hz.1
  simp only [List.getElem?_toArray, List.getElem?_cons_zero, List.getElem?_cons_succ] at z1
  dsimp only at z1 ⊢
  clear hz
  go_enter Tryz.func41, Tryz.ntmps41
  go_wp2
  go_ret
  exact ⟨rfl, rfl⟩
theorem set_pany (k : Nat) (z : Fz) (n : Int) (w : World) (hz : FZ w (some k) (some z)) :
    Calls Tryz.prog 23 #[.pointer (some ⟨k, 0, none⟩), .int .i64 n] w fun e w' => e = .returned (.tuple #[]) ∧ FZ w' (some k) (some ⟨n, 0, false⟩) ∧ Upd (fun j => j = k) w w' := by
  obtain ⟨zn, zd, zb⟩ := z
  have ho := hz.1
  dsimp only at ho
  have z0 := cell_of_row w k 0 _ _ _ ho
  have z1 := cell_of_row w k 1 _ _ _ ho
  have zf : ∀ j, w.frozen? ⟨k, j, none⟩ = false := fun j => frozen_of_row w k j _ _ ho
  simp only [List.getElem?_toArray, List.getElem?_cons_zero, List.getElem?_cons_succ] at z0 z1
  obtain ⟨w3, hw3⟩ : ∃ w3, (w.setCell ⟨k, 0, none⟩ (.int .i64 n)).setCell ⟨k, 1, none⟩ (.int .i64 0) = w3 := ⟨_, rfl⟩
  have HF : Hid (FZ w3 (some k) (some ⟨n, 0, false⟩) ∧ Upd (fun j => j = k) w w3) := by
    rw [← hw3]
    refine ⟨⟨two_set (cs := #[]) ho _ _, ?_⟩, two_upd _ _⟩
    show false = decide (0 < n ∧ n ≤ 0)
    rw [decide_eq_false (by omega)]
  clear hz ho
  go_enter Tryz.func23, Tryz.ntmps23
  go_wp2
  exact bodyPost_end (v := .tuple #[]) (by simp [results, Tryz.results23, go_sem]) rfl ⟨rfl, HF.out.1, HF.out.2⟩
theorem set_nil (n : Int) (w : World) : Calls Tryz.prog 23 #[.pointer none, .int .i64 n] w fun e w' => e = .returned (.tuple #[]) ∧ w' = w := by
  go_enter Tryz.func23, Tryz.ntmps23
  go_wp2
  exact bodyPost_end (v := .tuple #[]) (by simp [results, Tryz.results23, go_sem]) rfl ⟨rfl, rfl⟩
theorem p_only {w : World} {p m : Nat} {V : List Fv} {q : Option Nat} {s : St} {F : Int} (h : PX w p m V q s F) : (∀ k, k = p → ∀ cur T, w.heap[k]? = some (.cells cur T (0, 0)) → T ≠ 5) ∧ ¬ m = p := by
  refine ⟨fun k hk cur T e => ?_, fun e => h.ne e.symm⟩
  subst hk
  rw [h.o] at e
  injection e with e
  injection e with _ e _
  subst e; decide
theorem offline_any (p m : Nat) (V : List Fv) (q : Option Nat) (s : St) (F : Int) (b : Bool) (w : World) (h : PX w p m V q s F) :
    Calls Tryz.prog 69 #[.pointer (some ⟨p, 0, none⟩), .bool b] w fun e w' => e = .returned (.tuple #[]) ∧ PX w' p m V q { s with off := b } F ∧ Upd (fun k => k = p) w w' := by
  have c4 := h.c4
  have f4 := h.soft 4
  obtain ⟨w3, hw3⟩ : ∃ w3, w.setCell ⟨p, 4, none⟩ (.bool b) = w3 := ⟨_, rfl⟩
  have u : Upd (fun k => k = p) w w3 := by rw [← hw3]; exact Upd.put (M := fun k => k = p) (Upd.refl _ _) (p := ⟨p, 4, none⟩) (.inl rfl) _
  have HF : Hid (PX w3 p m V q { s with off := b } F ∧ Upd (fun k => k = p) w w3) := by
    refine ⟨h.turn u (p_only h).1 (p_only h).2 ?_ rfl ⟨h.wf.n, h.wf.b, h.wf.p, h.wf.m0, h.wf.m1, h.wf.b0, h.wf.b1⟩ h.F0 h.F1, u⟩
    rw [← hw3, heap_setCell_same w p 4 _ _ (.bool b) h.o]; rfl
  obtain ⟨ob, hob⟩ : ∃ ob, s.off = ob := ⟨_, rfl⟩
  rw [hob] at c4
  clear h u hob
  go_enter Tryz.func69, Tryz.ntmps69
  go_wp2
  exact bodyPost_end (v := .tuple #[]) (by simp [results, Tryz.results69, go_sem]) rfl ⟨rfl, HF.out.1, HF.out.2⟩
theorem fail_any (p m : Nat) (V : List Fv) (q : Option Nat) (s : St) (F n : Int) (w : World) (h : PX w p m V q s F) (h0 : -9223372036854775808 ≤ n) (h1 : n ≤ 9223372036854775807) :
    Calls Tryz.prog 70 #[.pointer (some ⟨p, 0, none⟩), .int .i64 n] w fun e w' => e = .returned (.tuple #[]) ∧ PX w' p m V q { s with bad := max n 0 } n ∧ Upd (fun k => k = p) w w' := by
  have c4 := h.c5
  have f4 := h.soft 5
  obtain ⟨w3, hw3⟩ : ∃ w3, w.setCell ⟨p, 5, none⟩ (.int .i64 n) = w3 := ⟨_, rfl⟩
  have u : Upd (fun k => k = p) w w3 := by rw [← hw3]; exact Upd.put (M := fun k => k = p) (Upd.refl _ _) (p := ⟨p, 5, none⟩) (.inl rfl) _
  have HF : Hid (PX w3 p m V q { s with bad := max n 0 } n ∧ Upd (fun k => k = p) w w3) := by
    refine ⟨h.turn u (p_only h).1 (p_only h).2 ?_ rfl ⟨h.wf.n, h.wf.b, h.wf.p, h.wf.m0, h.wf.m1, (by show 0 ≤ max n 0; omega), (by show max n 0 ≤ _; omega)⟩ rfl ⟨h0, h1⟩, u⟩
    rw [← hw3, heap_setCell_same w p 5 _ _ (.int .i64 n) h.o]; rfl
  clear h u
  go_enter Tryz.func70, Tryz.ntmps70
  go_wp2
  exact bodyPost_end (v := .tuple #[]) (by simp [results, Tryz.results70, go_sem]) rfl ⟨rfl, HF.out.1, HF.out.2⟩
/-- All entries are cleared. -/
theorem clear_map {w : World} {b n : Nat} {D : DataW Value} (h : w.ownsMap Tryz.prog 9 RF b n D) (ty : TypeId) : ∃ w', (Builtin.clear_ #[107] ty #[.map (some b)]).run Tryz.prog w = .ok (.tuple #[]) w' ∧ w'.ownsMap Tryz.prog 9 RF b 0 (.map []) ∧ w.mapTurned w' b := by
  obtain ⟨es, clock, hb, F, hs, rfl⟩ := h
  refine ⟨Go.ChangeMaps.setBlock w b (.map #[] clock), by simp [Builtin.clear_, run_underlying Tryz.underlying107, MapKept.run_getObj_map hb, MapKept.run_setObj_map _ hb, Result.andThen, Go.ChangeMaps.setBlock], ⟨#[], clock, Go.ChangeMaps.heap_setBlock_same hb _, ⟨by simp, Go.MapKept.stamped_empty clock, by simp⟩, Nat.le_refl _, rfl⟩, ⟨es, clock, #[], clock, hb, rfl⟩⟩
set_option maxHeartbeats 2000000 in
theorem wipe_any (p m : Nat) (V : List Fv) (q : Option Nat) (s : St) (F : Int) (w : World) (h : PX w p m V q s F) :
    Calls Tryz.prog 71 #[.pointer (some ⟨p, 0, none⟩)] w fun e w' => e = .returned (.tuple #[]) ∧ PX w' p m [] q { s with fs := [] } F ∧ Upd (fun k => k = p ∨ k = m) w w' := by
  obtain ⟨w1, hr, ho1, ht1⟩ := clear_map h.m 0
  have hpm := h.ne
  have u1 := turned_upd ht1
  have o1 : w1.heap[p]? = _ := (u1.block p h.lt (fun e => hpm e)).trans h.o
  have c0 := h.c0
  have d0 := cell_of_row w1 p 0 _ _ _ o1
  have d1 := cell_of_row w1 p 1 _ _ _ o1
  have f1 := frozen_of_row w1 p 1 _ _ o1
  obtain ⟨w3, hw3⟩ : ∃ w3, w1.setCell ⟨p, 1, none⟩ (.int .i64 0) = w3 := ⟨_, rfl⟩
  have HF : Hid (PX w3 p m [] q { s with fs := [] } F ∧ Upd (fun k => k = p ∨ k = m) w w3) := by
    have u3 : Upd (fun k => k = p) w1 w3 := by rw [← hw3]; exact Upd.put (M := fun k => k = p) (Upd.refl _ _) (p := ⟨p, 1, none⟩) (.inl rfl) _
    refine ⟨⟨?_, map_upd ho1 u3 (fun e => hpm e.symm), fun x hx => absurd hx (List.not_mem_nil), rfl, ⟨Nat.zero_le _, fun f hf => absurd hf (List.not_mem_nil), fun f hf => absurd hf (List.not_mem_nil), h.wf.m0, h.wf.m1, h.wf.b0, h.wf.b1⟩, List.Pairwise.nil, List.Pairwise.nil, h.F0, h.F1⟩, (u1.mono fun k _ e => .inr e).trans (u3.mono fun k _ e => .inl e)⟩
    rw [← hw3, heap_setCell_same w1 p 1 _ _ (.int .i64 0) o1]; rfl
  simp only [List.getElem?_toArray, List.getElem?_cons_zero, List.getElem?_cons_succ] at d0 d1
  obtain ⟨u0, hu0⟩ : ∃ u0 : Nat, used s.fs = u0 := ⟨_, rfl⟩
  rw [hu0] at d1
  clear h u1 o1 ho1 ht1 hpm hu0
  go_enter Tryz.func71, Tryz.ntmps71
  go_wp2
  exact bodyPost_end (v := .tuple #[]) (by simp [results, Tryz.results71, go_sem]) rfl ⟨rfl, HF.out.1, HF.out.2⟩
end Go.Proofs.YtebngmgdciahiaaGreatDoor
