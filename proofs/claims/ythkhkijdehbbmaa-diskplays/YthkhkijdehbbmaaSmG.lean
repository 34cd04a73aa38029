/-
  Paths are sorted: sort.Slice by the contract of the shelf, over the program's own closure.
-/
import Derived.Test.YthkhkijdehbbmaaSmP
import Derived.Test.YthkhkijdehbbmaaLs
import Derived.Test.YthkhkijdehbbmaaDkJ
import Derived.Lib.RowBridge
import Derived.Lib.SortBridge
import Derived.Sort.LotA
import Derived.Sort.OwnSorted
import Derived.Shelf.GgSortFunc.Whole
import Derived.Shelf.GgSortFunc.Tiny
set_option maxRecDepth 100000
namespace Go.Proofs.Ythkhkijdehbbmaa
open Go.RowKit Go.Shelf Go.Lib Go.Sort
open _root_.Go.Proofs.Ythkhkijdehbbmaa.Nm _root_.Go.Proofs.Ythkhkijdehbbmaa.Dk
attribute [local go_sem ↓] Go.wp_at_zero Go.wp_at_succ
set_option linter.unusedVariables false

theorem swo_ls : SWO ls where
  irrefl x := ls_same x
  trans x y z h k := ls_trans x y z h k
  ntrans x y z h k := by
    cases e : ls x z with
    | false => rfl
    | true =>
      cases e2 : ls y x with
      | true => rw [ls_trans _ _ _ e2 e] at k; cases k
      | false =>
        have := ls_none _ _ h e2
        subst this
        rw [e] at k; cases k
noncomputable def siT : TypeInfo := (Try.prog.info? 36).get (by kernel_rfl)
noncomputable def siE : TypeInfo := (Try.prog.info? 9).get (by kernel_rfl)
theorem siK (n : Nat) (h2 : 2 ≤ n) : Lib.swapperK n siE 24 = 4 := by
  have a : siE.hasPointers = true := by kernel_rfl
  have b : siE.bytes = 16 := by kernel_rfl
  have c : (n == 0) = false := by simp; omega
  have d : (n == 1) = false := by simp; omega
  simp [Lib.swapperK, a, b, c, d]
theorem encStr_tx (s : ByteArray) : encStr (tx s) = .string s := by
  show Value.string ⟨(tx s).toArray⟩ = _
  unfold tx
  simp
set_option maxHeartbeats 2000000 in
/-- The program's own closure: it reads the boxed slice and two of its texts. -/
theorem less_txt (blk off c Bs size : Nat) (W : World) (G : Nat → List UInt8) (hs : W.cell? ⟨Bs, 0, none⟩ = some (.slice (some ⟨blk, off, none⟩) size c))
    (hc : ∀ t, t < size → W.cell? ⟨blk, off + t, none⟩ = some (encStr (G t))) (i j : Nat) (hi : i < size) (hj : j < size) :
    Calls Try.prog 54 #[.int .i64 i, .int .i64 j, .pointer (some ⟨Bs, 0, none⟩)] W fun e w' => e = .returned (.bool (ls (G i) (G j))) ∧ ∃ q, w' = W.drewN q := by
  obtain ⟨a, ha⟩ : ∃ a : ByteArray, (⟨(G i).toArray⟩ : ByteArray) = a := ⟨_, rfl⟩
  obtain ⟨b, hb⟩ : ∃ b : ByteArray, (⟨(G j).toArray⟩ : ByteArray) = b := ⟨_, rfl⟩
  have ci : W.cell? ⟨blk, off + i, none⟩ = some (.string a) := by rw [hc i hi, ← ha]
  have cj : W.cell? ⟨blk, off + j, none⟩ = some (.string b) := by rw [hc j hj, ← hb]
  have ea : tx a = G i := by rw [← ha]; unfold tx; simp
  have eb : tx b = G j := by rw [← hb]; unfold tx; simp
  rw [← ea, ← eb]
  have cL : ∀ w, Calls Try.prog 55 #[.string a, .string b] w fun e w' => e = .returned (.bool (ls (tx a) (tx b))) ∧ w' = w := fun w => (less_any a b w).mono fun e w' h => ⟨h.1, h.2.symm⟩
  clear hc ha hb ea eb
  go_enter Try.func54, Try.ntmps54
  go_wp2_with fail
  go_quiet ((go_at_call 55; refine (cL _).mono ?_; rintro e w9 ⟨rfl, rfl⟩; exact ⟨rfl, _, rfl⟩))
  go_wp2
  go_ret
  exact ⟨rfl, nq, rfl⟩
/-- Behind the sort: the same texts, rising. -/
def SortEnd (base Bs : Nat) (v : Value) (L : List Sv) (w : World) (e : Ending) (w' : World) : Prop :=
  e = .returned (.tuple #[]) ∧ ∃ L', SOwn w' base v L' ∧ PermIn 0 L.length (L.map fun y => tx y.s).toArray (L'.map fun y => tx y.s).toArray ∧ SortedIn ls 0 L.length (L'.map fun y => tx y.s).toArray ∧ w'.heap[Bs]? = w.heap[Bs]? ∧ w.grownBy w' v.ownBlock
theorem scs_enc (L : List Sv) : scs L = (L.map fun y => tx y.s).map encStr := by
  unfold scs
  induction L with
  | nil => rfl
  | cons e L ih =>
    rw [List.flatMap_cons, ih, List.map_cons, List.map_cons, encStr_tx]
    rfl
theorem sort_tiny (n : Nat) (h1 : n ≤ 1) (p : Option Addr) (c Bs : Nat) (w : World) :
    Calls Try.prog 53 #[.iface 36 (.slice p n c), .func (.func 54) #[] #[.pointer (some ⟨Bs, 0, none⟩)]] w fun e w' => e = .returned (.tuple #[]) ∧ ∃ os, w' = grow w os := by
  have hK : Lib.swapperK n siE 24 = n + 1 := by
    rcases Nat.eq_zero_or_pos n with h | h
    · subst h; simp [Lib.swapperK]
    · obtain rfl : n = 1 := by omega
      simp [Lib.swapperK]
  have hS := Any.sort_Slice_tiny Try.sl6 36 9 siT siE (by kernel_rfl) (by kernel_rfl) (by kernel_rfl) (by kernel_rfl) 24 (fun _ => by kernel_rfl) p n c h1 (68 + n) (by
    rw [hK]
    rcases Nat.eq_zero_or_pos n with h | h
    · subst h; kernel_rfl
    · obtain rfl : n = 1 := by omega
      kernel_rfl) (.func 54) #[] #[.pointer (some ⟨Bs, 0, none⟩)] w
  exact hS
set_option maxHeartbeats 2000000 in
theorem sort_some (blk c Bs : Nat) (d : Array (List UInt8)) (h2 : 2 ≤ d.size) (h12 : d.size ≤ 1000000) (w : World) (hs : w.cell? ⟨Bs, 0, none⟩ = some (.slice (some ⟨blk, 0, none⟩) d.size c)) (hne : Bs ≠ blk) (hH : Holds encStr w blk 0 d) (hblk : blk < w.heap.size) :
    Calls Try.prog 53 #[.iface 36 (.slice (some ⟨blk, 0, none⟩) d.size c), .func (.func 54) #[] #[.pointer (some ⟨Bs, 0, none⟩)]] w fun e w' =>
      e = .returned (.tuple #[]) ∧ ∃ d' n os, PermIn 0 d.size d d' ∧ SortedIn ls 0 d.size d' ∧ w' = grow (putRow encStr (Sort.ahead w n) blk 0 d') os := by
  have hBs : Bs < w.heap.size := block_lt_of_cell hs
  have hless : LessReads Try.prog 54 #[.pointer (some ⟨Bs, 0, none⟩)] encStr ls blk 0 d.size w := by
    intro m os dk hk i j hi hj
    have e : sortWorld encStr w blk 0 m dk os = putRow encStr (grow (Sort.ahead w m) os) blk 0 dk := by
      unfold sortWorld; rw [putRow_grow _ (Sort.ahead w m) _ blk 0 _ hblk]
    have hHg : Holds encStr (grow (Sort.ahead w m) os) blk 0 d := holds_grow _ _ _ blk 0 d hblk (holds_ahead _ _ _ _ _ _ hH)
    refine less_txt blk 0 c Bs d.size _ (fun t => dk[t]!) ?_ (fun t ht => ?_) i j hi hj
    · rw [e, cell?_putRow_other _ _ blk 0 dk _ (Or.inl hne), cell?_grow _ _ _ hBs]
      exact hs
    · rw [e]; exact cell?_putRow _ _ blk 0 d dk hHg hk t (by omega)
  exact Any.sort_Slice_sorted Try.sl6 36 9 siT siE (by kernel_rfl) (by kernel_rfl) (by kernel_rfl) (by kernel_rfl) 24 (fun _ => by kernel_rfl) (by kernel_rfl) (fun _ => by kernel_rfl) encStr (fun _ => rfl) ls swo_ls 54 _
    (enters_of Try.func54 (by kernel_rfl) rfl) blk 0 c d h2 (by omega) 71 (by rw [siK _ h2]; kernel_rfl) true
    (fun args W => run_callFunc_extern Try.func71 (by kernel_rfl) (by kernel_rfl) (by kernel_rfl) (e := Extern.ReflectliteSwapper.swap true) (by kernel_rfl) args W) _ hless hH hblk
theorem permIn_same (d : Array (List UInt8)) : PermIn 0 d.size d d := ⟨rfl, fun _ _ => rfl, List.Perm.refl _⟩
theorem sortedIn_small (d : Array (List UInt8)) {n : Nat} (h : n ≤ 1) : SortedIn ls 0 n d := fun i j _ _ _ => by omega
theorem below_grow (w : World) (os : Array Obj) : Below w.heap.size w (grow w os) := ⟨rfl, rfl, rfl, by simp [grow], fun k hk => heap_grow_old _ _ hk⟩
theorem sort_any (base Bs : Nat) (v : Value) (L : List Sv) (w : World) (ho : SOwn w base v L) (hb : w.heap[Bs]? = some (.cells #[v] 36)) (hl : L.length ≤ 1000000) :
    Calls Try.prog 53 #[.iface 36 v, .func (.func 54) #[] #[.pointer (some ⟨Bs, 0, none⟩)]] w (SortEnd base Bs v L w) := by
  have hBs : Bs < w.heap.size := (Array.getElem?_eq_some_iff.1 hb).1
  have hsz : (L.map fun y => tx y.s).toArray.size = L.length := by simp
  by_cases h1 : L.length ≤ 1
  · have tiny : ∀ p c, v = .slice p L.length c → Calls Try.prog 53 #[.iface 36 v, .func (.func 54) #[] #[.pointer (some ⟨Bs, 0, none⟩)]] w (SortEnd base Bs v L w) := fun p c e => by
      have cS := sort_tiny L.length h1 p c Bs w
      rw [← e] at cS
      refine cS.mono ?_
      rintro e w' ⟨rfl, os, rfl⟩
      have hbl := below_grow w os
      have hp := permIn_same (L.map fun y => tx y.s).toArray
      rw [hsz] at hp
      exact ⟨rfl, L, ho.keep hbl, hp, sortedIn_small _ h1, hbl.block Bs hBs, ⟨hbl.os, hbl.tape, hbl.output, hbl.size, fun k hk _ => hbl.block k hk⟩⟩
    rcases ho.2 with ⟨e1, e2⟩ | ⟨g, cap, cur, e1, hg, hh, hr⟩
    · exact tiny none 0 (by rw [e1, e2])
    · exact tiny _ _ e1
  · rcases ho.2 with ⟨e1, e2⟩ | ⟨g, cap, cur, e1, hg, hh, hnc, hm, hcs, ht⟩
    · omega
    · have hne : Bs ≠ g := fun e => by
        subst e
        rw [hb] at hh
        injection hh with hh
        injection hh with _ hh _
        cases hh
      have hgl : g < w.heap.size := (Array.getElem?_eq_some_iff.1 hh).1
      have ht' : cur.toList.take (L.map fun y => tx y.s).length = (L.map fun y => tx y.s).map encStr := by
        rw [List.length_map, ← scs_enc]
        rw [Nat.mul_one] at ht; exact ht
      have hH := Go.holds_of_block hh ht'
      have cS := sort_some g cap Bs (L.map fun y => tx y.s).toArray (by rw [hsz]; omega) (by rw [hsz]; exact hl) w (by
        rw [hsz, ← e1]
        rw [cell_of_row w Bs 0 _ _ _ hb]; rfl) hne hH hgl
      rw [hsz, ← e1] at cS
      refine cS.mono ?_
      rintro e w' ⟨rfl, d', n, os, hp, hso, rfl⟩
      obtain ⟨T, hT⟩ : ∃ T : List (List UInt8), d' = T.toArray := ⟨d'.toList, by simp⟩
      subst hT
      have hTl : T.length = L.length := by
        have := hp.1
        simpa using this
      have hgr := Go.grownBy_sorted (w := w) (g := g) (n := n) (os := os) T.toArray
      refine ⟨rfl, T.map fun t => ⟨⟨t.toArray⟩⟩, ?_, ?_, ?_, hgr.block Bs hBs (fun e => hne (Option.some.inj e)), ?_⟩
      · have e3 : ((T.map fun t => (⟨⟨t.toArray⟩⟩ : Sv)).map fun y => tx y.s) = T := by
          rw [List.map_map]
          have : ((fun y : Sv => tx y.s) ∘ fun t => (⟨⟨t.toArray⟩⟩ : Sv)) = id := by funext t; simp [tx]
          rw [this, List.map_id]
        have hor := Go.ownsRow_sorted (n := n) (os := os) (ss := L.map fun y => tx y.s) (ts := T) (by rw [hTl, List.length_map]) hg hh (by rw [List.length_map]; exact hnc) hm (by rw [hcs])
        unfold SOwn
        rw [scs_enc, e3, e1, List.length_map, hTl]
        rw [List.length_map] at hor
        exact hor
      · have e3 : ((T.map fun t => (⟨⟨t.toArray⟩⟩ : Sv)).map fun y => tx y.s) = T := by
          rw [List.map_map]
          have : ((fun y : Sv => tx y.s) ∘ fun t => (⟨⟨t.toArray⟩⟩ : Sv)) = id := by funext t; simp [tx]
          rw [this, List.map_id]
        rw [e3]; exact hp
      · have e3 : ((T.map fun t => (⟨⟨t.toArray⟩⟩ : Sv)).map fun y => tx y.s) = T := by
          rw [List.map_map]
          have : ((fun y : Sv => tx y.s) ∘ fun t => (⟨⟨t.toArray⟩⟩ : Sv)) = id := by funext t; simp [tx]
          rw [this, List.map_id]
        rw [e3]; exact hso
      · rw [e1]; exact hgr
end Go.Proofs.Ythkhkijdehbbmaa
