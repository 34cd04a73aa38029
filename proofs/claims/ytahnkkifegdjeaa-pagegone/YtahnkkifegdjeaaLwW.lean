/-
  Walks from page to page: what a token leaves.
-/
import Derived.Test.YtahnkkifegdjeaaLwH
namespace Go.Proofs.Ytahnkkifegdjeaa
open Go.RowKit Go.Shelf Go.Sort Nq
set_option linter.unusedVariables false

theorem drop_of {X : List En} {r : En → En → Bool} (hp : X.Pairwise (fun x y => r x y = true)) (hi : ∀ x, r x x = false) (ha : ∀ x y, r x y = true → r y x = false) (s : Nat) (hs : s < X.length) : X.filter (r X[s]!) = X.drop (s + 1) := by
  induction X generalizing s with
  | nil => simp at hs
  | cons x X ih =>
    rw [List.pairwise_cons] at hp
    cases s with
    | zero =>
      show (x :: X).filter (r x) = X
      rw [List.filter_cons, hi x, if_neg (by simp), List.filter_eq_self]
      exact hp.1
    | succ s =>
      have hs' : s < X.length := by simpa using hs
      have e : (x :: X)[s + 1]! = X[s]! := by simp
      rw [e, List.filter_cons, ha _ _ (hp.1 _ (at_mem hs')), if_neg (by simp)]
      show _ = X.drop (s + 1)
      exact ih hp.2 s hs'
/-- Versions under a prefix; objects under a prefix. -/
def vX (L : List En) (p : ByteArray) : List En := (srt L).filter (fun e => pre (tx e.key) (tx p))
def oX (L : List En) (p : ByteArray) : List En := (srt L).filter (fun e => pre (tx e.key) (tx p) && pO e)
theorem vX_len (L : List En) (p : ByteArray) : (vX L p).length ≤ L.length := by rw [← srt_length L]; exact List.length_filter_le _ _
theorem oX_len (L : List En) (p : ByteArray) : (oX L p).length ≤ L.length := by rw [← srt_length L]; exact List.length_filter_le _ _
theorem vX_start (L : List En) (p : ByteArray) (m : Int) : (srt L).filter (rin ⟨p, noB, 0, m⟩ true) = (vX L p).drop 0 := by
  rw [List.drop_zero]; unfold vX; congr 1; funext e; exact rin_true p m e
theorem oX_start (L : List En) (p : ByteArray) (m : Int) : (srt L).filter (rin ⟨p, noB, 0, m⟩ false) = (oX L p).drop 0 := by
  rw [List.drop_zero]; unfold oX; congr 1; funext e; exact rin_false p m e
theorem ltE_asym (x y : En) (h : ltE x y = true) : ltE y x = false := swoL.asymmA h
theorem vX_next {L : List En} (hf : FairP L) (p : ByteArray) (m : Int) (s : Nat) (hs : s < (vX L p).length) : (srt L).filter (rin ⟨p, (vX L p)[s]!.key, (vX L p)[s]!.id, m⟩ true) = (vX L p).drop (s + 1) := by
  have hm := at_mem hs
  have hk : tx (vX L p)[s]!.key ≠ [] := (fairM hf).key _ (srt_mem.1 (List.mem_filter.1 hm).1)
  have h1 := drop_of (X := vX L p) (r := ltE) ((srt_lt (fair_dis hf) (fair_nodup hf)).filter _) ltE_irrefl ltE_asym s hs
  rw [← h1]
  generalize (vX L p)[s]! = e at *
  unfold vX
  rw [List.filter_filter]
  congr 1
  funext y
  unfold rin rin1 abv ltE
  dsimp only
  rw [decide_eq_false hk]
  have e1 : decide (y.key = e.key) = decide (e.key = y.key) := decide_eq_decide.2 ⟨fun q => q.symm, fun q => q.symm⟩
  rw [e1]
  cases pre (tx y.key) (tx p) <;> simp
def lsE (x y : En) : Bool := ls (tx x.key) (tx y.key)
theorem oX_next {L : List En} (hf : FairP L) (p : ByteArray) (m : Int) (s : Nat) (hs : s < (oX L p).length) : (srt L).filter (rin ⟨p, (oX L p)[s]!.key, 0, m⟩ false) = (oX L p).drop (s + 1) := by
  have hm := at_mem hs
  have hk : tx (oX L p)[s]!.key ≠ [] := (fairM hf).key _ (srt_mem.1 (List.mem_filter.1 hm).1)
  have hp : (oX L p).Pairwise (fun x y => lsE x y = true) := by
    have h0 := (srt_lt (fair_dis hf) (fair_nodup hf)).filter (fun e => pre (tx e.key) (tx p) && pO e)
    refine List.Pairwise.imp_of_mem ?_ h0
    intro x y hx hy h
    have hx' := List.mem_filter.1 hx
    have hy' := List.mem_filter.1 hy
    have lx : x.la = true := by
      have := hx'.2
      unfold pO at this
      simp only [Bool.and_eq_true] at this
      exact this.2.1
    have ly : y.la = true := by
      have := hy'.2
      unfold pO at this
      simp only [Bool.and_eq_true] at this
      exact this.2.1
    unfold ltE at h
    simp only [Bool.or_eq_true, Bool.and_eq_true, decide_eq_true_eq] at h
    rcases h with h | ⟨h, g⟩
    · exact h
    · exfalso
      have := ((fairM hf).la y (srt_mem.1 hy'.1)).1 ly x (srt_mem.1 hx'.1) h
      omega
  have h1 := drop_of (X := oX L p) (r := lsE) hp (fun x => ls_same _) (fun x y h => ls_both _ _ h) s hs
  rw [← h1]
  generalize (oX L p)[s]! = e at *
  unfold oX
  rw [List.filter_filter]
  congr 1
  funext y
  unfold rin rin1 abv pO lsE
  dsimp only
  rw [decide_eq_false hk]
  cases pre (tx y.key) (tx p) <;> cases ls (tx e.key) (tx y.key) <;> cases y.la <;> cases y.mr <;> rfl
theorem page_last (X : List En) (t m : Nat) (v : Bool) (h : X.length ≤ t + m) : cutA (X.drop t) (m : Int) v = ⟨X.drop t, false, noB, 0⟩ :=
  cutA_less (decide_eq_false (by rw [List.length_drop]; omega))
theorem page_more (X : List En) (t m : Nat) (v : Bool) (hm : 0 < m) (h : t + m < X.length) : cutA (X.drop t) (m : Int) v = ⟨(X.drop t).take m, true, X[t + m - 1]!.key, if v = true then X[t + m - 1]!.id else 0⟩ := by
  have e : (X.drop t)[m - 1]! = X[t + m - 1]! := by
    rw [getElem!_pos (X.drop t) (m - 1) (by rw [List.length_drop]; omega), List.getElem_drop, ← getElem!_pos X (t + (m - 1)) (by omega)]
    congr 1; omega
  rw [cutA_more (decide_eq_true (by rw [List.length_drop]; omega)), show (m : Int).toNat = m by omega, e]
theorem take_on (X : List En) (t m : Nat) : X.take t ++ (X.drop t).take m = X.take (t + m) := (List.take_add).symm
theorem gb_es {a b : World} {ob : Nat} {ad : Option Addr} {L : List En} (h : a.grownBy b (some ob)) (k : Es a ad L) (hn : ∀ x, ad = some x → x.block ≠ ob) : Es b ad L := fun h0 => by
  obtain ⟨g, o, rfl, hc⟩ := k h0
  exact ⟨g, o, rfl, fun i hi => gb_eat h (hn _ rfl) (hc i hi)⟩
theorem gb_nat {a b : World} {ob p : Nat} {v : Value} {m : Bool} {k : ByteArray} {i : Int} (h : a.grownBy b (some ob)) (hn : p ≠ ob) (n : NAt a p v m k i) : NAt b p v m k i := by
  have hp : p < a.heap.size := block_lt_of_cell n.c0
  exact ⟨(gb_cell h hp hn).trans n.c0, (gb_cell h hp hn).trans n.c1, (gb_cell h hp hn).trans n.c2, (gb_cell h hp hn).trans n.c3⟩
/-- A question in a block of its own. -/
def QB (w : World) (b : Nat) (q : Aq) : Prop := w.heap[b]? = some (.cells #[.string q.pr, .string q.fr, .int .i64 q.fi, .int .i64 q.mo] 32)
theorem QB.lt {w : World} {b : Nat} {q : Aq} (h : QB w b q) : b < w.heap.size := (Array.getElem?_eq_some_iff.1 h).1
theorem QB.keep {w w' : World} {b B : Nat} {q : Aq} (h : QB w b q) (hb : Below B w w') (hB : b < B) : QB w' b q := (hb.block b hB).trans h
theorem QB.cells {w : World} {b : Nat} {q : Aq} (h : QB w b q) : w.cell? ⟨b, 0, none⟩ = some (.string q.pr) ∧ w.cell? ⟨b, 1, none⟩ = some (.string q.fr) ∧ w.cell? ⟨b, 2, none⟩ = some (.int .i64 q.fi) ∧ w.cell? ⟨b, 3, none⟩ = some (.int .i64 q.mo) ∧ ∀ j, w.frozen? ⟨b, j, none⟩ = false :=
  ⟨cell_of_row w b 0 _ _ _ h, cell_of_row w b 1 _ _ _ h, cell_of_row w b 2 _ _ _ h, cell_of_row w b 3 _ _ _ h, fun j => frozen_of_row w b j _ _ h⟩
theorem QB.set1 {w : World} {b : Nat} {q : Aq} (h : QB w b q) (s : ByteArray) : QB (w.setCell ⟨b, 1, none⟩ (.string s)) b ⟨q.pr, s, q.fi, q.mo⟩ := heap_setCell_same _ b 1 _ _ (.string s) h
theorem QB.set2 {w : World} {b : Nat} {q : Aq} (h : QB w b q) (i : Int) : QB (w.setCell ⟨b, 2, none⟩ (.int .i64 i)) b ⟨q.pr, q.fr, i, q.mo⟩ := heap_setCell_same _ b 2 _ _ (.int .i64 i) h
theorem QB.gb {a w : World} {b ob : Nat} {q : Aq} (h : QB a b q) (g : a.grownBy w (some ob)) (hn : b ≠ ob) : QB w b q := (g.block b h.lt (fun e => hn (by injection e))).trans h
end Go.Proofs.Ytahnkkifegdjeaa
