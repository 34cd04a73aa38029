/-
  Rows of rows whose headers lie in memory of their own: headers that are stored one by one, and headers that are appended one by one.
-/
import Derived.Test.YtbfhmdphhhjlnaaInts
namespace Go.Proofs.Ytbfhmdphhhjlnaa
open Go.RowKit Gf

theorem Row.congr {w : World} {a : Option Addr} {n : Nat} {f g : Nat → Nat} (r : Row w a n f) (e : ∀ i, i < n → f i = g i) (hg : ∀ i, g i < 256) : Row w a n g := by
  refine ⟨hg, fun hn => ?_⟩
  obtain ⟨b, o, q, hc⟩ := r.lies hn
  exact ⟨b, o, q, fun i hi => by rw [hc i hi, e i hi]⟩

theorem Mat.congr {w : World} {a : Option Addr} {n : Nat} {A : Nat → Option Addr} {L L' C : Nat → Nat} {F G : Nat → Nat → Nat} (m : Mat w a n A L C F) (hl : ∀ i, i < n → L i = L' i) (hle : ∀ i, L' i ≤ 9223372036854775807) (e : ∀ i, i < n → ∀ j, j < L i → F i j = G i j) (hG : B G) : Mat w a n A L' C G := by
  refine ⟨fun hn => ?_, fun i hi => ?_, fun i hi q => ?_, hle, hG⟩
  · obtain ⟨b, o, q, hc⟩ := m.lies hn
    exact ⟨b, o, q, fun i hi => by rw [hc i hi, hl i hi]⟩
  · have := (m.row i hi).congr (e i hi) (hG i)
    rwa [hl i hi] at this
  · have := m.nil i hi q
    rwa [hl i hi] at this

/-- Rows whose headers lie, soft, from the beginning of block h on. -/
structure Hold (w : World) (h n : Nat) (A : Nat → Option Addr) (L C : Nat → Nat) (F : Nat → Nat → Nat) : Prop where
  mat : Mat w (some ⟨h, 0, none⟩) n A L C F
  soft : ∀ i, i < n → w.frozen? ⟨h, i, none⟩ = false

theorem Hold.keep {w w' : World} {h n : Nat} {A : Nat → Option Addr} {L C : Nat → Nat} {F : Nat → Nat → Nat} (o : Hold w h n A L C F) (hb : Below w.heap.size w w') : Hold w' h n A L C F :=
  ⟨o.mat.keep hb, fun i hi => by rw [hb.frozen (p := ⟨h, i, none⟩) (block_lt_of_cell (o.mat.cellAt hi))]; exact o.soft i hi⟩

theorem Hold.set {w : World} {h n k l c : Nat} {A : Nat → Option Addr} {L C : Nat → Nat} {F : Nat → Nat → Nat} {a : Option Addr} {f : Nat → Nat} (o : Hold w h n A L C F) (hk : k < n) (r : Row w a l f) (hnil : a = none → l = 0 ∧ c = 0) (hl : l ≤ 9223372036854775807) :
    Hold (w.setCell ⟨h, k, none⟩ (.slice a l c)) h n (upd A k a) (upd L k l) (upd C k c) (upd F k f) := by
  have ck := o.mat.cellAt hk
  refine ⟨⟨fun _ => ⟨h, 0, rfl, fun i hi => ?_⟩, fun i hi => ?_, fun i hi => ?_, fun i => ?_, fun i j => ?_⟩, fun i hi => by rw [World.frozen?_setCell]; exact o.soft i hi⟩
  · rw [Nat.zero_add]
    by_cases e : i = k
    · subst e; rw [upd_at, upd_at, upd_at, cell_same ck]
    · rw [upd_ne _ _ e, upd_ne _ _ e, upd_ne _ _ e, cell_other (fun q => e q.symm)]; exact o.mat.cellAt hi
  · by_cases e : i = k
    · subst e; rw [upd_at, upd_at, upd_at]; exact r.hset ck _
    · rw [upd_ne _ _ e, upd_ne _ _ e, upd_ne _ _ e]; exact (o.mat.row i hi).hset ck _
  · by_cases e : i = k
    · subst e; rw [upd_at, upd_at, upd_at]; exact hnil
    · rw [upd_ne _ _ e, upd_ne _ _ e, upd_ne _ _ e]; exact o.mat.nil i hi
  · by_cases e : i = k
    · subst e; rw [upd_at]; exact hl
    · rw [upd_ne _ _ e]; exact o.mat.le i
  · by_cases e : i = k
    · subst e; rw [upd_at]; exact r.lt j
    · rw [upd_ne _ _ e]; exact o.mat.lt i j

/-- Headers that were just made: n rows of nothing, all nil. -/
theorem Hold.made (w : World) (n : Nat) (F : Nat → Nat → Nat) (hF : B F) : Hold (w.alloc (.cells (madeCells #[.slice none 0 0] n) 30)) w.heap.size n (fun _ => none) (fun _ => 0) (fun _ => 0) F := by
  refine ⟨⟨fun _ => ⟨w.heap.size, 0, rfl, fun i hi => ?_⟩, fun i _ => ⟨hF i, fun h => absurd h (by omega)⟩, fun _ _ _ => ⟨rfl, rfl⟩, fun _ => by omega, hF⟩, fun _ _ => World.frozen?_alloc_new _ _ _ _⟩
  rw [Nat.zero_add, World.cell?_alloc_new, ← Array.getElem?_toList, toList_madeCells_one, List.getElem?_replicate, if_pos (by omega)]

/-- A store over a header in another block touches no rows of rows. -/
theorem Mat.far {w : World} {a : Option Addr} {n h k : Nat} {A : Nat → Option Addr} {L C : Nat → Nat} {F : Nat → Nat → Nat} {x : Option Addr} {y z : Nat} (m : Mat w a n A L C F) (hc : w.cell? ⟨h, k, none⟩ = some (.slice x y z)) (hne : ∀ ad, a = some ad → ad.block ≠ h) (v : Value) : Mat (w.setCell ⟨h, k, none⟩ v) a n A L C F := by
  refine ⟨fun hn => ?_, fun i hi => (m.row i hi).hset hc v, m.nil, m.le, m.lt⟩
  obtain ⟨b, o, e, hr⟩ := m.lies hn
  exact ⟨b, o, e, fun i hi => by rw [cell_far (fun q => hne _ e q.symm)]; exact hr i hi⟩

theorem IRow.far {w : World} {a : Option Addr} {n h k : Nat} {g : Nat → Int} {x : Option Addr} {y z : Nat} (m : IRow w a n g) (hc : w.cell? ⟨h, k, none⟩ = some (.slice x y z)) (v : Value) : IRow (w.setCell ⟨h, k, none⟩ v) a n g := fun hn => by
  obtain ⟨b, o, e, hr⟩ := m hn
  refine ⟨b, o, e, fun i hi => ?_⟩
  rw [World.cell?_setCell_other]
  · exact hr i hi
  · intro q
    have q1 : (⟨h, k, none⟩ : Addr) = ⟨b, o + i, none⟩ := by first | exact q | exact q.symm
    rw [q1, hr i hi] at hc
    cases hc

theorem Row.afar {w w' : World} {a : Option Addr} {n : Nat} {f : Nat → Nat} (r : Row w a n f) (h : 0 < n → ∀ ad, a = some ad → ad.block < w.heap.size → w'.heap[ad.block]? = w.heap[ad.block]?) : Row w' a n f := by
  refine ⟨r.lt, fun hn => ?_⟩
  obtain ⟨b, o, e, hc⟩ := r.lies hn
  exact ⟨b, o, e, fun i hi => by rw [World.cell?_of_block (w := w) (a := ⟨b, o + i, none⟩) (h hn ⟨b, o, none⟩ e (block_lt_of_cell (hc 0 hn)))]; exact hc i hi⟩

/-- v holds k headers in a block of its own from base on; the rows lie in others. -/
structure Hdr (w : World) (base : Nat) (v : Value) (k : Nat) (A : Nat → Option Addr) (L C : Nat → Nat) (F : Nat → Nat → Nat) : Prop where
  own : w.ownsRow base 30 1 v k ((List.range k).map fun i => .slice (A i) (L i) (C i))
  row : ∀ i, i < k → Row w (A i) (L i) (F i)
  blk : ∀ i, i < k → 0 < L i → ∀ ad, A i = some ad → some ad.block ≠ v.ownBlock
  nil : ∀ i, i < k → A i = none → L i = 0 ∧ C i = 0

theorem Hdr.congr {w : World} {base k : Nat} {v : Value} {A A' : Nat → Option Addr} {L L' C C' : Nat → Nat} {F F' : Nat → Nat → Nat} (b : Hdr w base v k A L C F) (e1 : ∀ i, i < k → A i = A' i) (e2 : ∀ i, i < k → L i = L' i) (e3 : ∀ i, i < k → C i = C' i) (e4 : ∀ i, i < k → F i = F' i) : Hdr w base v k A' L' C' F' := by
  refine ⟨?_, fun i hi => ?_, fun i hi z ad e => ?_, fun i hi => ?_⟩
  · have e : ((List.range k).map fun i => Value.slice (A' i) (L' i) (C' i)) = ((List.range k).map fun i => Value.slice (A i) (L i) (C i)) := by
      refine List.map_congr_left fun i hi => ?_
      have := List.mem_range.1 hi
      rw [e1 i this, e2 i this, e3 i this]
    rw [e]; exact b.own
  · rw [← e1 i hi, ← e2 i hi, ← e4 i hi]; exact b.row i hi
  · exact b.blk i hi (by rw [e2 i hi]; exact z) ad (by rw [e1 i hi]; exact e)
  · rw [← e1 i hi, ← e2 i hi, ← e3 i hi]; exact b.nil i hi

theorem Hdr.push {t : TypeId} (ht : Try.prog.underlying t = some (.slice 30)) {w w1 : World} {base k l c : Nat} {v : Value} {A : Nat → Option Addr} {L C : Nat → Nat} {F : Nat → Nat → Nat} {a : Option Addr} {f : Nat → Nat}
    (b : Hdr w base v k A L C F) (hb : Below w.heap.size w w1) (hbase : base ≤ w.heap.size) (r : Row w1 a l f) (hneNew : 0 < l → ∀ ad, a = some ad → some ad.block ≠ v.ownBlock) (hnil : a = none → l = 0 ∧ c = 0) (hk : k + 1 ≤ 1000) :
    ∃ v' W, Sem.run Try.prog (Builtin.append_ #[t, t] t #[v, .slice (some ⟨w1.heap.size, 0, none⟩) 1 1]) (w1.alloc (.cells #[.slice a l c] 30)) = .ok v' W ∧ Hdr W base v' (k + 1) (upd A k a) (upd L k l) (upd C k c) (upd F k f) ∧ Below base w W := by
  obtain ⟨i, hi, hzz⟩ := Option.map_eq_some_iff.1 info27
  simp only [Prod.mk.injEq] at hzz
  obtain ⟨hz, hs, hby⟩ := hzz
  obtain ⟨W1, hW1⟩ : ∃ W1, W1 = w1.alloc (.cells #[.slice a l c] 30) := ⟨_, rfl⟩
  have hb1 : Below w1.heap.size w1 W1 := by rw [hW1]; exact (Below.refl _ _).alloc (Nat.le_refl _) _
  have hsz1 : W1.heap.size = w1.heap.size + 1 := by rw [hW1]; simp
  have hs01 := hb.size
  have hbW1 : Below w.heap.size w W1 := hb.trans (hb1.mono hs01)
  have own1 : W1.ownsRow base 30 1 v k ((List.range k).map fun i => .slice (A i) (L i) (C i)) := b.own.kept (grown_of_below (row := none) hbW1) (by cases v.ownBlock <;> simp)
  have cell1 : W1.cell? ⟨w1.heap.size, 0, none⟩ = some (.slice a l c) := by rw [hW1, World.cell?_alloc_new]; rfl
  rw [← hW1]
  obtain ⟨v', W, hr, hown, hgrow, _, hblk⟩ := run_append_own_at (P := Try.prog) W1 base t t 30 i (.slice none 0 0) 1 24 ht hi hz hs hby rfl (by omega) v k _ own1 ⟨w1.heap.size, 0, none⟩ 1 1 [.slice a l c] (by simp)
    (fun j u hu => by
      cases j with
      | zero => simp at hu; rw [← hu, add_plain]; exact cell1
      | succ j => simp at hu) (fun u hu => by simp at hu; rw [hu]; rfl) (by unfold maxLen; omega) (by omega) (by omega)
  have hlt : ∀ g, v.ownBlock = some g → base ≤ g ∧ g < w.heap.size := b.own.lt
  have hbel : Below base W1 W := (Below.refl base W1).grown hgrow (by omega) fun g hg => (hlt g hg).1
  have hsW := hgrow.size
  have stay : ∀ g, g < W1.heap.size → some g ≠ v.ownBlock → W.heap[g]? = W1.heap[g]? := fun g h1 h2 => hgrow.block g h1 h2
  refine ⟨v', W, hr, ⟨?_, fun i hi => ?_, fun i hi z ad e => ?_, fun i hi e => ?_⟩, (hbW1.mono hbase).trans hbel⟩
  · have e : ((List.range (k + 1)).map fun i => Value.slice (upd A k a i) (upd L k l i) (upd C k c i)) = ((List.range k).map fun i => Value.slice (A i) (L i) (C i)) ++ [.slice a l c] := by
      rw [List.range_succ, List.map_append]
      refine app_congr ?_ ?_
      · refine List.map_congr_left fun i hi => ?_
        have := List.mem_range.1 hi
        rw [upd_ne _ _ (by omega), upd_ne _ _ (by omega), upd_ne _ _ (by omega)]
      · simp [upd_at]
    rw [e]; exact hown
  · by_cases q : i = k
    · subst q
      rw [upd_at, upd_at, upd_at]
      exact (r.keep hb1).afar fun z ad e q => stay _ q (hneNew z ad e)
    · rw [upd_ne _ _ q, upd_ne _ _ q, upd_ne _ _ q]
      exact ((b.row i (by omega)).keep hbW1).afar fun z ad e q => stay _ q (b.blk i (by omega) z ad e)
  · by_cases q : i = k
    · subst q
      rw [upd_at] at e z
      rcases hblk with hh | hh
      · rw [hh]; exact hneNew z ad e
      · rw [hh]; intro x; injection x with x
        obtain ⟨b', o', e', hc'⟩ := r.lies z
        rw [e] at e'; injection e' with e'; subst e'
        have := block_lt_of_cell (hc' 0 z)
        simp only at x this
        omega
    · rw [upd_ne _ _ q] at e z
      rcases hblk with hh | hh
      · rw [hh]; exact b.blk i (by omega) z ad e
      · rw [hh]; intro x; injection x with x
        obtain ⟨b', o', e', hc'⟩ := (b.row i (by omega)).lies z
        rw [e] at e'; injection e' with e'; subst e'
        have := block_lt_of_cell (hc' 0 z)
        simp only at x this
        omega
  · by_cases q : i = k
    · subst q
      rw [upd_at] at e
      rw [upd_at, upd_at]; exact hnil e
    · rw [upd_ne _ _ q] at e
      rw [upd_ne _ _ q, upd_ne _ _ q]; exact b.nil i (by omega) e

/-- Headers that were appended, whatever the rows' addresses. -/
def Rws (w : World) (base : Nat) (v : Value) (k : Nat) (L : Nat → Nat) (F : Nat → Nat → Nat) : Prop := ∃ A C, Hdr w base v k A L C F

theorem Rws.start (w : World) (base : Nat) (L : Nat → Nat) (F : Nat → Nat → Nat) : Rws w base (.slice none 0 0) 0 L F :=
  ⟨fun _ => none, fun _ => 0, World.ownsRow_nil w base 30 1, fun i hi => absurd hi (by omega), fun i hi => absurd hi (by omega), fun i hi => absurd hi (by omega)⟩
theorem Rws.empty {w : World} {base g c : Nat} (h : w.ownsRow base 30 1 (.slice (some ⟨g, 0, none⟩) 0 c) 0 []) (L : Nat → Nat) (F : Nat → Nat → Nat) : Rws w base (.slice (some ⟨g, 0, none⟩) 0 c) 0 L F :=
  ⟨fun _ => none, fun _ => 0, h, fun i hi => absurd hi (by omega), fun i hi => absurd hi (by omega), fun i hi => absurd hi (by omega)⟩

theorem Rws.lt {w : World} {base k : Nat} {v : Value} {L : Nat → Nat} {F : Nat → Nat → Nat} (b : Rws w base v k L F) : ∀ g, v.ownBlock = some g → base ≤ g ∧ g < w.heap.size := by
  obtain ⟨A, C, b⟩ := b
  exact b.own.lt

theorem Rws.push {t : TypeId} (ht : Try.prog.underlying t = some (.slice 30)) {w w1 : World} {base k c : Nat} {v : Value} {L : Nat → Nat} {F : Nat → Nat → Nat} {a : Option Addr} {f : Nat → Nat}
    (b : Rws w base v k L F) (hb : Below w.heap.size w w1) (hbase : base ≤ w.heap.size) (r : Row w1 a (L k) f) (hneNew : 0 < L k → ∀ ad, a = some ad → some ad.block ≠ v.ownBlock) (hnil : a = none → L k = 0 ∧ c = 0) (hf : ∀ j, j < L k → f j = F k j) (hF : B F) (hk : k + 1 ≤ 1000) :
    ∃ v' W, Sem.run Try.prog (Builtin.append_ #[t, t] t #[v, .slice (some ⟨w1.heap.size, 0, none⟩) 1 1]) (w1.alloc (.cells #[.slice a (L k) c] 30)) = .ok v' W ∧ Rws W base v' (k + 1) L F ∧ Below base w W := by
  obtain ⟨A, C, b⟩ := b
  obtain ⟨v', W, hr, b', hb'⟩ := b.push ht hb hbase (r.congr hf (hF k)) hneNew hnil hk
  refine ⟨v', W, hr, ⟨upd A k a, upd C k c, b'.congr (fun _ _ => rfl) (fun i hi => ?_) (fun _ _ => rfl) (fun i hi => ?_)⟩, hb'⟩
  · by_cases e : i = k
    · subst e; rw [upd_at]
    · rw [upd_ne _ _ e]
  · by_cases e : i = k
    · subst e; rw [upd_at]
    · rw [upd_ne _ _ e]

/-- The same, of a row that is new. -/
theorem Rws.pushNew {t : TypeId} (ht : Try.prog.underlying t = some (.slice 30)) {w w1 : World} {base k c g : Nat} {v : Value} {L : Nat → Nat} {F : Nat → Nat → Nat} {f : Nat → Nat}
    (b : Rws w base v k L F) (hb : Below w.heap.size w w1) (hbase : base ≤ w.heap.size) (r : Row w1 (some ⟨g, 0, none⟩) (L k) f) (hg : w.heap.size ≤ g) (hf : ∀ j, j < L k → f j = F k j) (hF : B F) (hk : k + 1 ≤ 1000) :
    ∃ v' W, Sem.run Try.prog (Builtin.append_ #[t, t] t #[v, .slice (some ⟨w1.heap.size, 0, none⟩) 1 1]) (w1.alloc (.cells #[.slice (some ⟨g, 0, none⟩) (L k) c] 30)) = .ok v' W ∧ Rws W base v' (k + 1) L F ∧ Below base w W := by
  refine b.push ht hb hbase r (fun _ ad e q => ?_) (fun e => by cases e) hf hF hk
  injection e with e; subst e
  have := b.lt g q.symm
  omega

theorem Rws.form {w : World} {base k : Nat} {v : Value} {L : Nat → Nat} {F : Nat → Nat → Nat} (b : Rws w base v k L F) (hle : ∀ i, L i ≤ 9223372036854775807) (hF : B F) :
    ∃ a c A C, v = .slice a k c ∧ Mat w a k A L C F ∧ (∀ ad, a = some ad → base ≤ ad.block ∧ ad.block < w.heap.size) := by
  obtain ⟨A, C, b⟩ := b
  rcases b.own.2 with ⟨e, e0⟩ | ⟨g, cap, cur, e, hg, hh, _⟩
  · subst e0
    exact ⟨none, 0, A, C, e, ⟨fun h => absurd h (by omega), fun i hi => absurd hi (by omega), fun i hi => absurd hi (by omega), hle, hF⟩, fun _ e => by cases e⟩
  · subst e
    refine ⟨_, cap, A, C, rfl, ⟨fun _ => ⟨g, 0, rfl, fun i hi => ?_⟩, b.row, b.nil, hle, hF⟩, fun ad e => ?_⟩
    · rw [Nat.zero_add, b.own.cellAt i (by omega)]
      simp [hi]
    · injection e with e; subst e
      exact b.own.lt g rfl
end Go.Proofs.Ytbfhmdphhhjlnaa
