/-
  Rows of rows in memory; two of them compared by the document's Same; rows made side by side; bytes that are copied over a row; rows of rows that came in.
-/
import Derived.Test.YtfifcghjbdooeaaSpM
import Derived.Test.YtfifcghjbdooeaaByt
import Derived.BigQuiet
import Derived.Deep.DrawnRows
import Derived.Deep.Matrix
import Derived.SizedLaws
set_option maxRecDepth 100000
set_option linter.unusedVariables false
namespace Go.Proofs.Ytfifcghjbdooeaa
open Go.RowKit Go.ChangeShapes Go.WideShapes
attribute [local go_sem ↓] Go.wp_at_zero Go.wp_at_succ

def B (a : Nat → Nat → Nat) : Prop := ∀ i j, a i j < 256
/-- A slice that begins at a holds in w n rows: row i begins at A i, is L i long, and holds F i 0, F i 1 .. -/
structure Mat (w : World) (a : Option Addr) (n : Nat) (A : Nat → Option Addr) (L C : Nat → Nat) (F : Nat → Nat → Nat) : Prop where
  lies : 0 < n → ∃ b o, a = some ⟨b, o, none⟩ ∧ ∀ i, i < n → w.cell? ⟨b, o + i, none⟩ = some (.slice (A i) (L i) (C i))
  row : ∀ i, i < n → Row w (A i) (L i) (F i)
  nil : ∀ i, i < n → A i = none → L i = 0 ∧ C i = 0
  le : ∀ i, L i ≤ 9223372036854775807
  lt : B F

theorem Mat.keep {w w' : World} {a : Option Addr} {n : Nat} {A : Nat → Option Addr} {L C : Nat → Nat} {F : Nat → Nat → Nat} (h : Mat w a n A L C F) (hb : Below w.heap.size w w') : Mat w' a n A L C F := by
  refine ⟨fun hn => ?_, fun i hi => (h.row i hi).keep hb, h.nil, h.le, h.lt⟩
  obtain ⟨b, o, e, hc⟩ := h.lies hn
  exact ⟨b, o, e, fun i hi => (hb.cell (p := ⟨b, o + i, none⟩) (block_lt_of_cell (hc i hi))).trans (hc i hi)⟩
theorem Row.drewN {w : World} {a : Option Addr} {n : Nat} {f : Nat → Nat} (h : Row w a n f) (k : Nat) : Row (w.drewN k) a n f := ⟨h.lt, h.lies⟩
theorem Mat.drewN {w : World} {a : Option Addr} {n : Nat} {A : Nat → Option Addr} {L C : Nat → Nat} {F : Nat → Nat → Nat} (h : Mat w a n A L C F) (k : Nat) : Mat (w.drewN k) a n A L C F :=
  ⟨h.lies, fun i hi => (h.row i hi).drewN k, h.nil, h.le, h.lt⟩

/-- What two rows of rows have in common, if both are the same. -/
def Alike (n : Nat) (L L' : Nat → Nat) (F F' : Nat → Nat → Nat) : Prop := ∀ i, i < n → L i = L' i ∧ ∀ j, j < L i → F i j = F' i j

set_option maxRecDepth 100000 in
theorem rsame_yes (a a' : Option Addr) (n c c' : Nat) (A A' : Nat → Option Addr) (L L' C C' : Nat → Nat) (F F' : Nat → Nat → Nat) (w : World) (h : Mat w a n A L C F) (h' : Mat w a' n A' L' C' F') (hn : n ≤ maxLen) (hq : Alike n L L' F F') :
    Calls Try.prog 13 #[.slice a n c, .slice a' n c'] w fun e w' => e = .returned (.bool true) ∧ ∃ m, w' = w.drewN m := by
  unfold maxLen at hn
  have H : Hid (Mat w a n A L C F) := h
  have H' : Hid (Mat w a' n A' L' C' F') := h'
  have HQ : Hid (Alike n L L' F F') := hq
  clear h h' hq
  go_enter Try.func13, Try.ntmps13
  go_wp2
  go_loopw [5] (fun v wr => ∃ k m : Nat, k ≤ n ∧ v = .int .i64 k ∧ wr = w.drewN m) (fun v _ => n - (intOf v).toNat)
  case atStart => exact ⟨0, 0, by omega, rfl, rfl⟩
  case round =>
    obtain ⟨k, m, hk, rfl, rfl⟩ := hrel
    by_cases hlt : k < n
    · obtain ⟨b, o, rfl, hc⟩ := H.out.lies (by omega)
      obtain ⟨b', o', rfl, hc'⟩ := H'.out.lies (by omega)
      have ck := hc k hlt
      have ck' := hc' k hlt
      have ik : (k : Int) < (n : Int) := by omega
      have q1 := fun w0 hw => conv_row (c := C k) (w := w0) ⟨(H.out.row k hlt).lt, hw⟩ fun e => (H.out.nil k hlt e).1
      have q2 := fun w0 hw => conv_row (c := C' k) (w := w0) ⟨(H'.out.row k hlt).lt, hw⟩ fun e => (H'.out.nil k hlt e).1
      have e := HQ.out k hlt
      have q1 := fun m => q1 (w.drewN m) ((H.out.row k hlt).drewN m).lies
      have q2 := fun m => q2 (w.drewN m) ((H'.out.row k hlt).drewN m).lies
      rw [← e.1, ← str_congr e.2] at q2
      rw [← e.1] at ck'
      clear hc hc' e H H' HQ
      generalize A k = ak at *
      generalize C k = cck at *
      generalize A' k = ak' at *
      generalize C' k = cck' at *
      generalize str (F k) (L k) = t at *
      generalize L k = lk at *
      go_wp2
      go_quiet (fail)
      go_wp2
      go_round
      case rel => exact ⟨k + 1, _, by omega, by go_num, rfl⟩
      case measure => simp [intOf]; omega
    · have : k = n := by omega
      subst this
      go_wp2
      go_ret
      exact ⟨rfl, _, rfl⟩
theorem info27 : (Try.prog.info? 22).map (fun i => (i.zero, i.size, i.bytes)) = some (some (.slice none 0 0), 1, 24) := by kernel_rfl

/-- n rows of m bytes that were made one behind the other: their headers in block h, row i in block h + 1 + i. -/
structure Grid (w : World) (h n m : Nat) (F : Nat → Nat → Nat) : Prop where
  hdr : ∀ i, i < n → w.cell? ⟨h, i, none⟩ = some (.slice (some ⟨h + 1 + i, 0, none⟩) m m)
  softh : ∀ i, i < n → w.frozen? ⟨h, i, none⟩ = false
  cell : ∀ i, i < n → ∀ j, j < m → w.cell? ⟨h + 1 + i, j, none⟩ = some (.int .u8 ((F i j : Nat) : Int))
  soft : ∀ i, i < n → ∀ j, j < m → w.frozen? ⟨h + 1 + i, j, none⟩ = false

theorem Grid.mat {w : World} {h n m : Nat} {F : Nat → Nat → Nat} (g : Grid w h n m F) (hm : m ≤ 9223372036854775807) (hF : B F) : Mat w (some ⟨h, 0, none⟩) n (fun i => some ⟨h + 1 + i, 0, none⟩) (fun _ => m) (fun _ => m) F :=
  ⟨fun _ => ⟨h, 0, rfl, fun i hi => by rw [Nat.zero_add]; exact g.hdr i hi⟩, fun i hi => ⟨hF i, fun _ => ⟨h + 1 + i, 0, rfl, fun j hj => by rw [Nat.zero_add]; exact g.cell i hi j hj⟩⟩, fun _ _ e => (by cases e), fun _ => hm, hF⟩

theorem cell_far {w : World} {b i b' j : Nat} {v : Value} (h : b ≠ b') : (w.setCell ⟨b, i, none⟩ v).cell? ⟨b', j, none⟩ = w.cell? ⟨b', j, none⟩ := by
  apply World.cell?_setCell_other; exact fun e => h (by injection e)

/-- zeros, under way: k rows are there. -/
structure Half (w : World) (h n m k : Nat) : Prop where
  size : w.heap.size = h + 1 + k
  got : ∀ i, i < k → w.cell? ⟨h, i, none⟩ = some (.slice (some ⟨h + 1 + i, 0, none⟩) m m)
  rest : ∀ i, i < n → k ≤ i → w.cell? ⟨h, i, none⟩ = some (.slice none 0 0)
  softh : ∀ i, i < n → w.frozen? ⟨h, i, none⟩ = false
  cell : ∀ i, i < k → ∀ j, j < m → w.cell? ⟨h + 1 + i, j, none⟩ = some (.int .u8 0)
  soft : ∀ i, i < k → ∀ j, j < m → w.frozen? ⟨h + 1 + i, j, none⟩ = false

theorem Half.start (w : World) (n m : Nat) : Half (w.alloc (.cells (madeCells #[.slice none 0 0] n) 22)) w.heap.size n m 0 := by
  refine ⟨by simp, fun i hi => absurd hi (by omega), fun i hi _ => ?_, fun i _ => World.frozen?_alloc_new _ _ _ _, fun i hi => absurd hi (by omega), fun i hi => absurd hi (by omega)⟩
  rw [World.cell?_alloc_new, ← Array.getElem?_toList, toList_madeCells_one, List.getElem?_replicate, if_pos (by omega)]

theorem Half.step {w : World} {h n m k : Nat} (g : Half w h n m k) (hk : k < n) :
    Half ((w.alloc (.cells (madeCells #[.int .u8 0] m) 5)).setCell ⟨h, k, none⟩ (.slice (some ⟨w.heap.size, 0, none⟩) m m)) h n m (k + 1) := by
  have hs := g.size
  have hb : Below w.heap.size w (w.alloc (.cells (madeCells #[.int .u8 0] m) 5)) := (Below.refl _ _).alloc (Nat.le_refl _) _
  refine ⟨by simp [World.setCell]; omega, fun i hi => ?_, fun i hi hki => ?_, fun i hi => ?_, fun i hi j hj => ?_, fun i hi j hj => ?_⟩
  · by_cases e : i = k
    · subst e
      rw [cell_same (u := .slice none 0 0) (by rw [hb.cell (p := ⟨h, i, none⟩) (by simp; omega)]; exact g.rest i hk (Nat.le_refl _)), hs]
    · rw [cell_other (fun q => e q.symm), hb.cell (p := ⟨h, i, none⟩) (by simp; omega)]; exact g.got i (by omega)
  · rw [cell_other (by omega), hb.cell (p := ⟨h, i, none⟩) (by simp; omega)]; exact g.rest i hi (by omega)
  · rw [World.frozen?_setCell, hb.frozen (p := ⟨h, i, none⟩) (by simp; omega)]; exact g.softh i hi
  · rw [cell_far (by omega)]
    by_cases e : i = k
    · subst e
      rw [← hs, World.cell?_alloc_new, ← Array.getElem?_toList, toList_madeCells_one, List.getElem?_replicate, if_pos (by omega)]
    · rw [hb.cell (p := ⟨h + 1 + i, j, none⟩) (by simp; omega)]; exact g.cell i (by omega) j hj
  · rw [World.frozen?_setCell]
    by_cases e : i = k
    · subst e
      rw [← hs]; exact World.frozen?_alloc_new _ _ _ _
    · rw [hb.frozen (p := ⟨h + 1 + i, j, none⟩) (by simp; omega)]; exact g.soft i (by omega) j hj

theorem Half.done {w : World} {h n m : Nat} (g : Half w h n m n) : Grid w h n m (fun _ _ => 0) :=
  ⟨g.got, g.softh, g.cell, g.soft⟩

theorem Grid.congr {w : World} {h n m : Nat} {F G : Nat → Nat → Nat} (g : Grid w h n m F) (e : ∀ i, i < n → ∀ j, j < m → F i j = G i j) : Grid w h n m G :=
  ⟨g.hdr, g.softh, fun i hi j hj => by rw [g.cell i hi j hj, e i hi j hj], g.soft⟩

theorem cells27 : Try.prog.cellsOf 22 = 1 := by kernel_rfl

theorem vals_at {w : World} {a : Addr} {n : Nat} {V : Nat → Value} (h : ∀ i, i < n → w.cell? (a.add i) = some (V i)) (hp : 0 < n) :
    ∃ b o, a = ⟨b, o, none⟩ ∧ ∀ j, j < n → w.cell? ⟨b, o + j, none⟩ = some (V j) := by
  obtain ⟨b, o, spot⟩ := a
  have hspot : spot = none := by simpa [Addr.add] using World.cell?_spot (h 0 hp)
  subst hspot
  exact ⟨b, o, rfl, fun j hj => by rw [← add_plain]; exact h j hj⟩

theorem weightsAll_mem {H : Type} {P : Program} {e : TypeId} {d : DataW H} : ∀ {l : List (DataW H)}, d ∈ l → ∀ n ∈ d.weights P e, n ∈ DataW.weightsAll P e l
  | [], h, _, _ => by cases h
  | x :: r, h, n, hn => by
    simp only [DataW.weightsAll, List.mem_append]
    rcases List.mem_cons.1 h with q | q
    · subst q; exact .inl hn
    · exact .inr (weightsAll_mem q n hn)

theorem bytes5 : Try.prog.bytesOf 5 = 1 := by kernel_rfl

theorem open_mat3 {H : Type} {enc : TypeId × Value → H} {W : World} {base : Nat} {held : Bool} {a : Option Addr} {len cap : Nat} {d : DataW H} {p : List MemPlace} (h : DataW.Trod enc Try.prog W base (fun _ => true) held 24 (.slice a len cap) d p) (hz : ∀ x ∈ d.weights Try.prog 24, x ≤ reachBytes) :
    ∃ A L C F, Mat W a len A L C F ∧ len ≤ maxLen ∧ len ≤ cap ∧ (∀ i, i < len → L i ≤ 140737488355328) ∧ ∀ i, i < len → L i ≤ C i := by
  obtain ⟨fuel, hf⟩ := h
  rcases Deep.open_int_rows Try.underlying24 Try.underlying22 Try.underlying5 cells27 cells5 hf with ⟨hcs, _⟩ | ⟨x, l, c, A, L, C, Z, hcs, _, hl, hm, hd, hr⟩
  · simp [Value.cells] at hcs
    obtain ⟨rfl, rfl, rfl⟩ := hcs
    exact ⟨fun _ => none, fun _ => 0, fun _ => 0, fun _ _ => 0, ⟨fun h => absurd h (by omega), fun i hi => absurd hi (by omega), fun i hi => absurd hi (by omega), fun _ => by omega, fun _ _ => by omega⟩, by omega, by omega, fun i hi => absurd hi (by omega), fun i hi => absurd hi (by omega)⟩
  · simp [Value.cells] at hcs
    obtain ⟨rfl, rfl, rfl⟩ := hcs
    simp only [Prod.mk.injEq] at hd
    obtain ⟨hd, _⟩ := hd
    refine ⟨A, fun i => if i < len then L i else 0, C, fun i j => if i < len then ((Z i).getD j 0).toNat else 0, ⟨fun hn => ?_, fun i hi => ?_, fun i hi e => ?_, fun i => ?_, fun i j => ?_⟩, by omega, hl, fun i hi => ?_, fun i hi => ?_⟩
    · obtain ⟨b, o, rfl, hc⟩ := vals_at (V := fun i => .slice (A i) (L i) (C i)) (fun i hi => (hr i (by omega)).1) hn
      exact ⟨b, o, rfl, fun i hi => by rw [hc i hi, if_pos hi]⟩
    · obtain ⟨_, hlc, hcm, hz, hwf, hnil, hcell⟩ := hr i (by omega)
      rw [if_pos hi]
      have hb : ∀ j, 0 ≤ (Z i).getD j 0 ∧ (Z i).getD j 0 ≤ 255 := fun j => by
        have := range_u8 hwf j
        simpa [List.getD] using this
      refine ⟨fun j => by rw [if_pos hi]; have := hb j; omega, fun hn => ?_⟩
      cases hA : A i with
      | none => have := hnil hA; omega
      | some ad =>
        obtain ⟨b, o, rfl, hc⟩ := vals_at (V := fun j => .int .u8 ((Z i).getD j 0)) (fun j hj => (hcell ad hA).2 j (by omega)) hn
        refine ⟨b, o, rfl, fun j hj => ?_⟩
        rw [hc j hj, if_pos hi]
        have := hb j
        congr 2
        omega
    · obtain ⟨_, hlc, hcm, hz, hwf, hnil, hcell⟩ := hr i (by omega)
      rw [if_pos hi]
      have := hnil e
      omega
    · split
      · obtain ⟨_, hlc, hcm, _⟩ := hr i (by omega)
        unfold maxLen at *
        omega
      · omega
    · split
      · obtain ⟨_, hlc, hcm, hz, hwf, hnil, hcell⟩ := hr i (by omega)
        have := range_u8 hwf j
        have q : 0 ≤ (Z i).getD j 0 ∧ (Z i).getD j 0 ≤ 255 := by simpa [List.getD] using this
        omega
      · omega
    · dsimp only
      rw [if_pos hi]
      obtain ⟨_, hlc, hcm, hzl, hwf, hnil, hcell⟩ := hr i (by omega)
      cases hA : A i with
      | none => have := hnil hA; omega
      | some ad =>
        have hmem : (Deep.intRow (H := H) .u8 (A i) (L i) (Z i)) ∈ (List.range len).map fun r => Deep.intRow .u8 (A r) (L r) (Z r) := List.mem_map.2 ⟨i, List.mem_range.2 hi, rfl⟩
        have hw := weightsAll_mem (P := Try.prog) (e := 22) hmem (((lits (H := H) .u8 ((Z i).take (L i))).length + (lits (H := H) .u8 ((Z i).drop (L i))).length) * Try.prog.bytesOf 5) (by
          rw [hA]; simp only [Deep.intRow, DataW.weights, Try.underlying22]; exact List.mem_cons_self ..)
        have := hz _ (by
          rw [hd]
          simp only [DataW.weights, Try.underlying24]
          exact List.mem_cons_of_mem _ (List.mem_append_left _ hw))
        rw [bytes5] at this
        simp only [lits, List.length_map, List.length_take, List.length_drop, reachBytes] at this
        omega
    · obtain ⟨_, hlc, _⟩ := hr i (by omega)
      dsimp only
      rw [if_pos hi]; exact hlc

/-- Cells that are stored one behind the other: elsewhere all is as it was. -/
theorem setCells_far {w : World} {g o b i : Nat} {vs : List Value} (h : g ≠ b) : (w.setCells g o vs).cell? ⟨b, i, none⟩ = w.cell? ⟨b, i, none⟩ :=
  World.cell?_setCells_out g vs o w _ (fun e _ => absurd e.symm h)
theorem setCells_size (g : Nat) : ∀ (vs : List Value) (o : Nat) (w : World), (w.setCells g o vs).heap.size = w.heap.size
  | [], _, _ => rfl
  | v :: r, o, w => by rw [World.setCells, setCells_size g r]; simp [World.setCell]
/-- g's m bytes laid over f's from o on. -/
def ovr (f : Nat → Nat) (o m : Nat) (g : Nat → Nat) : Nat → Nat := fun j => if o ≤ j ∧ j < o + m then g (j - o) else f j
theorem ovr_lt {f g : Nat → Nat} {o m : Nat} (hf : ∀ i, f i < 256) (hg : ∀ i, g i < 256) (i : Nat) : ovr f o m g i < 256 := by unfold ovr; split; exact hg _; exact hf _

theorem setCells_row {w : World} {b o m n : Nat} {f g : Nat → Nat} (h : ∀ j, j < n → w.cell? ⟨b, j, none⟩ = some (.int .u8 ((f j : Nat) : Int))) (hm : o + m ≤ n) : ∀ j, j < n → (w.setCells b o (bs g m)).cell? ⟨b, j, none⟩ = some (.int .u8 ((ovr f o m g j : Nat) : Int)) := by
  intro j hj
  unfold ovr
  by_cases c : o ≤ j ∧ j < o + m
  · rw [if_pos c]
    obtain ⟨i, rfl⟩ : ∃ i, j = o + i := ⟨j - o, by omega⟩
    have hi : i < (bs g m).length := by rw [bs_length]; omega
    have e := World.cell?_setCells_in b (bs g m) o w (fun x hx => by rw [bs_length] at hx; rw [h (o + x) (by omega)]; rfl) i hi
    rw [e, Nat.add_sub_cancel_left, ← List.getElem?_eq_getElem hi, bs_at (by omega)]
  · rw [if_neg c, World.cell?_setCells_out b (bs g m) o w _ (fun _ _ => by rw [bs_length]; show j < o ∨ o + m ≤ j; omega)]
    exact h j hj

/-- copy, over a row that lies, soft, in block g. -/
theorem copyR {w : World} {g o n dl dc sl sc m : Nat} {f u : Nat → Nat} {A a : Option Addr} (hc : ∀ j, j < n → w.cell? ⟨g, j, none⟩ = some (.int .u8 ((f j : Nat) : Int))) (hs : ∀ j, j < n → w.frozen? ⟨g, j, none⟩ = false) (hm : m = min sl dl) (hA : 0 < m → A = some ⟨g, o, none⟩) (r : Row w a sl u) (hfit : o + m ≤ n) :
    Sem.run Try.prog (Builtin.copy_ #[22, 22] 3 #[.slice A dl dc, .slice a sl sc]) w = .ok (goInt m) (w.setCells g o (bs u m)) := by
  by_cases h0 : m = 0
  · subst h0
    exact run_copy_none (P := Try.prog) w 22 22 3 5 A a dl dc sl sc Try.underlying22 size5 hm.symm
  · rw [hA (by omega)]
    obtain ⟨b, oo, rfl, hr⟩ := r.lies (by omega)
    have e := run_copy_cells (P := Try.prog) w 22 22 3 5 g o dl dc ⟨b, oo, none⟩ sl sc (bs u m) Try.underlying22 size5 (by rw [bs_length]; exact hm)
      (fun j v hv => by
        have hj : j < m := by rw [← bs_length u m]; exact (List.getElem?_eq_some_iff.1 hv).1
        rw [bs_at hj] at hv; injection hv with hv
        rw [add_plain, hr j (by omega), hv]) (fun j hj => by rw [bs_length] at hj; rw [hc (o + j) (by omega)]; rfl) (fun j hj => by rw [bs_length] at hj; exact hs _ (by omega)) bs_one
    rw [bs_length] at e
    exact e

theorem Grid.copy {w : World} {h k l i o m : Nat} {F : Nat → Nat → Nat} {u : Nat → Nat} (g : Grid w h k l F) (hi : i < k) (hm : o + m ≤ l) : Grid (w.setCells (h + 1 + i) o (bs u m)) h k l (fun r j => if r = i ∧ o ≤ j ∧ j < o + m then u (j - o) else F r j) := by
  refine ⟨fun r hr => ?_, fun r hr => ?_, fun r hr c hc => ?_, fun r hr c hc => ?_⟩
  · rw [setCells_far (by omega)]; exact g.hdr r hr
  · rw [World.frozen?_setCells]; exact g.softh r hr
  · by_cases e : r = i
    · subst e
      rw [setCells_row (g.cell r hr) hm c hc]
      unfold ovr
      by_cases q : o ≤ c ∧ c < o + m
      · rw [if_pos q, if_pos ⟨rfl, q⟩]
      · rw [if_neg q, if_neg (fun z => q z.2)]
    · rw [setCells_far (by omega), if_neg (fun z => e z.1)]; exact g.cell r hr c hc
  · rw [World.frozen?_setCells]; exact g.soft r hr c hc
theorem Grid.keep {w w' : World} {h k l : Nat} {F : Nat → Nat → Nat} (g : Grid w h k l F) (hb : Below w.heap.size w w') : Grid w' h k l F :=
  ⟨fun r hr => (hb.cell (p := ⟨h, r, none⟩) (block_lt_of_cell (g.hdr r hr))).trans (g.hdr r hr), fun r hr => (hb.frozen (p := ⟨h, r, none⟩) (block_lt_of_cell (g.hdr r hr))).trans (g.softh r hr),
   fun r hr j hj => (hb.cell (p := ⟨h + 1 + r, j, none⟩) (block_lt_of_cell (g.cell r hr j hj))).trans (g.cell r hr j hj), fun r hr j hj => (hb.frozen (p := ⟨h + 1 + r, j, none⟩) (block_lt_of_cell (g.cell r hr j hj))).trans (g.soft r hr j hj)⟩
theorem Made.copy {w : World} {g n o m : Nat} {f u : Nat → Nat} (M : Made w g n f) (hm : o + m ≤ n) : Made (w.setCells g o (bs u m)) g n (ovr f o m u) :=
  ⟨setCells_row M.cell hm, fun j hj => by rw [World.frozen?_setCells]; exact M.soft j hj⟩

/-- A slice that leaves out the first bytes: where it begins is a letter; it is nowhere only where the whole is. -/
theorem cut_ls {a : Option Addr} {n c : Nat} {f : Nat → Nat} {w : World} (h : Row w a n f) (t : Nat) (ht : t ≤ n) (hc : n ≤ c) :
    ∃ A, (∀ w', Sem.run Try.prog (Instr.slice 22 (.slice a n c) (some (.int .i64 (t : Int))) none none) w' = .ok (.slice A (n - t) (c - t)) w') ∧ Row w A (n - t) (fun i => f (t + i)) ∧ (t < n → A = a.map (·.add t)) := by
  refine ⟨if c = t then a else a.map (·.add (t * 1)), ?_, ?_, fun h => by rw [if_neg (by omega), Nat.mul_one]⟩
  · intro w'
    rw [run_slice_l w' 22 a n c Try.underlying22 .i64 (t : Int) (by omega) (by omega)]
    have e : (sizeOf (Try.prog.elem 22)).run Try.prog w' = .ok 1 w' := by kernel_rfl
    rw [e]
    show Result.ok (sliced a _ _ c 1) w' = _
    unfold sliced
    rw [show ((t : Int)).toNat = t by omega]
  · rcases cut_row (c := c) h t (n - t) (by omega) with r | e
    · exact r
    · rw [if_pos e, show n - t = 0 by omega]
      exact Row.zero _ _ (fun i => h.lt _)
/-- A slice of a row out of its midst. -/
theorem cut_lhs {a : Option Addr} {n c : Nat} {f : Nat → Nat} {w : World} (h : Row w a n f) (t m : Nat) (hm : t + m ≤ n) (hc : n ≤ c) :
    ∃ A, (∀ w', Sem.run Try.prog (Instr.slice 22 (.slice a n c) (some (.int .i64 (t : Int))) (some (.int .i64 ((t : Int) + (m : Int)))) none) w' = .ok (.slice A m (c - t)) w') ∧ Row w A m (fun i => f (t + i)) ∧ (0 < m → A = a.map (·.add t)) ∧ (a ≠ none → A ≠ none) := by
  refine ⟨if c = t then a else a.map (·.add (t * 1)), ?_, ?_, fun h => by rw [if_neg (by omega), Nat.mul_one], fun h => ?_⟩
  · intro w'
    rw [run_slice_lh w' 22 a n c Try.underlying22 .i64 .i64 (t : Int) ((t : Int) + (m : Int)) (by omega) (by omega) (by omega)]
    have e : (sizeOf (Try.prog.elem 22)).run Try.prog w' = .ok 1 w' := by kernel_rfl
    rw [e]
    show Result.ok (sliced a _ _ c 1) w' = _
    unfold sliced
    rw [show ((t : Int) + (m : Int)).toNat = t + m by omega, show ((t : Int)).toNat = t by omega, show t + m - t = m by omega]
  · rcases cut_row (c := c) h t m (by omega) with r | e
    · exact r
    · rw [if_pos e, show m = 0 by omega]
      exact Row.zero _ _ (fun i => h.lt _)
  · split
    · exact h
    · cases a with
      | none => exact absurd rfl h
      | some x => simp
end Go.Proofs.Ytfifcghjbdooeaa
