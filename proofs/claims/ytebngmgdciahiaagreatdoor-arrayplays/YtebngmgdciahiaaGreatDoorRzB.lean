/-
  Arithmetic of the field and of codes (texts of stages 1 to 3, one behind the other, in a namespace of their own).
-/
import Derived.Test.YtebngmgdciahiaaGreatDoorRzA
import Derived.Deep.DrawnRows
import Derived.Lib.AppendZeros
import Derived.Deep.DeepCutAuto
set_option maxRecDepth 100000
namespace Go.Proofs.YtebngmgdciahiaaGreatDoor.Rz
open Go.RowKit Gf
attribute [local go_sem ↓] Go.wp_at_zero Go.wp_at_succ

/-- A slice that begins at a holds in w n rows: row i begins at A i, is L i long, and holds F i 0, F i 1 .. -/
structure Mat (w : World) (a : Option Addr) (n : Nat) (A : Nat → Option Addr) (L C : Nat → Nat) (F : Nat → Nat → Nat) : Prop where
  lies : 0 < n → ∃ b o, a = some ⟨b, o, none⟩ ∧ ∀ i, i < n → w.cell? ⟨b, o + i, none⟩ = some (.slice (A i) (L i) (C i))
  row : ∀ i, i < n → Row w (A i) (L i) (F i)
  nil : ∀ i, i < n → A i = none → L i = 0 ∧ C i = 0
  le : ∀ i, L i ≤ 9223372036854775807
  lt : B F

theorem Mat.keep {w w' : World} {a : Option Addr} {n : Nat} {A : Nat → Option Addr} {L C : Nat → Nat} {F : Nat → Nat → Nat} (h : Mat w a n A L C F) (hb : Below w.heap.size w w') : Mat w' a n A L C F := by
  refine ⟨fun hn => ?_, fun i hi => (h.row i hi).keep hb, h.nil, h.le, h.lt⟩
  obtain ⟨b, o, e, hc⟩ := h.lies hn
  exact ⟨b, o, e, fun i hi => (hb.cell (p := ⟨b, o + i, none⟩) (block_lt_of_cell (hc i hi))).trans (hc i hi)⟩
theorem Row.drewN {w : World} {a : Option Addr} {n : Nat} {f : Nat → Nat} (h : Row w a n f) (k : Nat) : Row (w.drewN k) a n f := ⟨h.lt, h.lies⟩
theorem Mat.drewN {w : World} {a : Option Addr} {n : Nat} {A : Nat → Option Addr} {L C : Nat → Nat} {F : Nat → Nat → Nat} (h : Mat w a n A L C F) (k : Nat) : Mat (w.drewN k) a n A L C F :=
  ⟨h.lies, fun i hi => (h.row i hi).drewN k, h.nil, h.le, h.lt⟩

/-- Rows of one length, 1 to 255 of each. -/
def IsM (n : Nat) (L : Nat → Nat) : Prop := 1 ≤ n ∧ n ≤ 255 ∧ 1 ≤ L 0 ∧ L 0 ≤ 255 ∧ ∀ i, i < n → L i = L 0

set_option maxRecDepth 100000 in
theorem isSide_any (n : Int) (w : World) :
    Calls Tryz.prog 151 #[.int .i64 n] w fun e w' => e = .returned (.bool (decide (1 ≤ n ∧ n ≤ 255))) ∧ w = w' := by
  by_cases h1 : n < 1
  · have e : decide (1 ≤ n ∧ n ≤ 255) = false := decide_eq_false (by omega)
    rw [e]; clear e
    go_enter Tryz.func151, Tryz.ntmps151
    go_wp2
    go_ret
    exact ⟨rfl, rfl⟩
  · by_cases h2 : n ≤ 255
    · have e : decide (1 ≤ n ∧ n ≤ 255) = true := decide_eq_true (by omega)
      rw [e]; clear e
      go_enter Tryz.func151, Tryz.ntmps151
      go_wp2
      go_ret
      exact ⟨rfl, rfl⟩
    · have e : decide (1 ≤ n ∧ n ≤ 255) = false := decide_eq_false (by omega)
      rw [e]; clear e
      go_enter Tryz.func151, Tryz.ntmps151
      go_wp2
      go_ret
      exact ⟨rfl, rfl⟩

set_option maxRecDepth 100000 in
theorem isMatrix_yes (a : Option Addr) (n c : Nat) (A : Nat → Option Addr) (L C : Nat → Nat) (F : Nat → Nat → Nat) (w : World) (h : Mat w a n A L C F) (hm : IsM n L) :
    Calls Tryz.prog 137 #[.slice a n c] w fun e w' => e = .returned (.bool true) ∧ w = w' := by
  obtain ⟨n1, n2, l1, l2, hl⟩ := hm
  obtain ⟨b, o, rfl, hc⟩ := h.lies (by omega)
  have c0 := hc 0 (by omega)
  simp only [Nat.add_zero] at c0
  have s1 := isSide_any n w
  rw [decide_eq_true (by omega)] at s1
  have s2 := isSide_any (L 0) w
  rw [decide_eq_true (by omega)] at s2
  have i0 : (0 : Int) < (n : Int) := by omega
  obtain ⟨l, hl0⟩ : ∃ l, L 0 = l := ⟨_, rfl⟩
  obtain ⟨c1, hc1⟩ : ∃ l, C 0 = l := ⟨_, rfl⟩
  obtain ⟨a1, ha1⟩ : ∃ l, A 0 = l := ⟨_, rfl⟩
  rw [hl0] at s2
  rw [hl0, hc1, ha1] at c0
  have HC : Hid (∀ i, i < n → w.cell? ⟨b, o + i, none⟩ = some (.slice (A i) l (C i))) := fun i hi => by rw [hc i hi, hl i hi, hl0]
  clear hc hl hl0 hc1 ha1 h
  go_enter Tryz.func137, Tryz.ntmps137
  go_wp2_with fail
  go_at_call 151
  refine s1.mono ?_
  rintro e w' ⟨rfl, rfl⟩
  go_wp2_with fail
  go_at_call 151
  refine s2.mono ?_
  rintro e w' ⟨rfl, rfl⟩
  go_wp2
  go_loop [19] (fun v => ∃ k : Nat, k ≤ n ∧ v = .int .i64 k) (fun v => n - (intOf v).toNat)
  case atStart => exact ⟨0, by omega, rfl⟩
  case round =>
    obtain ⟨k, hk, rfl⟩ := hrel
    by_cases hlt : k < n
    · have ck := HC.out k hlt
      have ik : (k : Int) < (n : Int) := by omega
      generalize A k = ak at ck
      generalize C k = cck at ck
      go_wp2
      go_round
      case rel => exact ⟨k + 1, by omega, by go_num⟩
      case measure => simp [intOf]; omega
    · have : k = n := by omega
      subst this
      go_wp2
      go_ret
      exact ⟨rfl, rfl⟩

set_option maxRecDepth 100000 in
theorem isMatrix_no (a : Option Addr) (n c : Nat) (A : Nat → Option Addr) (L C : Nat → Nat) (F : Nat → Nat → Nat) (w : World) (h : Mat w a n A L C F) (hn : n ≤ maxLen) (hm : ¬ IsM n L) :
    Calls Tryz.prog 137 #[.slice a n c] w fun e w' => e = .returned (.bool false) ∧ w = w' := by
  unfold maxLen at hn
  have s1 := isSide_any n w
  have s2 := isSide_any (L 0) w
  by_cases hs1 : 1 ≤ n ∧ n ≤ 255
  · obtain ⟨n1, n2⟩ := hs1
    obtain ⟨b, o, rfl, hc⟩ := h.lies (by omega)
    have c0 := hc 0 (by omega)
    simp only [Nat.add_zero] at c0
    rw [decide_eq_true (by omega)] at s1
    have i0 : (0 : Int) < (n : Int) := by omega
    have hle := h.le
    by_cases hs2 : 1 ≤ L 0 ∧ L 0 ≤ 255
    · rw [decide_eq_true (by omega)] at s2
      have HN : Hid (¬ ∀ i, i < n → L i = L 0) := fun q => hm ⟨n1, n2, hs2.1, hs2.2, q⟩
      obtain ⟨l, hl0⟩ : ∃ l, L 0 = l := ⟨_, rfl⟩
      obtain ⟨c1, hc1⟩ : ∃ l, C 0 = l := ⟨_, rfl⟩
      obtain ⟨a1, ha1⟩ : ∃ l, A 0 = l := ⟨_, rfl⟩
      rw [hl0] at s2 HN
      rw [hl0, hc1, ha1] at c0
      have HC : Hid (∀ i, i < n → w.cell? ⟨b, o + i, none⟩ = some (.slice (A i) (L i) (C i))) := hc
      have HL : Hid (∀ i, L i ≤ 9223372036854775807) := hle
      clear hc hl0 hc1 ha1 h hm hs2 hle
      go_enter Tryz.func137, Tryz.ntmps137
      go_wp2_with fail
      go_at_call 151
      refine s1.mono ?_
      rintro e w' ⟨rfl, rfl⟩
      go_wp2_with fail
      go_at_call 151
      refine s2.mono ?_
      rintro e w' ⟨rfl, rfl⟩
      go_wp2
      go_loop [19] (fun v => ∃ k : Nat, k ≤ n ∧ v = .int .i64 k ∧ ∀ i, i < k → L i = l) (fun v => n - (intOf v).toNat)
      case atStart => exact ⟨0, by omega, rfl, fun i hi => by omega⟩
      case round =>
        obtain ⟨k, hk, rfl, hsame⟩ := hrel
        by_cases hlt : k < n
        · have ck := HC.out k hlt
          have lk := HL.out k
          have ik : (k : Int) < (n : Int) := by omega
          by_cases he : L k = l
          · have HS : Hid (∀ i, i < k + 1 → L i = l) := fun i hi => by
              by_cases e : i = k
              · rw [e]; exact he
              · exact hsame i (by omega)
            rw [he] at ck
            clear hsame he lk
            generalize A k = ak at ck
            generalize C k = cck at ck
            go_wp2
            go_round
            case rel => exact ⟨k + 1, by omega, by go_num, HS.out⟩
            case measure => simp [intOf]; omega
          · have he' : ((L k : Nat) : Int) ≠ (l : Int) := by omega
            clear hsame
            generalize A k = ak at ck
            generalize C k = cck at ck
            generalize L k = lk' at *
            go_wp2
            go_ret
            exact ⟨rfl, rfl⟩
        · have : k = n := by omega
          subst this
          exact absurd hsame HN.out
    · rw [decide_eq_false (by omega)] at s2
      obtain ⟨l, hl0⟩ : ∃ l, L 0 = l := ⟨_, rfl⟩
      obtain ⟨c1, hc1⟩ : ∃ l, C 0 = l := ⟨_, rfl⟩
      obtain ⟨a1, ha1⟩ : ∃ l, A 0 = l := ⟨_, rfl⟩
      rw [hl0] at s2
      rw [hl0, hc1, ha1] at c0
      clear hc hl0 hc1 ha1 h hm hs2 hle
      go_enter Tryz.func137, Tryz.ntmps137
      go_wp2_with fail
      go_at_call 151
      refine s1.mono ?_
      rintro e w' ⟨rfl, rfl⟩
      go_wp2_with fail
      go_at_call 151
      refine s2.mono ?_
      rintro e w' ⟨rfl, rfl⟩
      go_wp2
      go_ret
      exact ⟨rfl, rfl⟩
  · rw [decide_eq_false (by omega)] at s1
    clear s2 hs1 hm h
    go_enter Tryz.func137, Tryz.ntmps137
    go_wp2_with fail
    go_at_call 151
    refine s1.mono ?_
    rintro e w' ⟨rfl, rfl⟩
    go_wp2
    go_ret
    exact ⟨rfl, rfl⟩

set_option maxRecDepth 100000 in
theorem square_yes (a : Option Addr) (n c : Nat) (A : Nat → Option Addr) (L C : Nat → Nat) (F : Nat → Nat → Nat) (w : World) (h : Mat w a n A L C F) (hm : IsM n L) (hq : n = L 0) :
    Calls Tryz.prog 132 #[.slice a n c] w fun e w' => e = .returned (.bool true) ∧ w = w' := by
  have cM := isMatrix_yes a n c A L C F w h hm
  obtain ⟨n1, n2, l1, l2, hl⟩ := hm
  obtain ⟨b, o, rfl, hc⟩ := h.lies (by omega)
  have c0 := hc 0 (by omega)
  simp only [Nat.add_zero] at c0
  rw [← hq] at c0
  have i0 : (0 : Int) < (n : Int) := by omega
  generalize A 0 = a1 at c0
  generalize C 0 = c1 at c0
  clear hc hl hq h l1 l2
  go_enter Tryz.func132, Tryz.ntmps132
  go_wp2_with fail
  go_at_call 137
  refine cM.mono ?_
  rintro e w' ⟨rfl, rfl⟩
  go_wp2
  go_ret
  exact ⟨rfl, rfl⟩

set_option maxRecDepth 100000 in
theorem square_no (a : Option Addr) (n c : Nat) (A : Nat → Option Addr) (L C : Nat → Nat) (F : Nat → Nat → Nat) (w : World) (h : Mat w a n A L C F) (hn : n ≤ maxLen) (hm : ¬ (IsM n L ∧ n = L 0)) :
    Calls Tryz.prog 132 #[.slice a n c] w fun e w' => e = .returned (.bool false) ∧ w = w' := by
  by_cases hq : IsM n L
  · have cM := isMatrix_yes a n c A L C F w h hq
    have hne : ¬ n = L 0 := fun q => hm ⟨hq, q⟩
    obtain ⟨n1, n2, l1, l2, hl⟩ := hq
    obtain ⟨b, o, rfl, hc⟩ := h.lies (by omega)
    have c0 := hc 0 (by omega)
    simp only [Nat.add_zero] at c0
    have i0 : (0 : Int) < (n : Int) := by omega
    have hne' : (((n : Nat) : Int) == (L 0 : Nat)) = false := by simp; omega
    clear hl
    generalize A 0 = a1 at c0
    generalize C 0 = c1 at c0
    generalize L 0 = l at *
    clear hc h hm hne
    go_enter Tryz.func132, Tryz.ntmps132
    go_wp2_with fail
    go_at_call 137
    refine cM.mono ?_
    rintro e w' ⟨rfl, rfl⟩
    go_wp2
    go_ret
    exact ⟨rfl, rfl⟩
  · have cM := isMatrix_no a n c A L C F w h hn hq
    clear h hm hq
    go_enter Tryz.func132, Tryz.ntmps132
    go_wp2_with fail
    go_at_call 137
    refine cM.mono ?_
    rintro e w' ⟨rfl, rfl⟩
    go_wp2
    go_ret
    exact ⟨rfl, rfl⟩

/-- What two rows of rows have in common, if both are the same. -/
def Alike (n : Nat) (L L' : Nat → Nat) (F F' : Nat → Nat → Nat) : Prop := ∀ i, i < n → L i = L' i ∧ ∀ j, j < L i → F i j = F' i j

end Go.Proofs.YtebngmgdciahiaaGreatDoor.Rz

namespace Go.Proofs.YtebngmgdciahiaaGreatDoor.Rz
open Go.RowKit Gf
attribute [local go_sem ↓] Go.wp_at_zero Go.wp_at_succ

theorem info27 : (Tryz.prog.info? 27).map (fun i => (i.zero, i.size, i.bytes)) = some (some (.slice none 0 0), 1, 24) := by kernel_rfl

set_option maxRecDepth 100000 in
theorem bequal_yes (a a' : Option Addr) (n c c' : Nat) (f g : Nat → Nat) (w : World) (h : Row w a n f) (h' : Row w a' n g) (k : a = none → n = 0) (k' : a' = none → n = 0) (hq : ∀ i, i < n → f i = g i) :
    Calls Tryz.prog 34 #[.slice a n c, .slice a' n c'] w fun e w' => e = .returned (.bool true) ∧ w = w' := by
  have q1 := conv_row (c := c) h k
  have q2 := conv_row (c := c') h' k'
  rw [← str_congr hq] at q2
  clear h h' hq
  generalize str f n = t at *
  go_enter Tryz.func34, Tryz.ntmps34
  go_wp2
  go_ret
  exact ⟨rfl, rfl⟩

/-- n rows of m bytes that were made one behind the other: their headers in block h, row i in block h + 1 + i. -/
structure Grid (w : World) (h n m : Nat) (F : Nat → Nat → Nat) : Prop where
  hdr : ∀ i, i < n → w.cell? ⟨h, i, none⟩ = some (.slice (some ⟨h + 1 + i, 0, none⟩) m m)
  softh : ∀ i, i < n → w.frozen? ⟨h, i, none⟩ = false
  cell : ∀ i, i < n → ∀ j, j < m → w.cell? ⟨h + 1 + i, j, none⟩ = some (.int .u8 ((F i j : Nat) : Int))
  soft : ∀ i, i < n → ∀ j, j < m → w.frozen? ⟨h + 1 + i, j, none⟩ = false

theorem Grid.mat {w : World} {h n m : Nat} {F : Nat → Nat → Nat} (g : Grid w h n m F) (hm : m ≤ 9223372036854775807) (hF : B F) : Mat w (some ⟨h, 0, none⟩) n (fun i => some ⟨h + 1 + i, 0, none⟩) (fun _ => m) (fun _ => m) F :=
  ⟨fun _ => ⟨h, 0, rfl, fun i hi => by rw [Nat.zero_add]; exact g.hdr i hi⟩, fun i hi => ⟨hF i, fun _ => ⟨h + 1 + i, 0, rfl, fun j hj => by rw [Nat.zero_add]; exact g.cell i hi j hj⟩⟩, fun _ _ e => (by cases e), fun _ => hm, hF⟩

/-- One byte changed. -/
def put (F : Nat → Nat → Nat) (i j x : Nat) : Nat → Nat → Nat := fun r c => if r = i ∧ c = j then x else F r c

theorem cell_far {w : World} {b i b' j : Nat} {v : Value} (h : b ≠ b') : (w.setCell ⟨b, i, none⟩ v).cell? ⟨b', j, none⟩ = w.cell? ⟨b', j, none⟩ := by
  apply World.cell?_setCell_other; exact fun e => h (by injection e)

theorem Grid.put {w : World} {h n m i j x : Nat} {F : Nat → Nat → Nat} (g : Grid w h n m F) (hi : i < n) (hj : j < m) : Grid (w.setCell ⟨h + 1 + i, j, none⟩ (.int .u8 ((x : Nat) : Int))) h n m (put F i j x) := by
  refine ⟨fun r hr => ?_, fun r hr => ?_, fun r hr c hc => ?_, fun r hr c hc => ?_⟩
  · rw [cell_far (by omega)]; exact g.hdr r hr
  · rw [World.frozen?_setCell]; exact g.softh r hr
  · unfold YtebngmgdciahiaaGreatDoor.Rz.put
    by_cases e : r = i
    · subst e
      by_cases e2 : c = j
      · subst e2
        rw [cell_same (g.cell r hr c hc), if_pos ⟨rfl, rfl⟩]
      · rw [cell_other (fun q => e2 q.symm), if_neg (fun q => e2 q.2)]; exact g.cell r hr c hc
    · rw [cell_far (by omega), if_neg (fun q => e q.1)]; exact g.cell r hr c hc
  · rw [World.frozen?_setCell]; exact g.soft r hr c hc

/-- zeros, under way: k rows are there. -/
structure Half (w : World) (h n m k : Nat) : Prop where
  size : w.heap.size = h + 1 + k
  got : ∀ i, i < k → w.cell? ⟨h, i, none⟩ = some (.slice (some ⟨h + 1 + i, 0, none⟩) m m)
  rest : ∀ i, i < n → k ≤ i → w.cell? ⟨h, i, none⟩ = some (.slice none 0 0)
  softh : ∀ i, i < n → w.frozen? ⟨h, i, none⟩ = false
  cell : ∀ i, i < k → ∀ j, j < m → w.cell? ⟨h + 1 + i, j, none⟩ = some (.int .u8 0)
  soft : ∀ i, i < k → ∀ j, j < m → w.frozen? ⟨h + 1 + i, j, none⟩ = false

theorem Half.start (w : World) (n m : Nat) : Half (w.alloc (.cells (madeCells #[.slice none 0 0] n) 27)) w.heap.size n m 0 := by
  refine ⟨by simp, fun i hi => absurd hi (by omega), fun i hi _ => ?_, fun i _ => World.frozen?_alloc_new _ _ _ _, fun i hi => absurd hi (by omega), fun i hi => absurd hi (by omega)⟩
  rw [World.cell?_alloc_new, ← Array.getElem?_toList, toList_madeCells_one, List.getElem?_replicate, if_pos (by omega)]

theorem Half.step {w : World} {h n m k : Nat} (g : Half w h n m k) (hk : k < n) :
    Half ((w.alloc (.cells (madeCells #[.int .u8 0] m) 5)).setCell ⟨h, k, none⟩ (.slice (some ⟨w.heap.size, 0, none⟩) m m)) h n m (k + 1) := by
  have hs := g.size
  have hb : Below w.heap.size w (w.alloc (.cells (madeCells #[.int .u8 0] m) 5)) := (Below.refl _ _).alloc (Nat.le_refl _) _
  refine ⟨by simp [World.setCell]; omega, fun i hi => ?_, fun i hi hki => ?_, fun i hi => ?_, fun i hi j hj => ?_, fun i hi j hj => ?_⟩
  · by_cases e : i = k
    · subst e
      rw [cell_same (u := .slice none 0 0) (by rw [hb.cell (p := ⟨h, i, none⟩) (by simp; omega)]; exact g.rest i hk (Nat.le_refl _)), hs]
    · rw [cell_other (fun q => e q.symm), hb.cell (p := ⟨h, i, none⟩) (by simp; omega)]; exact g.got i (by omega)
  · rw [cell_other (by omega), hb.cell (p := ⟨h, i, none⟩) (by simp; omega)]; exact g.rest i hi (by omega)
  · rw [World.frozen?_setCell, hb.frozen (p := ⟨h, i, none⟩) (by simp; omega)]; exact g.softh i hi
  · rw [cell_far (by omega)]
    by_cases e : i = k
    · subst e
      rw [← hs, World.cell?_alloc_new, ← Array.getElem?_toList, toList_madeCells_one, List.getElem?_replicate, if_pos (by omega)]
    · rw [hb.cell (p := ⟨h + 1 + i, j, none⟩) (by simp; omega)]; exact g.cell i (by omega) j hj
  · rw [World.frozen?_setCell]
    by_cases e : i = k
    · subst e
      rw [← hs]; exact World.frozen?_alloc_new _ _ _ _
    · rw [hb.frozen (p := ⟨h + 1 + i, j, none⟩) (by simp; omega)]; exact g.soft i (by omega) j hj

theorem Half.done {w : World} {h n m : Nat} (g : Half w h n m n) : Grid w h n m (fun _ _ => 0) :=
  ⟨g.got, g.softh, g.cell, g.soft⟩

set_option maxRecDepth 100000 in
theorem zeros_yes (n m : Nat) (w : World) (n1 : 1 ≤ n) (n2 : n ≤ 255) (m1 : 1 ≤ m) (m2 : m ≤ 255) :
    Calls Tryz.prog 130 #[.int .i64 n, .int .i64 m] w fun e w' => e = .returned (.slice (some ⟨w.heap.size, 0, none⟩) n n) ∧ Grid w' w.heap.size n m (fun _ _ => 0) ∧ Below w.heap.size w w' ∧ w'.heap.size = w.heap.size + 1 + n := by
  have s1 := isSide_any n w
  rw [decide_eq_true (by omega)] at s1
  have s2 := isSide_any m w
  rw [decide_eq_true (by omega)] at s2
  have mk1 := run_make_row' (P := Tryz.prog) 143 27 (.slice none 0 0) 24 Tryz.underlying143 info27 rfl .i64 .i64 n (by omega) (by omega)
  have mk2 := run_make_row' (P := Tryz.prog) 27 5 (.int .u8 0) 1 Tryz.underlying27 info5 rfl .i64 .i64 m (by omega) (by omega)
  go_enter Tryz.func130, Tryz.ntmps130
  go_wp2_with fail
  go_at_call_of 151 (Value.int .i64 (n : Int))
  refine s1.mono ?_
  rintro e w' ⟨rfl, rfl⟩
  go_wp2_with fail
  go_at_call 151
  refine s2.mono ?_
  rintro e w' ⟨rfl, rfl⟩
  go_wp2
  clear mk1 s1 s2
  go_loopw [19] (fun v wr => ∃ k : Nat, k ≤ n ∧ v = .int .i64 k ∧ Half wr w.heap.size n m k ∧ Below w.heap.size w wr) (fun v _ => n - (intOf v).toNat)
  case atStart => exact ⟨0, by omega, rfl, Half.start w n m, (Below.refl _ _).alloc (Nat.le_refl _) _⟩
  case round =>
    obtain ⟨k, hk, rfl, hh, hb⟩ := hrel
    by_cases hlt : k < n
    · have ik : (k : Int) < (n : Int) := by omega
      have hs := hh.size
      have hb' : Below wr.heap.size wr (wr.alloc (.cells (madeCells #[.int .u8 0] m) 5)) := (Below.refl _ _).alloc (Nat.le_refl _) _
      have ck : (wr.alloc (.cells (madeCells #[.int .u8 0] m) 5)).cell? ⟨w.heap.size, k, none⟩ = some (.slice none 0 0) := by
        rw [hb'.cell (p := ⟨w.heap.size, k, none⟩) (by simp; omega)]; exact hh.rest k hlt (Nat.le_refl _)
      have fk : (wr.alloc (.cells (madeCells #[.int .u8 0] m) 5)).frozen? ⟨w.heap.size, k, none⟩ = false := by
        rw [hb'.frozen (p := ⟨w.heap.size, k, none⟩) (by simp; omega)]; exact hh.softh k hlt
      have H2 : Hid (Half ((wr.alloc (.cells (madeCells #[.int .u8 0] m) 5)).setCell ⟨w.heap.size, k, none⟩ (.slice (some ⟨wr.heap.size, 0, none⟩) m m)) w.heap.size n m (k + 1)) := hh.step hlt
      have HB : Hid (Below w.heap.size w ((wr.alloc (.cells (madeCells #[.int .u8 0] m) 5)).setCell ⟨w.heap.size, k, none⟩ (.slice (some ⟨wr.heap.size, 0, none⟩) m m))) := (hb.alloc (by omega) _).setCell (Nat.le_refl _) _
      have mk := mk2 wr
      clear hh hb hb' mk2 hs
      generalize wr.alloc (.cells (madeCells #[.int .u8 0] m) 5) = W at *
      go_wp2
      go_round
      case rel => exact ⟨k + 1, by omega, by go_num, H2.out, HB.out⟩
      case measure => simp [intOf]; omega
    · have : k = n := by omega
      subst this
      have HH : Hid (Half wr w.heap.size k m k) := hh
      clear hh mk2
      go_wp2
      go_ret
      exact ⟨rfl, HH.out.done, hb, HH.out.size⟩

set_option maxRecDepth 100000 in
theorem zeros_no (n m : Int) (w : World) (hno : ¬ ((1 ≤ n ∧ n ≤ 255) ∧ 1 ≤ m ∧ m ≤ 255)) :
    Calls Tryz.prog 130 #[.int .i64 n, .int .i64 m] w fun e w' => e = .returned (.slice none 0 0) ∧ w = w' := by
  have s1 := isSide_any n w
  have s2 := isSide_any m w
  by_cases h1 : 1 ≤ n ∧ n ≤ 255
  · rw [decide_eq_true h1] at s1
    rw [decide_eq_false (fun q => hno ⟨h1, q⟩)] at s2
    clear h1 hno
    go_enter Tryz.func130, Tryz.ntmps130
    go_wp2_with fail
    go_at_call 151
    refine s1.mono ?_
    rintro e w' ⟨rfl, rfl⟩
    go_wp2_with fail
    go_at_call 151
    refine s2.mono ?_
    rintro e w' ⟨rfl, rfl⟩
    go_wp2
    go_ret
    exact ⟨rfl, rfl⟩
  · rw [decide_eq_false h1] at s1
    clear h1 hno s2
    go_enter Tryz.func130, Tryz.ntmps130
    go_wp2_with fail
    go_at_call 151
    refine s1.mono ?_
    rintro e w' ⟨rfl, rfl⟩
    go_wp2
    go_ret
    exact ⟨rfl, rfl⟩

theorem Grid.congr {w : World} {h n m : Nat} {F G : Nat → Nat → Nat} (g : Grid w h n m F) (e : ∀ i, i < n → ∀ j, j < m → F i j = G i j) : Grid w h n m G :=
  ⟨g.hdr, g.softh, fun i hi j hj => by rw [g.cell i hi j hj, e i hi j hj], g.soft⟩

set_option maxRecDepth 100000 in
theorem unit_no (n : Int) (w : World) (hno : ¬ (1 ≤ n ∧ n ≤ 255)) :
    Calls Tryz.prog 134 #[.int .i64 n] w fun e w' => e = .returned (.slice none 0 0) ∧ w = w' := by
  have z := zeros_no n n w (fun q => hno q.1)
  clear hno
  go_enter Tryz.func134, Tryz.ntmps134
  go_wp2_with fail
  go_at_call 130
  refine z.mono ?_
  rintro e w' ⟨rfl, rfl⟩
  go_wp2
  go_loop [10] (fun v => v = .int .i64 0) (fun _ => 0)
  case atStart => rfl
  case round =>
    subst hrel
    go_wp2
    go_ret
    exact ⟨rfl, rfl⟩

set_option maxRecDepth 100000 in
theorem unit_yes (n : Nat) (w : World) (n1 : 1 ≤ n) (n2 : n ≤ 255) :
    Calls Tryz.prog 134 #[.int .i64 n] w fun e w' => e = .returned (.slice (some ⟨w.heap.size, 0, none⟩) n n) ∧ Grid w' w.heap.size n n one ∧ Below w.heap.size w w' := by
  have z := zeros_yes n n w n1 n2 n1 n2
  go_enter Tryz.func134, Tryz.ntmps134
  go_wp2_with fail
  go_at_call 130
  refine z.mono ?_
  rintro e w1 ⟨rfl, hg, hb1, hs1⟩
  clear z
  go_wp2
  go_loopw [10] (fun v wr => ∃ k : Nat, k ≤ n ∧ v = .int .i64 k ∧ Grid wr w.heap.size n n (fun i j => if i = j ∧ i < k then 1 else 0) ∧ Below w.heap.size w wr) (fun v _ => n - (intOf v).toNat)
  case atStart => exact ⟨0, by omega, rfl, hg.congr fun i _ j _ => by rw [if_neg (by omega)], hb1⟩
  case round =>
    obtain ⟨k, hk, rfl, hh, hb⟩ := hrel
    clear hg hb1 hs1
    by_cases hlt : k < n
    · have ik : (k : Int) < (n : Int) := by omega
      have ck := hh.hdr k hlt
      have dk := hh.cell k hlt k hlt
      have fk := hh.soft k hlt k hlt
      have H2 : Hid (Grid (wr.setCell ⟨w.heap.size + 1 + k, k, none⟩ (.int .u8 ((1 : Nat) : Int))) w.heap.size n n (fun i j => if i = j ∧ i < k + 1 then 1 else 0)) := by
        refine (hh.put hlt hlt).congr fun i hi j hj => ?_
        unfold put
        by_cases e : i = k ∧ j = k
        · rw [if_pos e, if_pos (by omega)]
        · rw [if_neg e]
          dsimp only
          by_cases e2 : i = j ∧ i < k
          · rw [if_pos e2, if_pos (by omega)]
          · rw [if_neg e2, if_neg (by omega)]
      have HB : Hid (Below w.heap.size w (wr.setCell ⟨w.heap.size + 1 + k, k, none⟩ (.int .u8 ((1 : Nat) : Int)))) := hb.setCell (p := ⟨w.heap.size + 1 + k, k, none⟩) (by simp; omega) _
      clear hh hb
      obtain ⟨u, du⟩ : ∃ u, wr.cell? ⟨w.heap.size + 1 + k, k, none⟩ = some u := ⟨_, dk⟩
      clear dk
      generalize w.heap.size + 1 + k = B1 at *
      go_wp2
      go_round
      case rel => exact ⟨k + 1, by omega, by go_num, H2.out, HB.out⟩
      case measure => simp [intOf]; omega
    · have : k = n := by omega
      subst this
      have HH : Hid (Grid wr w.heap.size k k one) := hh.congr fun i hi j hj => by
        unfold one
        by_cases e : i = j
        · rw [if_pos ⟨e, hi⟩, if_pos e]
        · rw [if_neg (fun q => e q.1), if_neg e]
      clear hh
      go_wp2
      go_ret
      exact ⟨rfl, HH.out, hb⟩

theorem P_zero_succ (j : Nat) : P 0 (j + 1) = 0 := by show M (P 0 j) 0 = 0; exact M_zero_right _
theorem pw_P' {x j : Nat} (hx : x < 256) (hj : j < 255) : pw x (j : Int) = P x j := by
  by_cases z : x = 0
  · subst z
    cases j with
    | zero => rfl
    | succ j => rw [P_zero_succ]; unfold pw; rw [if_neg (by omega), if_neg (by omega), if_pos rfl]
  · rw [pw_P hx (by omega) (.inr (by omega))]; congr 1; omega
end Go.Proofs.YtebngmgdciahiaaGreatDoor.Rz

namespace Go.Proofs.YtebngmgdciahiaaGreatDoor.Rz
open Go.RowKit Gf
attribute [local go_sem ↓] Go.wp_at_zero Go.wp_at_succ

/-- The powers. -/
def V : Nat → Nat → Nat := fun i j => P i j
theorem V_B : B V := fun _ _ => P_lt _

set_option maxRecDepth 100000 in
theorem vander_no (n m : Int) (w : World) (hno : ¬ ((1 ≤ n ∧ n ≤ 255) ∧ 1 ≤ m ∧ m ≤ 255)) :
    Calls Tryz.prog 102 #[.int .i64 n, .int .i64 m] w fun e w' => e = .returned (.slice none 0 0) ∧ Below w.heap.size w w' := by
  have z := fun w => zeros_no n m w hno
  clear hno
  go_enter Tryz.func102, Tryz.ntmps102
  go_wp2_with fail
  go_at_call 84
  refine (new_any _).mono ?_
  rintro e w1 ⟨rfl, hu, hb1⟩
  go_wp2_with fail
  go_at_call 130
  refine (z _).mono ?_
  rintro e w' ⟨rfl, rfl⟩
  clear hu z
  go_wp2
  go_loop [16] (fun v => v = .int .i64 0) (fun _ => 0)
  case atStart => rfl
  case round =>
    subst hrel
    go_wp2
    go_ret
    exact ⟨rfl, hb1⟩

set_option maxRecDepth 100000 in
set_option maxHeartbeats 1000000 in
theorem vander_yes (n m : Nat) (w : World) (n1 : 1 ≤ n) (n2 : n ≤ 255) (m1 : 1 ≤ m) (m2 : m ≤ 255) :
    Calls Tryz.prog 102 #[.int .i64 n, .int .i64 m] w fun e w' => ∃ h, e = .returned (.slice (some ⟨h, 0, none⟩) n n) ∧ w.heap.size ≤ h ∧ Grid w' h n m V ∧ Below w.heap.size w w' := by
  have z := fun w => zeros_yes n m w n1 n2 m1 m2
  go_enter Tryz.func102, Tryz.ntmps102
  go_wp2_with fail
  go_at_call 84
  refine (new_any _).mono ?_
  rintro e w1 ⟨rfl, hu, hb1⟩
  go_wp2_with fail
  go_at_call 130
  refine (z _).mono ?_
  rintro e w2 ⟨rfl, hg2, hb2, hs2⟩
  have ht := hu.tab
  have hsz := hb1.size
  have hlt1 : w.heap.size < w1.heap.size := block_lt_of_cell ht.one
  clear z hu
  generalize hH : w1.heap.size = h at *
  clear hs2
  go_wp2
  go_loopw [16] (fun v wr => ∃ k : Nat, k ≤ n ∧ v = .int .i64 k ∧ Grid wr h n m (fun i j => if i < k then V i j else 0) ∧ Below h w1 wr) (fun v _ => n - (intOf v).toNat)
  case atStart => exact ⟨0, by omega, rfl, hg2.congr fun i _ j _ => by rw [if_neg (by omega)], hb2⟩
  case round =>
    obtain ⟨k, hk, rfl, hh, hb⟩ := hrel
    clear hg2 hb2
    by_cases hlt : k < n
    · have ik : (k : Int) < (n : Int) := by omega
      have ck := hh.hdr k hlt
      have HG : Hid (Grid wr h n m (fun i j => if i < k ∨ (i = k ∧ j < 0) then V i j else 0)) := hh.congr fun i _ j _ => by
        by_cases e : i < k
        · rw [if_pos e, if_pos (.inl e)]
        · rw [if_neg e, if_neg (by omega)]
      clear hh
      go_wp2
      clear ck
      go_loopw [23] (fun v wr => ∃ t : Nat, t ≤ m ∧ v = .int .i64 t ∧ Grid wr h n m (fun i j => if i < k ∨ (i = k ∧ j < t) then V i j else 0) ∧ Below h w1 wr) (fun v _ => m - (intOf v).toNat)
      case atStart => exact ⟨0, by omega, rfl, HG.out, hb⟩
      case round =>
        obtain ⟨t, htm, rfl, hh, hbr⟩ := hrel
        clear HG hb
        by_cases hlt2 : t < m
        · have it : (t : Int) < (m : Int) := by omega
          have dk := hh.cell k hlt t hlt2
          have fk := hh.soft k hlt t hlt2
          have hT := ht.keep hbr hlt1
          have cP := pow_any w.heap.size k t wr hT (by omega) (by omega) (by omega)
          rw [pw_P' (by omega) (by omega)] at cP
          have lP := P_lt (a := k) t
          have HV : Hid (V k t = P k t) := rfl
          have H2 : Hid (Grid (wr.setCell ⟨h + 1 + k, t, none⟩ (.int .u8 ((P k t : Nat) : Int))) h n m (fun i j => if i < k ∨ (i = k ∧ j < t + 1) then V i j else 0)) := by
            refine (hh.put hlt hlt2).congr fun i hi j hj => ?_
            unfold put
            by_cases e : i = k ∧ j = t
            · rw [if_pos e, if_pos (by omega), e.1, e.2]; rfl
            · rw [if_neg e]
              dsimp only
              by_cases e2 : i < k ∨ (i = k ∧ j < t)
              · rw [if_pos e2, if_pos (by omega)]
              · rw [if_neg e2, if_neg (by omega)]
          have HB : Hid (Below h w1 (wr.setCell ⟨h + 1 + k, t, none⟩ (.int .u8 ((P k t : Nat) : Int)))) := hbr.setCell (p := ⟨h + 1 + k, t, none⟩) (by simp; omega) _
          clear hh hbr hT
          obtain ⟨u, du⟩ : ∃ u, wr.cell? ⟨h + 1 + k, t, none⟩ = some u := ⟨_, dk⟩
          clear dk HV
          generalize P k t = p at *
          generalize h + 1 + k = B1 at *
          go_wp2_with fail
          go_at_call 131
          refine cP.mono ?_
          rintro e w' ⟨rfl, rfl⟩
          go_wp2
          go_round
          case rel => exact ⟨t + 1, by omega, by go_num, H2.out, HB.out⟩
          case measure => simp [intOf]; omega
        · have : t = m := by omega
          subst this
          have HH : Hid (Grid wr h n t (fun i j => if i < k + 1 then V i j else 0)) := hh.congr fun i hi j hj => by
            by_cases e : i < k + 1
            · rw [if_pos e, if_pos (by omega)]
            · rw [if_neg e, if_neg (by omega)]
          clear hh
          go_wp2
          go_round
          case rel => exact ⟨k + 1, by omega, by go_num, HH.out, hbr⟩
          case measure => simp [intOf]; omega
    · have : k = n := by omega
      subst this
      have HH : Hid (Grid wr h k m V) := hh.congr fun i hi j hj => by rw [if_pos hi]
      clear hh
      go_wp2
      go_ret
      exact ⟨h, rfl, hsz, HH.out, hb1.trans (hb.mono hsz)⟩
end Go.Proofs.YtebngmgdciahiaaGreatDoor.Rz

namespace Go.Proofs.YtebngmgdciahiaaGreatDoor.Rz
open Go.RowKit Gf
attribute [local go_sem ↓] Go.wp_at_zero Go.wp_at_succ

/-- dst with k times src. -/
def ad (f g : Nat → Nat) (n k : Nat) : Nat → Nat := fun i => if i < n then f i ^^^ M k (g i) else f i
theorem ad_lt {f g : Nat → Nat} {n k : Nat} (hf : ∀ i, f i < 256) (hk : k < 256) (i : Nat) : ad f g n k i < 256 := by
  unfold ad; split
  · exact xor_lt (hf i) (M_lt _ hk)
  · exact hf i
theorem mulAdd_row (b k n0 c0 n1 c1 : Nat) (a0 a1 : Option Addr) (f g : Nat → Nat) (w : World) (htab : Tab w b) (hk : k < 256) (h0 : Row w a0 n0 f) (h1 : Row w a1 n1 g) (l0 : n0 ≤ 140737488355328) (l1 : n1 ≤ 140737488355328) :
    Calls Tryz.prog 138 #[.pointer (some ⟨b, 0, none⟩), .slice a0 n0 c0, .slice a1 n1 c1, .int .u8 k] w fun e w' =>
      e = .returned (.slice (some ⟨w.heap.size, 0, none⟩) n0 n0) ∧ Row w' (some ⟨w.heap.size, 0, none⟩) n0 (ad f g n1 k) ∧ Below w.heap.size w w' := by
  refine (mulAdd_any b k n0 c0 n1 c1 a0 a1 f g w htab hk h0 h1 l0 l1).mono ?_
  rintro e w' ⟨rfl, hc, hb⟩
  exact ⟨rfl, ⟨ad_lt h0.lt hk, fun _ => ⟨w.heap.size, 0, rfl, fun i hi => by rw [Nat.zero_add]; exact hc i hi⟩⟩, hb⟩

/-- A store over a header touches no row of bytes. -/
theorem Row.hset {w : World} {a : Option Addr} {n : Nat} {f : Nat → Nat} (r : Row w a n f) {h k : Nat} {x : Option Addr} {y z : Nat} (hc : w.cell? ⟨h, k, none⟩ = some (.slice x y z)) (v : Value) : Row (w.setCell ⟨h, k, none⟩ v) a n f := by
  refine ⟨r.lt, fun hn => ?_⟩
  obtain ⟨b, o, e, hr⟩ := r.lies hn
  refine ⟨b, o, e, fun i hi => ?_⟩
  rw [World.cell?_setCell_other]
  · exact hr i hi
  · intro q
    have q1 : (⟨h, k, none⟩ : Addr) = ⟨b, o + i, none⟩ := by first | exact q | exact q.symm
    rw [q1, hr i hi] at hc
    cases hc

/-- New rows of l bytes whose headers lie, soft, from the beginning of block h on. -/
def Out (w : World) (h n l : Nat) (F : Nat → Nat → Nat) : Prop :=
  ∃ A C, Mat w (some ⟨h, 0, none⟩) n A (fun _ => l) C F ∧ (∀ i, i < n → w.frozen? ⟨h, i, none⟩ = false) ∧ ∀ i, i < n → l ≤ C i

theorem Grid.out {w : World} {h n m : Nat} {F : Nat → Nat → Nat} (g : Grid w h n m F) (hm : m ≤ 9223372036854775807) (hF : B F) : Out w h n m F := ⟨_, _, g.mat hm hF, g.softh, fun _ _ => Nat.le_refl _⟩

theorem Mat.cellAt {w : World} {h n : Nat} {A : Nat → Option Addr} {L C : Nat → Nat} {F : Nat → Nat → Nat} (m : Mat w (some ⟨h, 0, none⟩) n A L C F) {i : Nat} (hi : i < n) : w.cell? ⟨h, i, none⟩ = some (.slice (A i) (L i) (C i)) := by
  obtain ⟨b, o, e, hc⟩ := m.lies (by omega)
  injection e with e
  injection e with e1 e2
  subst e1 e2
  have := hc i hi
  rwa [Nat.zero_add] at this

theorem Out.keep {w w' : World} {h n l : Nat} {F : Nat → Nat → Nat} (o : Out w h n l F) (hb : Below w.heap.size w w') : Out w' h n l F := by
  obtain ⟨A, C, m, s, q⟩ := o
  exact ⟨A, C, m.keep hb, fun i hi => (by rw [hb.frozen (p := ⟨h, i, none⟩) (block_lt_of_cell (m.cellAt hi))]; exact s i hi), q⟩

theorem Out.congr {w : World} {h n l : Nat} {F G : Nat → Nat → Nat} (o : Out w h n l F) (hG : B G) (e : ∀ i, i < n → ∀ j, j < l → F i j = G i j) : Out w h n l G := by
  obtain ⟨A, C, m, s, qq⟩ := o
  refine ⟨A, C, ⟨m.lies, fun i hi => ⟨hG i, fun hn => ?_⟩, m.nil, m.le, hG⟩, s, qq⟩
  obtain ⟨b, o, q, hr⟩ := (m.row i hi).lies hn
  exact ⟨b, o, q, fun j hj => by rw [hr j hj, e i hi j hj]⟩

theorem Out.set {w : World} {h n l k : Nat} {F G : Nat → Nat → Nat} {a : Option Addr} {c : Nat} {f : Nat → Nat} (o : Out w h n l F) (hk : k < n) (r : Row w a l f) (hnil : a = none → l = 0 ∧ c = 0) (hlc : l ≤ c) (hG : B G)
    (e1 : ∀ j, j < l → f j = G k j) (e2 : ∀ i, i < n → i ≠ k → ∀ j, j < l → F i j = G i j) : Out (w.setCell ⟨h, k, none⟩ (.slice a l c)) h n l G := by
  obtain ⟨A, C, m, s, qq⟩ := o
  have ck := m.cellAt hk
  refine ⟨fun i => if i = k then a else A i, fun i => if i = k then c else C i, ⟨fun _ => ⟨h, 0, rfl, fun i hi => ?_⟩, fun i hi => ?_, fun i hi q => ?_, m.le, hG⟩, fun i hi => ?_, fun i hi => ?_⟩
  · rw [Nat.zero_add]
    by_cases e : i = k
    · subst e; rw [cell_same ck, if_pos rfl, if_pos rfl]
    · rw [cell_other (fun q => e q.symm), if_neg e, if_neg e]; exact m.cellAt hi
  · by_cases e : i = k
    · subst e
      rw [if_pos rfl]
      refine ⟨hG i, fun hn => ?_⟩
      obtain ⟨b, o, q, hr⟩ := (r.hset ck _).lies hn
      exact ⟨b, o, q, fun j hj => by rw [hr j hj, e1 j hj]⟩
    · rw [if_neg e]
      refine ⟨hG i, fun hn => ?_⟩
      obtain ⟨b, o, q, hr⟩ := ((m.row i hi).hset ck _).lies hn
      exact ⟨b, o, q, fun j hj => by rw [hr j hj, e2 i hi e j hj]⟩
  · by_cases e : i = k
    · rw [if_pos e] at q ⊢; exact hnil q
    · rw [if_neg e] at q ⊢; exact m.nil i hi q
  · rw [World.frozen?_setCell]; exact s i hi
  · dsimp only; split
    · exact hlc
    · exact qq i hi

/-- How much of row i is summed up. -/
def part (m k t i : Nat) : Nat := if i < k then m else if i = k then t else 0
def psum (m k t : Nat) (F G : Nat → Nat → Nat) : Nat → Nat → Nat := fun i j => xs (part m k t i) (fun s => M (F i s) (G s j))
theorem psum_B {m k t : Nat} {F G : Nat → Nat → Nat} (hF : B F) : B (psum m k t F G) := fun i _ => xs_lt fun s _ => M_lt _ (hF i s)

set_option maxRecDepth 100000 in
set_option maxHeartbeats 2000000 in
theorem mxMul_yes (a a' : Option Addr) (n m c c' : Nat) (A A' : Nat → Option Addr) (L L' C C' : Nat → Nat) (F G : Nat → Nat → Nat) (w : World) (h1 : Mat w a n A L C F) (h2 : Mat w a' m A' L' C' G) (g1 : IsM n L) (g2 : IsM m L') (hlm : L 0 = m) :
    Calls Tryz.prog 104 #[.slice a n c, .slice a' m c'] w fun e w' => ∃ h, e = .returned (.tuple #[.slice (some ⟨h, 0, none⟩) n n, .bool true]) ∧ w.heap.size ≤ h ∧ Out w' h n (L' 0) (mm m F G) ∧ Below w.heap.size w w' := by
  have q1 := fun w h => isMatrix_yes a n c A L C F w h g1
  have q2 := fun w h => isMatrix_yes a' m c' A' L' C' G w h g2
  obtain ⟨n1, n2, l1, l2, hl⟩ := g1
  obtain ⟨m1, m2, k1, k2, hl'⟩ := g2
  obtain ⟨b1, o1, rfl, hc1⟩ := h1.lies (by omega)
  obtain ⟨b2, o2, rfl, hc2⟩ := h2.lies (by omega)
  have d1 := hc1 0 (by omega)
  have d2 := hc2 0 (by omega)
  simp only [Nat.add_zero] at d1 d2
  rw [hlm] at d1
  have i1 : (0 : Int) < (n : Int) := by omega
  have i2 : (0 : Int) < (m : Int) := by omega
  obtain ⟨l, hl0⟩ : ∃ l, L' 0 = l := ⟨_, rfl⟩
  have z := fun w => zeros_yes n l w n1 n2 (by omega) (by omega)
  have H1 : Hid (Mat w (some ⟨b1, o1, none⟩) n A L C F) := h1
  have H2 : Hid (Mat w (some ⟨b2, o2, none⟩) m A' L' C' G) := h2
  have HL : Hid (∀ i, i < n → L i = m) := fun i hi => by rw [hl i hi, hlm]
  have HL' : Hid (∀ i, i < m → L' i = l) := fun i hi => by rw [hl' i hi, hl0]
  have HC1 : Hid (∀ i, i < n → w.cell? ⟨b1, o1 + i, none⟩ = some (.slice (A i) m (C i))) := fun i hi => by rw [hc1 i hi, HL.out i hi]
  have HC2 : Hid (∀ i, i < m → w.cell? ⟨b2, o2 + i, none⟩ = some (.slice (A' i) l (C' i))) := fun i hi => by rw [hc2 i hi, HL'.out i hi]
  have p1 := q1 w h1
  have p2 := q2 w h2
  rw [hl0] at d2 k1 k2
  rw [hl0]
  have B1 : b1 < w.heap.size := block_lt_of_cell d1
  have B2 : b2 < w.heap.size := block_lt_of_cell d2
  clear q1 q2 hl hl' hc1 hc2 hlm hl0 h1 h2 l1 l2
  generalize C 0 = c1 at d1
  generalize C' 0 = c2 at d2
  generalize A 0 = x1 at d1
  generalize A' 0 = x2 at d2
  go_enter Tryz.func104, Tryz.ntmps104
  go_wp2_with fail
  go_at_call_of 137 (Value.slice (some ⟨b1, o1, none⟩) n c)
  refine p1.mono ?_
  rintro e w' ⟨rfl, rfl⟩
  go_wp2_with fail
  go_at_call 137
  refine p2.mono ?_
  rintro e w' ⟨rfl, rfl⟩
  go_wp2_with fail
  go_at_call 84
  refine (new_any _).mono ?_
  rintro e w1 ⟨rfl, hu, hb1⟩
  have d2' := (hb1.cell (p := ⟨b2, o2, none⟩) B2).trans d2
  have ht := hu.tab
  have hlt1 : w.heap.size < w1.heap.size := block_lt_of_cell ht.one
  clear d1 d2 p1 p2 hu
  go_wp2_with fail
  go_at_call 130
  refine (z _).mono ?_
  rintro e w2 ⟨rfl, hg2, hb2, hs2⟩
  clear z d2' hs2
  have HT : Hid (Tab w1 w.heap.size) := ht
  have HS : Hid (Out w2 w1.heap.size n l (psum m 0 0 F G)) := (hg2.out (by omega) (fun _ _ => by omega)).congr (psum_B H1.out.lt) fun i hi j hj => by
    unfold psum part
    rw [if_neg (by omega)]
    by_cases e : i = 0
    · rw [if_pos e]; rfl
    · rw [if_neg e]; rfl
  have HB1 : Hid (Below w.heap.size w w1) := hb1
  clear hg2 ht hb1
  obtain ⟨h, hH⟩ : ∃ h, w1.heap.size = h := ⟨_, rfl⟩
  rw [hH] at hb2 HS hlt1
  go_wp2
  have HH : Hid (w1.heap.size = h) := hH
  clear hH
  go_loopw [39] (fun v wr => ∃ k : Nat, k ≤ n ∧ v = .int .i64 k ∧ Out wr h n l (psum m k 0 F G) ∧ Below h w1 wr) (fun v _ => n - (intOf v).toNat)
  case atStart => exact ⟨0, by omega, rfl, HS.out, hb2⟩
  case round =>
    obtain ⟨k, hk, rfl, ho, hb⟩ := hrel
    clear HS hb2
    have HO : Hid (Out wr h n l (psum m k 0 F G)) := ho
    clear ho
    by_cases hlt : k < n
    · have ik : (k : Int) < (n : Int) := by omega
      have ck : wr.cell? ⟨b1, o1 + k, none⟩ = some (.slice (A k) m (C k)) := by
        rw [hb.cell (p := ⟨b1, o1 + k, none⟩) (by simp; omega), HB1.out.cell (p := ⟨b1, o1 + k, none⟩) B1]; exact HC1.out k hlt
      obtain ⟨ba, oa, hA, hr⟩ := (H1.out.row k hlt).lies (by rw [HL.out k hlt]; omega)
      rw [hA] at ck
      have HR : Hid (∀ i, i < m → w.cell? ⟨ba, oa + i, none⟩ = some (.int .u8 ((F k i : Nat) : Int))) := fun i hi => hr i (by rw [HL.out k hlt]; exact hi)
      have Ba : ba < w.heap.size := block_lt_of_cell (HR.out 0 (by omega))
      clear hr hA
      generalize C k = cc at ck
      go_wp2
      clear ck
      go_loopw [46] (fun v wr => ∃ t : Nat, t ≤ m ∧ v = .int .i64 t ∧ Out wr h n l (psum m k t F G) ∧ Below h w1 wr) (fun v _ => m - (intOf v).toNat)
      case atStart => exact ⟨0, by omega, rfl, HO.out, hb⟩
      case round =>
        obtain ⟨t, htm, rfl, ho, hbr⟩ := hrel
        clear HO hb
        by_cases hlt2 : t < m
        · have it : (t : Int) < (m : Int) := by omega
          have hbw : Below w.heap.size w wr := HB1.out.trans (hbr.mono (by omega))
          have cf : wr.cell? ⟨ba, oa + t, none⟩ = some (.int .u8 ((F k t : Nat) : Int)) := (hbw.cell (p := ⟨ba, oa + t, none⟩) Ba).trans (HR.out t hlt2)
          have cb : wr.cell? ⟨b2, o2 + t, none⟩ = some (.slice (A' t) l (C' t)) := (hbw.cell (p := ⟨b2, o2 + t, none⟩) B2).trans (HC2.out t hlt2)
          obtain ⟨A1, C1, hm1, hs1, hq1⟩ := ho
          have cp := hm1.cellAt hlt
          have fp := hs1 k hlt
          have lF := H1.out.lt k t
          have hT : Tab wr w.heap.size := HT.out.keep hbr hlt1
          have rG := (H2.out.row t hlt2).keep hbw
          rw [HL'.out t hlt2] at rG
          have KO : Hid (Out wr h n l (psum m k t F G)) := ⟨A1, C1, hm1, hs1, hq1⟩
          have K : Hid (Calls Tryz.prog 138 #[.pointer (some ⟨w.heap.size, 0, none⟩), .slice (A1 k) l (C1 k), .slice (A' t) l (C' t), .int .u8 ((F k t : Nat) : Int)] wr.drew fun e w' =>
              e = .returned (.slice (some ⟨wr.heap.size, 0, none⟩) l l) ∧ w'.cell? ⟨h, k, none⟩ = some (.slice (A1 k) l (C1 k)) ∧ w'.frozen? ⟨h, k, none⟩ = false ∧ Out (w'.setCell ⟨h, k, none⟩ (.slice (some ⟨wr.heap.size, 0, none⟩) l l)) h n l (psum m k (t + 1) F G) ∧ Below h w1 (w'.setCell ⟨h, k, none⟩ (.slice (some ⟨wr.heap.size, 0, none⟩) l l))) := by
            refine (mulAdd_row w.heap.size (F k t) l (C1 k) l (C' t) (A1 k) (A' t) (psum m k t F G k) (G t) wr.drew (hT.drewN 1) lF ((hm1.row k hlt).drewN 1) (rG.drewN 1) (by omega) (by omega)).mono ?_
            rintro e w' ⟨rfl, hrow, hbel⟩
            have hb3 : Below wr.heap.size wr w' := (Below.refl wr.heap.size wr).drew.trans hbel
            have hhs : h < wr.heap.size := block_lt_of_cell cp
            refine ⟨rfl, (hb3.cell (p := ⟨h, k, none⟩) hhs).trans cp, (hb3.frozen (p := ⟨h, k, none⟩) hhs).trans fp, ?_, ?_⟩
            · refine (KO.out.keep hb3).set hlt hrow (fun e => by cases e) (Nat.le_refl _) (psum_B H1.out.lt) (fun j hj => ?_) fun i hi hne j hj => ?_
              · unfold ad psum part
                rw [if_pos hj, if_neg (by omega), if_pos rfl, if_neg (by omega), if_pos rfl]; rfl
              · unfold psum part
                by_cases e : i < k
                · rw [if_pos e, if_pos e]
                · rw [if_neg e, if_neg hne, if_neg e, if_neg hne]
            · exact (hbr.trans (hb3.mono (by omega))).setCell (Nat.le_refl _) _
          clear hbw hm1 hs1 hq1 hT rG KO hbr
          generalize F k t = f at *
          generalize A1 k = ap at *
          generalize C1 k = acp at *
          generalize A' t = ab at *
          generalize C' t = acb at *
          go_wp2
          go_region_with (go_at_call 138; refine K.out.mono ?_; rintro e w' ⟨rfl, y1, y2, y3, y4⟩)
          all_goals
            go_wp2
            go_round
            case rel => exact ⟨t + 1, by omega, by go_num, y3, y4⟩
            case measure => simp [intOf]; omega
        · have : t = m := by omega
          subst this
          have HH : Hid (Out wr h n l (psum t (k + 1) 0 F G)) := ho.congr (psum_B H1.out.lt) fun i hi j hj => by
            unfold psum part
            by_cases e : i < k
            · rw [if_pos e, if_pos (by omega)]
            · by_cases e2 : i = k
              · rw [if_neg e, if_pos e2, if_pos (by omega)]
              · rw [if_neg e, if_neg e2, if_neg (by omega)]
                by_cases e3 : i = k + 1
                · rw [if_pos e3]
                · rw [if_neg e3]
          clear ho
          go_wp2
          go_round
          case rel => exact ⟨k + 1, by omega, by go_num, HH.out, hbr⟩
          case measure => simp [intOf]; omega
    · have : k = n := by omega
      subst this
      have HE : Hid (Out wr h k l (mm m F G)) := HO.out.congr (mm_B H1.out.lt) fun i hi j hj => by
        unfold psum part; rw [if_pos hi]; rfl
      go_wp2
      go_ret2
      exact ⟨h, rfl, by omega, HE.out, HB1.out.trans (hb.mono (by omega))⟩

set_option maxRecDepth 100000 in
set_option maxHeartbeats 1000000 in
theorem mxMul_no (a a' : Option Addr) (n m c c' : Nat) (A A' : Nat → Option Addr) (L L' C C' : Nat → Nat) (F G : Nat → Nat → Nat) (w : World) (h1 : Mat w a n A L C F) (h2 : Mat w a' m A' L' C' G) (hn : n ≤ maxLen) (hm : m ≤ maxLen) (hno : ¬ (IsM n L ∧ IsM m L' ∧ L 0 = m)) :
    Calls Tryz.prog 104 #[.slice a n c, .slice a' m c'] w fun e w' => e = .returned (.tuple #[.slice none 0 0, .bool false]) ∧ w = w' := by
  by_cases g1 : IsM n L
  · have p1 := isMatrix_yes a n c A L C F w h1 g1
    by_cases g2 : IsM m L'
    · have p2 := isMatrix_yes a' m c' A' L' C' G w h2 g2
      have hne : ¬ L 0 = m := fun q => hno ⟨g1, g2, q⟩
      obtain ⟨n1, n2, l1, l2, hl⟩ := g1
      obtain ⟨m1, m2, k1, k2, hl'⟩ := g2
      obtain ⟨b1, o1, rfl, hc1⟩ := h1.lies (by omega)
      have d1 := hc1 0 (by omega)
      simp only [Nat.add_zero] at d1
      have i1 : (0 : Int) < (n : Int) := by omega
      have hne' : ((L 0 : Nat) : Int) ≠ (m : Int) := by omega
      clear hc1 h1 h2 hno hl hl' k1 k2 hne
      generalize C 0 = c1 at d1
      generalize A 0 = x1 at d1
      generalize L 0 = l at *
      go_enter Tryz.func104, Tryz.ntmps104
      go_wp2_with fail
      go_at_call_of 137 (Value.slice (some ⟨b1, o1, none⟩) n c)
      refine p1.mono ?_
      rintro e w' ⟨rfl, rfl⟩
      go_wp2_with fail
      go_at_call 137
      refine p2.mono ?_
      rintro e w' ⟨rfl, rfl⟩
      go_wp2
      go_ret2
      exact ⟨rfl, rfl⟩
    · have p2 := isMatrix_no a' m c' A' L' C' G w h2 hm g2
      clear h1 h2 hno g1 g2
      go_enter Tryz.func104, Tryz.ntmps104
      go_wp2_with fail
      go_at_call 137
      refine p1.mono ?_
      rintro e w' ⟨rfl, rfl⟩
      go_wp2_with fail
      go_at_call 137
      refine p2.mono ?_
      rintro e w' ⟨rfl, rfl⟩
      go_wp2
      go_ret2
      exact ⟨rfl, rfl⟩
  · have p1 := isMatrix_no a n c A L C F w h1 hn g1
    clear h1 h2 hno g1
    go_enter Tryz.func104, Tryz.ntmps104
    go_wp2_with fail
    go_at_call 137
    refine p1.mono ?_
    rintro e w' ⟨rfl, rfl⟩
    go_wp2
    go_ret2
    exact ⟨rfl, rfl⟩
end Go.Proofs.YtebngmgdciahiaaGreatDoor.Rz

namespace Go.Proofs.YtebngmgdciahiaaGreatDoor.Rz
open Go.RowKit Gf
attribute [local go_sem ↓] Go.wp_at_zero Go.wp_at_succ

/-- The cells of a row. -/
def bs (f : Nat → Nat) (n : Nat) : List Value := (List.range n).map fun i => Value.int .u8 ((f i : Nat) : Int)
theorem bs_length (f : Nat → Nat) (n : Nat) : (bs f n).length = n := by unfold bs; simp
theorem bs_at {f : Nat → Nat} {n j : Nat} (hj : j < n) : (bs f n)[j]? = some (.int .u8 ((f j : Nat) : Int)) := by unfold bs; simp [hj]
theorem bs_one {f : Nat → Nat} {n : Nat} : ∀ u ∈ bs f n, u.oneCell' = true := fun v hv => by unfold bs at hv; simp at hv; obtain ⟨_, _, rfl⟩ := hv; rfl
/-- f's first n, then g. -/
def cat (n : Nat) (f g : Nat → Nat) : Nat → Nat := fun j => if j < n then f j else g (j - n)
theorem bs_cat (n m : Nat) (f g : Nat → Nat) : bs f n ++ bs g m = bs (cat n f g) (n + m) := by
  apply List.ext_getElem?
  intro j
  by_cases h1 : j < n
  · rw [List.getElem?_append_left (by rw [bs_length]; exact h1), bs_at h1, bs_at (by omega)]; unfold cat; rw [if_pos h1]
  · rw [List.getElem?_append_right (by rw [bs_length]; omega), bs_length]
    by_cases h2 : j < n + m
    · rw [bs_at (by omega), bs_at h2]; unfold cat; rw [if_neg h1]
    · rw [List.getElem?_eq_none (by rw [bs_length]; omega), List.getElem?_eq_none (by rw [bs_length]; omega)]

theorem add_plain (b o j : Nat) : (⟨b, o, none⟩ : Addr).add j = ⟨b, o + j, none⟩ := by unfold Addr.add; split <;> simp_all

theorem Below.ofGrown {base n : Nat} {w W : World} {e : TypeId} {size : Nat} {v : Value} {xs : List Value} (h : w.ownsRow base e size v n xs) (g : w.grownBy W v.ownBlock) (hb : base ≤ w.heap.size) : Below base w W :=
  (Below.refl base w).grown g hb fun k hk => (h.lt k hk).1

theorem appendB {w : World} {base n m c : Nat} {v : Value} {f g : Nat → Nat} {a : Option Addr} (h : w.ownsRow base 5 1 v n (bs f n)) (r : Row w a m g) (hm : 1 ≤ m) (hl : n + m ≤ 140737488355328) (hb : base ≤ w.heap.size) :
    ∃ v' W, Sem.run Tryz.prog (Builtin.append_ #[27, 27] 27 #[v, .slice a m c]) w = .ok v' W ∧ W.ownsRow base 5 1 v' (n + m) (bs (cat n f g) (n + m)) ∧ w.grownBy W v.ownBlock ∧ Below base w W := by
  obtain ⟨i, hi, hzz⟩ := Option.map_eq_some_iff.1 info5
  simp only [Prod.mk.injEq] at hzz
  obtain ⟨hz, hs, hby⟩ := hzz
  obtain ⟨b, o, rfl, hc⟩ := r.lies (by omega)
  obtain ⟨v', W, hr, hown, hg, _⟩ := run_append_own (P := Tryz.prog) w base 27 27 5 i (.int .u8 0) 1 1 Tryz.underlying27 hi hz hs hby rfl (by omega) v n (bs f n) h ⟨b, o, none⟩ m c (bs g m) (by rw [bs_length]; omega)
    (fun j u hu => by
      have hj : j < m := by rw [← bs_length g m]; exact (List.getElem?_eq_some_iff.1 hu).1
      rw [bs_at hj] at hu; injection hu with hu
      rw [add_plain, hc j hj, hu]) bs_one (by unfold maxLen; omega) (by omega) hb
  rw [bs_cat] at hown
  exact ⟨v', W, hr, hown, hg, Below.ofGrown h hg hb⟩

theorem ownB_row {w : World} {base n : Nat} {v : Value} {f : Nat → Nat} (h : w.ownsRow base 5 1 v n (bs f n)) (hn : 1 ≤ n) (hf : ∀ i, f i < 256) :
    ∃ g c, v = .slice (some ⟨g, 0, none⟩) n c ∧ base ≤ g ∧ n ≤ c ∧ Row w (some ⟨g, 0, none⟩) n f := by
  rcases h.2 with ⟨_, e⟩ | ⟨g, cap, cur, e, hg, _, hnc, _⟩
  · omega
  · subst e
    exact ⟨g, cap, rfl, hg, hnc, hf, fun _ => ⟨g, 0, rfl, fun j hj => by rw [Nat.zero_add, h.cellAt j (by omega), bs_at hj]⟩⟩

theorem cat_lt {n : Nat} {f g : Nat → Nat} (hf : ∀ i, f i < 256) (hg : ∀ i, g i < 256) (i : Nat) : cat n f g i < 256 := by
  unfold cat; split; exact hf _; exact hg _

theorem eql_nil (w : World) (a : Addr) (l c : Nat) : Sem.run Tryz.prog (binOp .eql 27 (.slice (some a) l c) (.slice none 0 0)) w = .ok (.bool false) w := by
  simp [binOp, run_equal_slice_nil (P := Tryz.prog) w 27 5 (some a) l c Tryz.underlying27]

set_option maxRecDepth 100000 in
theorem clone_any (a : Option Addr) (n c : Nat) (f : Nat → Nat) (w : World) (h : Row w a n f) (hn : 1 ≤ n) (hl : n ≤ 140737488355328) :
    Calls Tryz.prog 157 #[.slice a n c] w fun e w' => ∃ g c', e = .returned (.slice (some ⟨g, 0, none⟩) n c') ∧ w.heap.size ≤ g ∧ n ≤ c' ∧ Row w' (some ⟨g, 0, none⟩) n f ∧ Below w.heap.size w w' := by
  obtain ⟨W, hW⟩ : ∃ W, W = w.alloc (.cells #[] 5) := ⟨_, rfl⟩
  have hb : Below w.heap.size w W := by rw [hW]; exact (Below.refl _ _).alloc (Nat.le_refl _) _
  have own : W.ownsRow w.heap.size 5 1 (.slice (some ⟨w.heap.size, 0, none⟩) 0 0) 0 (bs f 0) := by rw [hW]; exact World.ownsRow_lit (e := 5) (size := 1) w #[] 0 (Nat.le_refl _) (by unfold maxLen; omega) (by simp)
  obtain ⟨v, W2, hr, own2, _, hb2⟩ := appendB (c := c) own (h.keep hb) hn (by omega) (by have := hb.size; omega)
  rw [Nat.zero_add] at own2
  have lf := h.lt
  obtain ⟨g, c', rfl, hg, hnc, hrow⟩ := ownB_row own2 hn (cat_lt lf lf)
  have HA : Hid (Sem.run Tryz.prog (Builtin.append_ #[27, 27] 27 #[.slice (some ⟨w.heap.size, 0, none⟩) 0 0, .slice a n c]) W = .ok (.slice (some ⟨g, 0, none⟩) n c') W2) := hr
  have HR : Hid (Row W2 (some ⟨g, 0, none⟩) n f) := ⟨lf, fun hn => by
    obtain ⟨b, o, e, hc⟩ := hrow.lies hn
    exact ⟨b, o, e, fun i hi => by rw [hc i hi]; unfold cat; rw [if_neg (by omega), Nat.sub_zero]⟩⟩
  have HB : Hid (Below w.heap.size w W2) := hb.trans hb2
  obtain ⟨b, o, rfl, _⟩ := h.lies (by omega)
  clear hr hrow own own2 hb hb2 h lf
  have q0 := eql_nil w ⟨b, o, none⟩ n c
  go_enter Tryz.func157, Tryz.ntmps157
  go_wp2_with (at_builtin; rw [← hW]; refine wpList_append_ran (by rfl) _ _ 27 (by rfl) _ _ _ _ (by rfl) (by rfl) HA.out ?_)
  go_wp2
  go_ret
  exact ⟨g, c', rfl, hg, hnc, HR.out, HB.out⟩

set_option maxRecDepth 100000 in
theorem grow_nil (n : Nat) (w : World) (hn : 1 ≤ n) (hl : n ≤ 140737488355328) :
    Calls Tryz.prog 161 #[.slice none 0 0, .int .i64 n] w fun e w' => ∃ g c, e = .returned (.slice (some ⟨g, 0, none⟩) 0 c) ∧ w'.ownsRow w.heap.size 5 1 (.slice (some ⟨g, 0, none⟩) 0 c) 0 [] ∧ Below w.heap.size w w' := by
  obtain ⟨i, hi, hzz⟩ := Option.map_eq_some_iff.1 info5
  simp only [Prod.mk.injEq] at hzz
  obtain ⟨hz, hs, hby⟩ := hzz
  have hrun := Lib.run_append_nil_zeros (P := Tryz.prog) w 27 3 27 5 i (.int .u8 0) .i64 .i64 Tryz.underlying27 Tryz.underlying3 hi hz n (by omega) (by omega) (by omega) (by rw [hby]; omega)
  have hge := grownCap_ge w n 0 5
  have hle := grownCap_le_maxLen w n 0 5 (by unfold maxLen; omega)
  obtain ⟨cap, hcap⟩ : ∃ cap, grownCap w n 0 5 = cap := ⟨_, rfl⟩
  rw [hcap] at hrun hge hle
  obtain ⟨W, hW⟩ : ∃ W, W = w.drew.alloc (.cells (Builtin.zeroCells (Value.int .u8 0).cells n ++ Builtin.zeroCells (Value.int .u8 0).cells (cap - n)) 5) := ⟨_, rfl⟩
  rw [← hW] at hrun
  have HO : Hid (W.ownsRow w.heap.size 5 1 (.slice (some ⟨w.heap.size, 0, none⟩) 0 cap) 0 []) := by
    refine ⟨by simp, .inr ⟨w.heap.size, cap, Builtin.zeroCells (Value.int .u8 0).cells n ++ Builtin.zeroCells (Value.int .u8 0).cells (cap - n), rfl, Nat.le_refl _, ?_, by omega, hle, ?_, by simp⟩⟩
    · rw [hW]; exact heap_alloc_new w.drew _
    · rw [Array.size_append, size_zeroCells, size_zeroCells]; simp [Value.cells]; omega
  have HB : Hid (Below w.heap.size w W) := by rw [hW]; exact (Below.refl _ _).drew.alloc (Nat.le_refl _) _
  have HA : Hid (Sem.run Tryz.prog (Builtin.append_ #[27, 3] 27 #[.slice none 0 0, .int .i64 n]) w = .ok (.slice (some ⟨w.heap.size, 0, none⟩) n cap) W) := hrun
  clear hrun hW hcap hz hs hby hi
  go_enter Tryz.func161, Tryz.ntmps161
  go_wp2_with (at_builtin; refine Lib.wpList_append_run _ (by rfl) _ _ 27 3 (by rfl) _ _ (by rfl) (by rfl) _ _ HA.out ?_)
  go_wp2
  go_ret
  exact ⟨_, _, rfl, HO.out, HB.out⟩
end Go.Proofs.YtebngmgdciahiaaGreatDoor.Rz

namespace Go.Proofs.YtebngmgdciahiaaGreatDoor.Rz
open Go.RowKit Gf
attribute [local go_sem ↓] Go.wp_at_zero Go.wp_at_succ

set_option maxRecDepth 100000 in
set_option maxHeartbeats 1000000 in
theorem concat_two (b l0 l1 c0 c1 : Nat) (a0 a1 : Option Addr) (f g : Nat → Nat) (w : World) (d0 : w.cell? ⟨b, 0, none⟩ = some (.slice a0 l0 c0)) (d1 : w.cell? ⟨b, 1, none⟩ = some (.slice a1 l1 c1)) (r0 : Row w a0 l0 f) (r1 : Row w a1 l1 g)
    (p0 : 1 ≤ l0) (p1 : 1 ≤ l1) (q0 : l0 ≤ 255) (q1 : l1 ≤ 255) :
    Calls Tryz.prog 154 #[.slice (some ⟨b, 0, none⟩) 2 2] w fun e w' => ∃ h c, e = .returned (.slice (some ⟨h, 0, none⟩) (l0 + l1) c) ∧ w.heap.size ≤ h ∧ l0 + l1 ≤ c ∧ Row w' (some ⟨h, 0, none⟩) (l0 + l1) (cat l0 f g) ∧ Below w.heap.size w w' := by
  have gr := grow_nil (l0 + l1) w (by omega) (by omega)
  have Bb : b < w.heap.size := block_lt_of_cell d0
  have R0 : Hid (Row w a0 l0 f) := r0
  have R1 : Hid (Row w a1 l1 g) := r1
  clear r0 r1
  go_enter Tryz.func154, Tryz.ntmps154
  go_wp2
  go_loop [3, 11] (fun s i => (s = .int .i64 0 ∧ i = .int .i64 0) ∨ (s = .int .i64 l0 ∧ i = .int .i64 1) ∨ (s = .int .i64 ((l0 + l1 : Nat) : Int) ∧ i = .int .i64 2)) (fun _ i => 2 - (intOf i).toNat)
  case atStart => exact .inl ⟨rfl, rfl⟩
  case round =>
    rcases hrel with ⟨rfl, rfl⟩ | ⟨rfl, rfl⟩ | ⟨rfl, rfl⟩
    · go_wp2
      go_round
      case rel => exact .inr (.inl ⟨by go_num, by go_num⟩)
      case measure => simp [intOf]
    · go_wp2
      go_round
      case rel => exact .inr (.inr ⟨by go_num, by go_num⟩)
      case measure => simp [intOf]
    · go_wp2_with fail
      go_at_call 161
      refine gr.mono ?_
      rintro e w1 ⟨g0, cg, rfl, hown, hb1⟩
      clear gr
      have HO : Hid (w1.ownsRow w.heap.size 5 1 (.slice (some ⟨g0, 0, none⟩) 0 cg) 0 []) := hown
      clear hown
      go_wp2
      go_loopw [6, 27] (fun v i wr => ((i = .int .i64 0 ∧ wr.ownsRow w.heap.size 5 1 v 0 (bs f 0)) ∨ (i = .int .i64 1 ∧ wr.ownsRow w.heap.size 5 1 v l0 (bs f l0)) ∨ (i = .int .i64 2 ∧ wr.ownsRow w.heap.size 5 1 v (l0 + l1) (bs (cat l0 f g) (l0 + l1)))) ∧ Below w.heap.size w wr) (fun _ i _ => 2 - (intOf i).toNat)
      case atStart => exact ⟨.inl ⟨rfl, HO.out⟩, hb1⟩
      case round =>
        obtain ⟨hcase, hb⟩ := hrel
        clear HO hb1
        have e0 := (hb.cell (p := ⟨b, 0, none⟩) Bb).trans d0
        have e1 := (hb.cell (p := ⟨b, 1, none⟩) Bb).trans d1
        clear d0 d1
        rcases hcase with ⟨rfl, own⟩ | ⟨rfl, own⟩ | ⟨rfl, own⟩
        · obtain ⟨v', W, hr, own', _, hbW⟩ := appendB (c := c0) own (R0.out.keep hb) p0 (by omega) hb.size
          have HA : Hid _ := hr
          rw [Nat.zero_add] at own'
          have HO : Hid (W.ownsRow w.heap.size 5 1 v' l0 (bs f l0)) := by
            have e : bs (cat 0 f f) l0 = bs f l0 := by
              unfold bs; apply List.map_congr_left; intro i _; unfold cat; rw [if_neg (by omega), Nat.sub_zero]
            exact e ▸ own'
          have HB : Hid (Below w.heap.size w W) := hb.trans hbW
          clear own own' hb hbW hr
          go_wp2_with (at_builtin; refine wpList_append_ran (by rfl) _ _ 27 (by rfl) _ _ _ _ (by rfl) (by rfl) HA.out ?_)
          go_wp2
          go_round
          case rel => exact ⟨.inr (.inl ⟨by go_num, HO.out⟩), HB.out⟩
          case measure => simp [intOf]
        · obtain ⟨v', W, hr, own', _, hbW⟩ := appendB (c := c1) own (R1.out.keep hb) p1 (by omega) hb.size
          have HA : Hid _ := hr
          have HO : Hid (W.ownsRow w.heap.size 5 1 v' (l0 + l1) (bs (cat l0 f g) (l0 + l1))) := own'
          have HB : Hid (Below w.heap.size w W) := hb.trans hbW
          clear own own' hb hbW hr
          go_wp2_with (at_builtin; refine wpList_append_ran (by rfl) _ _ 27 (by rfl) _ _ _ _ (by rfl) (by rfl) HA.out ?_)
          go_wp2
          go_round
          case rel => exact ⟨.inr (.inr ⟨by go_num, HO.out⟩), HB.out⟩
          case measure => simp [intOf]
        · obtain ⟨h, c, rfl, hh, hnc, hrow⟩ := ownB_row own (by omega) (cat_lt R0.out.lt R1.out.lt)
          have HR : Hid (Row wr (some ⟨h, 0, none⟩) (l0 + l1) (cat l0 f g)) := hrow
          clear own hrow
          go_wp2
          go_ret
          exact ⟨h, c, rfl, hh, hnc, HR.out, hb⟩

/-- Rows that are being laid: k are there, the other headers are nil yet. -/
def Lay (w : World) (h n l k : Nat) (F : Nat → Nat → Nat) : Prop :=
  ∃ (A : Nat → Option Addr) (C : Nat → Nat), (∀ i, i < k → w.cell? ⟨h, i, none⟩ = some (.slice (A i) l (C i)) ∧ Row w (A i) l (F i) ∧ (A i = none → l = 0 ∧ C i = 0) ∧ l ≤ C i) ∧ (∀ i, i < n → k ≤ i → w.cell? ⟨h, i, none⟩ = some (.slice none 0 0)) ∧ ∀ i, i < n → w.frozen? ⟨h, i, none⟩ = false

theorem Lay.start (w : World) (n l : Nat) (F : Nat → Nat → Nat) : Lay (w.alloc (.cells (madeCells #[.slice none 0 0] n) 27)) w.heap.size n l 0 F := by
  refine ⟨fun _ => none, fun _ => 0, fun i hi => absurd hi (by omega), fun i hi _ => ?_, fun i _ => World.frozen?_alloc_new _ _ _ _⟩
  rw [World.cell?_alloc_new, ← Array.getElem?_toList, toList_madeCells_one, List.getElem?_replicate, if_pos (by omega)]
theorem Lay.keep {w w' : World} {h n l k : Nat} {F : Nat → Nat → Nat} (o : Lay w h n l k F) (hb : Below w.heap.size w w') (hk : k < n) : Lay w' h n l k F := by
  obtain ⟨A, C, p, q, s⟩ := o
  have hh : h < w.heap.size := block_lt_of_cell (q k hk (Nat.le_refl _))
  exact ⟨A, C, fun i hi => ⟨(hb.cell (p := ⟨h, i, none⟩) hh).trans (p i hi).1, (p i hi).2.1.keep hb, (p i hi).2.2⟩, fun i hi hki => (hb.cell (p := ⟨h, i, none⟩) hh).trans (q i hi hki), fun i hi => (hb.frozen (p := ⟨h, i, none⟩) hh).trans (s i hi)⟩
theorem Lay.next {w : World} {h n l k : Nat} {F : Nat → Nat → Nat} (o : Lay w h n l k F) (hk : k < n) : w.cell? ⟨h, k, none⟩ = some (.slice none 0 0) ∧ w.frozen? ⟨h, k, none⟩ = false := by
  obtain ⟨A, C, p, q, s⟩ := o
  exact ⟨q k hk (Nat.le_refl _), s k hk⟩
theorem Lay.step {w : World} {h n l k c : Nat} {F : Nat → Nat → Nat} {a : Addr} {f : Nat → Nat} (o : Lay w h n l k F) (hk : k < n) (r : Row w (some a) l f) (hlc : l ≤ c) (hF : B F) (e1 : ∀ j, j < l → f j = F k j) : Lay (w.setCell ⟨h, k, none⟩ (.slice (some a) l c)) h n l (k + 1) F := by
  obtain ⟨A, C, p, q, s⟩ := o
  have ck := q k hk (Nat.le_refl _)
  refine ⟨fun i => if i = k then some a else A i, fun i => if i = k then c else C i, fun i hi => ?_, fun i hi hki => ?_, fun i hi => ?_⟩
  · dsimp only
    by_cases e : i = k
    · subst e
      rw [if_pos rfl, if_pos rfl]
      refine ⟨cell_same ck, ⟨hF i, fun hn => ?_⟩, fun e => (by cases e), hlc⟩
      obtain ⟨b, o, q, hr⟩ := (r.hset ck _).lies hn
      exact ⟨b, o, q, fun j hj => by rw [hr j hj, e1 j hj]⟩
    · rw [if_neg e, if_neg e]
      have := p i (by omega)
      exact ⟨by rw [cell_other (fun q => e q.symm)]; exact this.1, this.2.1.hset ck _, this.2.2⟩
  · rw [cell_other (by omega)]; exact q i hi (by omega)
  · rw [World.frozen?_setCell]; exact s i hi
theorem Lay.done {w : World} {h n l : Nat} {F : Nat → Nat → Nat} (o : Lay w h n l n F) (hl : l ≤ 9223372036854775807) (hF : B F) : Out w h n l F := by
  obtain ⟨A, C, p, q, s⟩ := o
  exact ⟨A, C, ⟨fun _ => ⟨h, 0, rfl, fun i hi => by rw [Nat.zero_add]; exact (p i hi).1⟩, fun i hi => (p i hi).2.1, fun i hi => (p i hi).2.2.1, fun _ => hl, hF⟩, s, fun i hi => (p i hi).2.2.2⟩

set_option maxRecDepth 100000 in
set_option maxHeartbeats 1000000 in
theorem columns_any (a : Option Addr) (n l k0 c : Nat) (A : Nat → Option Addr) (C : Nat → Nat) (F : Nat → Nat → Nat) (w : World) (h : Mat w a n A (fun _ => l) C F) (n1 : 1 ≤ n) (n2 : n ≤ 255) (hk0 : k0 < l) (hl : l ≤ 510) (hC : ∀ i, i < n → l ≤ C i) :
    Calls Tryz.prog 136 #[.slice a n c, .int .i64 k0] w fun e w' => ∃ h, e = .returned (.slice (some ⟨h, 0, none⟩) n n) ∧ w.heap.size ≤ h ∧ Out w' h n (l - k0) (fun i j => F i (k0 + j)) ∧ Below w.heap.size w w' := by
  have mk1 := run_make_row' (P := Tryz.prog) 143 27 (.slice none 0 0) 24 Tryz.underlying143 info27 rfl .i64 .i64 n (by omega) (by omega)
  obtain ⟨b, o, rfl, hc⟩ := h.lies (by omega)
  have H : Hid (Mat w (some ⟨b, o, none⟩) n A (fun _ => l) C F) := h
  have HC : Hid (∀ i, i < n → w.cell? ⟨b, o + i, none⟩ = some (.slice (A i) l (C i))) := hc
  have Bb : b < w.heap.size := block_lt_of_cell (hc 0 (by omega))
  have HCC : Hid (∀ i, i < n → l ≤ C i) := hC
  clear h hc hC
  go_enter Tryz.func136, Tryz.ntmps136
  go_wp2
  clear mk1
  go_loopw [13] (fun v wr => ∃ k : Nat, k ≤ n ∧ v = .int .i64 k ∧ Lay wr w.heap.size n (l - k0) k (fun i j => F i (k0 + j)) ∧ Below w.heap.size w wr) (fun v _ => n - (intOf v).toNat)
  case atStart => exact ⟨0, by omega, rfl, Lay.start w n _ _, (Below.refl _ _).alloc (Nat.le_refl _) _⟩
  case round =>
    obtain ⟨k, hk, rfl, ho, hb⟩ := hrel
    by_cases hlt : k < n
    · have ik : (k : Int) < (n : Int) := by omega
      have ck := (hb.cell (p := ⟨b, o + k, none⟩) Bb).trans (HC.out k hlt)
      have hcap := HCC.out k hlt
      have hrow := (H.out.row k hlt).keep hb
      have lF := H.out.lt
      obtain ⟨b1, o1, hA, hr⟩ := hrow.lies (by omega)
      rw [hA] at ck
      have hrow2 : Row wr (some ⟨b1, o1 + k0, none⟩) (l - k0) (fun j => F k (k0 + j)) := ⟨fun j => lF _ _, fun _ => ⟨b1, o1 + k0, rfl, fun j hj => by rw [Nat.add_assoc]; exact hr (k0 + j) (by omega)⟩⟩
      have cl := clone_any (some ⟨b1, o1 + k0, none⟩) (l - k0) (C k - k0) _ wr hrow2 (by omega) (by omega)
      have K : Hid (Calls Tryz.prog 157 #[.slice (some ⟨b1, o1 + k0, none⟩) (l - k0) (C k - k0)] wr fun e w' => ∃ g c', e = .returned (.slice (some ⟨g, 0, none⟩) (l - k0) c') ∧ w'.cell? ⟨w.heap.size, k, none⟩ = some (.slice none 0 0) ∧ w'.frozen? ⟨w.heap.size, k, none⟩ = false ∧
          Lay (w'.setCell ⟨w.heap.size, k, none⟩ (.slice (some ⟨g, 0, none⟩) (l - k0) c')) w.heap.size n (l - k0) (k + 1) (fun i j => F i (k0 + j)) ∧ Below w.heap.size w (w'.setCell ⟨w.heap.size, k, none⟩ (.slice (some ⟨g, 0, none⟩) (l - k0) c'))) := by
        refine cl.mono ?_
        rintro e w' ⟨g, c', rfl, hg, hnc, hrw, hbw⟩
        have ho' := ho.keep hbw hlt
        exact ⟨g, c', rfl, (ho'.next hlt).1, (ho'.next hlt).2, ho'.step hlt hrw hnc (fun i j => lF _ _) (fun j _ => rfl), (hb.trans (hbw.mono hb.size)).setCell (Nat.le_refl _) _⟩
      have ik0 : (k0 : Int) ≤ (l : Int) := by omega
      clear hr hrow hrow2 cl lF ho hb hA H HC HCC
      generalize C k = cck at *
      go_wp2_with fail
      go_at_call 157
      refine K.out.mono ?_
      rintro e w' ⟨g, c', rfl, y1, y2, y3, y4⟩
      go_wp2
      go_round
      case rel => exact ⟨k + 1, by omega, by go_num, y3, y4⟩
      case measure => simp [intOf]; omega
    · have : k = n := by omega
      subst this
      have HE : Hid (Out wr w.heap.size k (l - k0) (fun i j => F i (k0 + j))) := ho.done (by omega) (fun i j => H.out.lt _ _)
      clear ho
      go_wp2
      go_ret
      exact ⟨_, rfl, Nat.le_refl _, HE.out, hb⟩

theorem two_cells (w : World) (u v : Value) : (w.alloc (.cells #[u, v] 27)).cell? ⟨w.heap.size, 0, none⟩ = some u ∧ (w.alloc (.cells #[u, v] 27)).cell? ⟨w.heap.size, 1, none⟩ = some v := by
  constructor <;> rw [World.cell?_alloc_new] <;> rfl

set_option maxRecDepth 100000 in
set_option maxHeartbeats 2000000 in
theorem beside_any (a a' : Option Addr) (n l l' c c' : Nat) (A A' : Nat → Option Addr) (C C' : Nat → Nat) (F G : Nat → Nat → Nat) (w : World) (h : Mat w a n A (fun _ => l) C F) (h' : Mat w a' n A' (fun _ => l') C' G) (n1 : 1 ≤ n) (n2 : n ≤ 255) (l1 : 1 ≤ l) (l2 : l ≤ 255) (k1 : 1 ≤ l') (k2 : l' ≤ 255) :
    Calls Tryz.prog 133 #[.slice a n c, .slice a' n c'] w fun e w' => ∃ h, e = .returned (.slice (some ⟨h, 0, none⟩) n n) ∧ w.heap.size ≤ h ∧ Out w' h n (l + l') (fun i => cat l (F i) (G i)) ∧ Below w.heap.size w w' := by
  have mk1 := run_make_row' (P := Tryz.prog) 143 27 (.slice none 0 0) 24 Tryz.underlying143 info27 rfl .i64 .i64 n (by omega) (by omega)
  obtain ⟨b, o, rfl, hc⟩ := h.lies (by omega)
  obtain ⟨b', o', rfl, hc'⟩ := h'.lies (by omega)
  have H : Hid (Mat w (some ⟨b, o, none⟩) n A (fun _ => l) C F) := h
  have H' : Hid (Mat w (some ⟨b', o', none⟩) n A' (fun _ => l') C' G) := h'
  have HC : Hid (∀ i, i < n → w.cell? ⟨b, o + i, none⟩ = some (.slice (A i) l (C i))) := hc
  have HC' : Hid (∀ i, i < n → w.cell? ⟨b', o' + i, none⟩ = some (.slice (A' i) l' (C' i))) := hc'
  have Bb : b < w.heap.size := block_lt_of_cell (hc 0 (by omega))
  have Bb' : b' < w.heap.size := block_lt_of_cell (hc' 0 (by omega))
  have HF : Hid (B (fun i => cat l (F i) (G i))) := fun i j => cat_lt (h.lt i) (h'.lt i) j
  clear h hc h' hc'
  go_enter Tryz.func133, Tryz.ntmps133
  go_wp2
  clear mk1
  go_loopw [12] (fun v wr => ∃ k : Nat, k ≤ n ∧ v = .int .i64 k ∧ Lay wr w.heap.size n (l + l') k (fun i => cat l (F i) (G i)) ∧ Below w.heap.size w wr) (fun v _ => n - (intOf v).toNat)
  case atStart => exact ⟨0, by omega, rfl, Lay.start w n _ _, (Below.refl _ _).alloc (Nat.le_refl _) _⟩
  case round =>
    obtain ⟨k, hk, rfl, ho, hb⟩ := hrel
    by_cases hlt : k < n
    · have ik : (k : Int) < (n : Int) := by omega
      have ck := (hb.cell (p := ⟨b, o + k, none⟩) Bb).trans (HC.out k hlt)
      have ck' := (hb.cell (p := ⟨b', o' + k, none⟩) Bb').trans (HC'.out k hlt)
      have hbA : Below wr.heap.size wr (wr.drew.alloc (.cells #[.slice (A k) l (C k), .slice (A' k) l' (C' k)] 27)) := (Below.refl _ _).drew.alloc (Nat.le_refl _) _
      have tc := two_cells wr.drew (.slice (A k) l (C k)) (.slice (A' k) l' (C' k))
      have cl := concat_two wr.heap.size l l' (C k) (C' k) (A k) (A' k) (F k) (G k) _ tc.1 tc.2 (((H.out.row k hlt).keep hb).keep hbA) (((H'.out.row k hlt).keep hb).keep hbA) l1 k1 l2 k2
      have K : Hid (Calls Tryz.prog 154 #[.slice (some ⟨wr.heap.size, 0, none⟩) 2 2] (wr.drew.alloc (.cells #[.slice (A k) l (C k), .slice (A' k) l' (C' k)] 27)) fun e w' => ∃ g c', e = .returned (.slice (some ⟨g, 0, none⟩) (l + l') c') ∧ w'.cell? ⟨w.heap.size, k, none⟩ = some (.slice none 0 0) ∧ w'.frozen? ⟨w.heap.size, k, none⟩ = false ∧
          Lay (w'.setCell ⟨w.heap.size, k, none⟩ (.slice (some ⟨g, 0, none⟩) (l + l') c')) w.heap.size n (l + l') (k + 1) (fun i => cat l (F i) (G i)) ∧ Below w.heap.size w (w'.setCell ⟨w.heap.size, k, none⟩ (.slice (some ⟨g, 0, none⟩) (l + l') c'))) := by
        refine cl.mono ?_
        rintro e w' ⟨g, c', rfl, hg, hnc, hrw, hbw⟩
        have hb2 : Below wr.heap.size wr w' := hbA.trans (hbw.mono hbA.size)
        have ho' := ho.keep hb2 hlt
        exact ⟨g, c', rfl, (ho'.next hlt).1, (ho'.next hlt).2, ho'.step hlt hrw hnc HF.out (fun j _ => rfl), (hb.trans (hb2.mono hb.size)).setCell (Nat.le_refl _) _⟩
      clear cl tc hbA ho hb H HC H' HC' HF
      generalize C k = cck at *
      generalize C' k = cck' at *
      generalize A k = ak at *
      generalize A' k = ak' at *
      go_wp2
      go_region_with (go_at_call 154; refine K.out.mono ?_; rintro e w' ⟨g, c', rfl, y1, y2, y3, y4⟩)
      all_goals
        go_wp2
        go_round
        case rel => exact ⟨k + 1, by omega, by go_num, y3, y4⟩
        case measure => simp [intOf]; omega
    · have : k = n := by omega
      subst this
      have HE : Hid (Out wr w.heap.size k (l + l') (fun i => cat l (F i) (G i))) := ho.done (by omega) HF.out
      clear ho
      go_wp2
      go_ret
      exact ⟨_, rfl, Nat.le_refl _, HE.out, hb⟩
end Go.Proofs.YtebngmgdciahiaaGreatDoor.Rz

namespace Go.Proofs.YtebngmgdciahiaaGreatDoor.Rz.Gf

/-- The columns from n on. -/
def hi (n : Nat) (W : Nat → Nat → Nat) : Nat → Nat → Nat := fun i j => W i (n + j)
theorem hi_swp (n c p : Nat) (W : Nat → Nat → Nat) : hi n (swp c p W) = swp c p (hi n W) := by
  funext i j; unfold hi swp; split; rfl; split <;> rfl
/-- The first k rows, but c, rid of what they have in column c. -/
def stp (c k : Nat) (W : Nat → Nat → Nat) : Nat → Nat → Nat := fun i j => if i ≠ c ∧ i < k then W i j ^^^ M (W i c) (W c j) else W i j
theorem stp_zero (c : Nat) (W : Nat → Nat → Nat) : stp c 0 W = W := by
  funext i j; unfold stp; rw [if_neg (by omega)]
theorem stp_own (c : Nat) (W : Nat → Nat → Nat) : stp c (c + 1) W = stp c c W := by
  funext i j; unfold stp
  by_cases h : i ≠ c ∧ i < c
  · rw [if_pos h, if_pos (by omega)]
  · rw [if_neg h, if_neg (by omega)]
theorem stp_succ {c k : Nat} (W : Nat → Nat → Nat) (h : k ≠ c) : stp c (k + 1) W = addr k c (W k c) (stp c k W) := by
  funext i j; unfold addr
  have e1 : stp c k W c j = W c j := by unfold stp; rw [if_neg (by omega)]
  have e2 : stp c k W k j = W k j := by unfold stp; rw [if_neg (by omega)]
  rw [e1, e2]
  by_cases e : i = k
  · subst e; rw [if_pos rfl]; unfold stp; rw [if_pos ⟨h, by omega⟩]
  · rw [if_neg e]; unfold stp
    by_cases q : i ≠ c ∧ i < k
    · rw [if_pos q, if_pos (by omega)]
    · rw [if_neg q, if_neg (by omega)]
theorem elim_stp {n c : Nat} {a W : Nat → Nat → Nat} (h : Elim n a W (hi n W)) (ha : B a) (hc : c < n) : ∀ k, k ≤ n → Elim n a (stp c k W) (hi n (stp c k W)) := by
  intro k
  induction k with
  | zero => intro _; rw [stp_zero]; exact h
  | succ k ih =>
    intro hk
    have e := ih (by omega)
    by_cases q : k = c
    · subst q; rw [stp_own]; exact e
    · rw [stp_succ W q]
      exact Elim.add e ha (by omega) hc q (h.bx k c)
/-- Column c cleared, with row p put at its place. -/
def clr (n c p : Nat) (W : Nat → Nat → Nat) : Nat → Nat → Nat := stp c n (scl c (inv (W p c)) (swp c p W))
theorem elim_clr {n c p : Nat} {a W : Nat → Nat → Nat} (h : Elim n a W (hi n W)) (ha : B a) (hc : c < n) (hp : p < n) : Elim n a (clr n c p W) (hi n (clr n c p W)) := by
  have e1 := h.swap hc hp
  rw [← hi_swp] at e1
  have e2 := e1.scale (c := c) (f := inv (W p c)) ha (inv_lt _) (E_pos _)
  exact elim_stp e2 ha hc n (Nat.le_refl _)
theorem swp_B {c p : Nat} {W : Nat → Nat → Nat} (h : B W) : B (swp c p W) := fun i j => by
  unfold swp; split; exact h _ _; split <;> exact h _ _
theorem scl_B {c f : Nat} {W : Nat → Nat → Nat} (h : B W) : B (scl c f W) := fun i j => by
  unfold scl; split; exact M_lt _ (h _ _); exact h _ _
theorem stp_B {c k : Nat} {W : Nat → Nat → Nat} (h : B W) : B (stp c k W) := fun i j => by
  unfold stp; split; exact xor_lt (h _ _) (M_lt _ (h _ _)); exact h _ _
theorem clr_red {n c p : Nat} {W : Nat → Nat → Nat} (hB : B W) (hred : ∀ i, i < n → ∀ j, j < c → W i j = one i j) (hcp : c ≤ p) (hp : p < n) (hne : W p c ≠ 0) : ∀ i, i < n → ∀ j, j < c + 1 → clr n c p W i j = one i j := by
  have hc : c < n := by omega
  -- the exchanged and scaled rows
  have s1 : ∀ i, i < n → ∀ j, j < c → scl c (inv (W p c)) (swp c p W) i j = one i j := by
    intro i hi j hj
    unfold scl
    have zc : swp c p W c j = 0 := by
      unfold swp; rw [if_pos rfl, hred p hp j hj]; unfold one; rw [if_neg (by omega)]
    by_cases e : i = c
    · subst e; rw [if_pos rfl, zc, M_zero_left]; unfold one; rw [if_neg (by omega)]
    · rw [if_neg e]; unfold swp; rw [if_neg e]
      by_cases q : i = p
      · rw [if_pos q, hred c hc j hj]; unfold one; rw [if_neg (by omega), if_neg (by omega)]
      · rw [if_neg q]; exact hred i hi j hj
  have s2 : scl c (inv (W p c)) (swp c p W) c c = 1 := by
    unfold scl swp; rw [if_pos rfl, if_pos rfl]; exact M_inv (hB p c) (by omega)
  have bS : ∀ i j, scl c (inv (W p c)) (swp c p W) i j < 256 := fun i j => by
    unfold scl swp
    split
    · rw [if_pos rfl]; exact M_lt _ (hB _ _)
    · split
      · exact hB _ _
      · exact hB _ _
  unfold clr
  generalize scl c (inv (W p c)) (swp c p W) = S at *
  intro i hi j hj
  unfold stp
  by_cases e : i = c
  · subst e
    rw [if_neg (by omega)]
    by_cases q : j = i
    · subst q; rw [s2]; unfold one; rw [if_pos rfl]
    · exact s1 i hi j (by omega)
  · rw [if_pos ⟨e, hi⟩]
    by_cases q : j = c
    · subst q
      rw [s2, M_one_right (bS i j), Nat.xor_self]; unfold one; rw [if_neg e]
    · rw [s1 c hc j (by omega), s1 i hi j (by omega)]
      have z : one c j = 0 := by unfold one; rw [if_neg (by omega)]
      rw [z, M_zero_right, Nat.xor_zero]
end Go.Proofs.YtebngmgdciahiaaGreatDoor.Rz.Gf

namespace Go.Proofs.YtebngmgdciahiaaGreatDoor.Rz
open Go.RowKit Gf
attribute [local go_sem ↓] Go.wp_at_zero Go.wp_at_succ

set_option maxRecDepth 100000 in
set_option maxHeartbeats 1000000 in
theorem pivot_any (h n l c c0 : Nat) (A : Nat → Option Addr) (C : Nat → Nat) (W : Nat → Nat → Nat) (w : World) (m : Mat w (some ⟨h, 0, none⟩) n A (fun _ => l) C W) (hn : n ≤ 255) (hc : c < n) (hl : c < l) :
    Calls Tryz.prog 155 #[.slice (some ⟨h, 0, none⟩) n c0, .int .i64 c] w fun e w' => ((∃ p : Nat, e = .returned (.tuple #[.int .i64 p, .bool true]) ∧ c ≤ p ∧ p < n ∧ W p c ≠ 0) ∨ (e = .returned (.tuple #[.int .i64 0, .bool false]) ∧ ∀ r, r < n → c ≤ r → W r c = 0)) ∧ w = w' := by
  have HM : Hid (Mat w (some ⟨h, 0, none⟩) n A (fun _ => l) C W) := m
  clear m
  go_enter Tryz.func155, Tryz.ntmps155
  go_wp2
  go_loop [6] (fun v => ∃ k : Nat, c ≤ k ∧ k ≤ n ∧ v = .int .i64 k ∧ ∀ r, r < k → c ≤ r → W r c = 0) (fun v => n - (intOf v).toNat)
  case atStart => exact ⟨c, Nat.le_refl _, by omega, rfl, fun r h1 h2 => by omega⟩
  case round =>
    obtain ⟨k, hck, hk, rfl, hz⟩ := hrel
    by_cases hlt : k < n
    · have ik : (k : Int) < (n : Int) := by omega
      have ic : (c : Int) < (l : Int) := by omega
      have ck := HM.out.cellAt hlt
      obtain ⟨b, o, hA, hr⟩ := (HM.out.row k hlt).lies (by omega)
      rw [hA] at ck
      have ckc := hr c hl
      have lW := HM.out.lt k c
      have HZ : Hid (∀ r, r < k → c ≤ r → W r c = 0) := hz
      clear hr hA hz HM
      generalize C k = cc at ck
      by_cases hw : W k c = 0
      · rw [hw] at ckc
        go_wp2
        go_round
        case rel => exact ⟨k + 1, by omega, by omega, by go_num, fun r h1 h2 => by
          by_cases e : r = k
          · rw [e]; exact hw
          · exact HZ.out r (by omega) h2⟩
        case measure => simp [intOf]; omega
      · have HW : Hid (W k c ≠ 0) := hw
        have hx0 : ((W k c : Nat) : Int) ≠ 0 := by omega
        clear hw
        generalize W k c = x at ckc lW hx0
        go_wp2
        go_ret2
        exact ⟨.inl ⟨k, rfl, hck, hlt, HW.out⟩, rfl⟩
    · have : k = n := by omega
      subst this
      have HZ : Hid (∀ r, r < k → c ≤ r → W r c = 0) := hz
      clear hz
      go_wp2
      go_ret2
      exact ⟨.inr ⟨rfl, HZ.out⟩, rfl⟩

theorem Out.drewN {w : World} {h n l : Nat} {F : Nat → Nat → Nat} (o : Out w h n l F) (k : Nat) : Out (w.drewN k) h n l F := by
  obtain ⟨A, C, m, s, q⟩ := o
  exact ⟨A, C, m.drewN k, s, q⟩
theorem Out.lt {w : World} {h n l : Nat} {F : Nat → Nat → Nat} (o : Out w h n l F) : B F := by
  obtain ⟨A, C, m, s, q⟩ := o
  exact m.lt
theorem made_row (w : World) (n : Nat) : Row (w.alloc (.cells (madeCells #[.int .u8 0] n) 5)) (some ⟨w.heap.size, 0, none⟩) n (fun _ => 0) := by
  refine ⟨fun _ => by omega, fun _ => ⟨w.heap.size, 0, rfl, fun i hi => ?_⟩⟩
  rw [Nat.zero_add, World.cell?_alloc_new, ← Array.getElem?_toList, toList_madeCells_one, List.getElem?_replicate, if_pos (by omega)]
  rfl

/-- Two headers exchanged. -/
theorem Mat.swap {w : World} {h n l c p : Nat} {A : Nat → Option Addr} {C : Nat → Nat} {W : Nat → Nat → Nat} (m : Mat w (some ⟨h, 0, none⟩) n A (fun _ => l) C W) (s : ∀ i, i < n → w.frozen? ⟨h, i, none⟩ = false) (q : ∀ i, i < n → l ≤ C i) (hc : c < n) (hp : p < n) :
    Out ((w.setCell ⟨h, c, none⟩ (.slice (A p) l (C p))).setCell ⟨h, p, none⟩ (.slice (A c) l (C c))) h n l (swp c p W) := by
  have o : Out w h n l W := ⟨A, C, m, s, q⟩
  have o1 := o.set (G := fun i => if i = c then W p else W i) hc (m.row p hp) (m.nil p hp) (q p hp) (fun i j => by dsimp only; split <;> exact m.lt _ _) (fun j _ => by rw [if_pos rfl]) (fun i _ hne j _ => by rw [if_neg hne])
  refine o1.set hp ((m.row c hc).hset (m.cellAt hc) _) (m.nil c hc) (q c hc) (swp_B m.lt) (fun j _ => ?_) (fun i _ hne j _ => ?_)
  · unfold swp
    by_cases e : p = c
    · subst e; rw [if_pos rfl]
    · rw [if_neg e, if_pos rfl]
  · unfold swp
    by_cases e : i = c
    · rw [if_pos e, if_pos e]
    · rw [if_neg e, if_neg e, if_neg hne]

set_option maxRecDepth 100000 in
set_option maxHeartbeats 4000000 in
theorem clear_any (b h n l c c0 : Nat) (W : Nat → Nat → Nat) (w : World) (ht : Tab w b) (o : Out w h n l W) (hn : n ≤ 255) (hc : c < n) (hl : c < l) (hl2 : l ≤ 510) (hbh : b < h) :
    Calls Tryz.prog 135 #[.pointer (some ⟨b, 0, none⟩), .slice (some ⟨h, 0, none⟩) n c0, .int .i64 c] w fun e w' =>
      ((e = .returned (.bool false) ∧ ∀ r, r < n → c ≤ r → W r c = 0) ∨ (e = .returned (.bool true) ∧ ∃ p, c ≤ p ∧ p < n ∧ W p c ≠ 0 ∧ Out w' h n l (clr n c p W))) ∧ Below h w w' := by
  obtain ⟨A, C, m, s, q⟩ := o
  have cP := pivot_any h n l c c0 A C W w m hn hc hl
  have hh : h < w.heap.size := block_lt_of_cell (m.cellAt hc)
  have HT : Hid (Tab w b) := ht
  have HM : Hid (Mat w (some ⟨h, 0, none⟩) n A (fun _ => l) C W) := m
  have HS : Hid (∀ i, i < n → w.frozen? ⟨h, i, none⟩ = false) := s
  have HQ : Hid (∀ i, i < n → l ≤ C i) := q
  have mk := run_make_row' (P := Tryz.prog) 27 5 (.int .u8 0) 1 Tryz.underlying27 info5 rfl .i64 .i64 l (by omega) (by omega)
  have ic : (c : Int) < (n : Int) := by omega
  have icl : (c : Int) < (l : Int) := by omega
  clear ht m s q
  go_enter Tryz.func135, Tryz.ntmps135
  go_wp2_with fail
  go_at_call 155
  refine cP.mono ?_
  rintro e w' ⟨hcase, rfl⟩
  clear cP
  rcases hcase with ⟨p, rfl, hcp, hp, hne⟩ | ⟨rfl, hz⟩
  · have ip : (p : Int) < (n : Int) := by omega
    have HN : Hid (W p c ≠ 0) := hne
    clear hne
    have kc := HM.out.cellAt hc
    have kp := HM.out.cellAt hp
    have fc := HS.out c hc
    have fp := HS.out p hp
    have kcp : ∃ u, (w.setCell ⟨h, c, none⟩ (.slice (A p) l (C p))).cell? ⟨h, p, none⟩ = some u := by
      by_cases e : p = c
      · subst e
        exact ⟨_, cell_same kc⟩
      · exact ⟨_, (cell_other (fun q => e q.symm)).trans kp⟩
    obtain ⟨u, ku⟩ := kcp
    have H2 : Hid (Out ((w.setCell ⟨h, c, none⟩ (.slice (A p) l (C p))).setCell ⟨h, p, none⟩ (.slice (A c) l (C c))).drew h n l (swp c p W) ∧ Below h w ((w.setCell ⟨h, c, none⟩ (.slice (A p) l (C p))).setCell ⟨h, p, none⟩ (.slice (A c) l (C c))).drew) :=
      ⟨(HM.out.swap HS.out HQ.out hc hp).drewN 1, (((Below.refl h w).setCell (Nat.le_refl _) _).setCell (Nat.le_refl _) _).drew⟩
    go_upto_region 4 with fail
    generalize A p = ap at *
    generalize A c = ac at *
    generalize C p = xp at *
    generalize C c = xc at *
    go_cut [] (fun wx => Out wx h n l (swp c p W) ∧ Below h w wx)
    case first =>
      go_region
      all_goals (go_wp2_with fail; go_meet; exact H2.out)
    case rest =>
    obtain ⟨o1, hb1⟩ := hcut
    clear H2 HM HS HQ kc kp fc fp ku
    have lS := o1.lt
    obtain ⟨A1, C1, m1, s1, q1⟩ := o1
    have O1 : Hid (Out wc h n l (swp c p W)) := ⟨A1, C1, m1, s1, q1⟩
    have k1 := m1.cellAt hc
    have R1 := m1.row c hc
    obtain ⟨bc, oc, hA1, hr1⟩ := R1.lies (by omega)
    rw [hA1] at k1 R1
    have k2 := hr1 c hl
    have ex : swp c p W c c = W p c := by unfold swp; rw [if_pos rfl]
    have lx := lS c c
    rw [ex] at k2 lx
    have hT := HT.out.keep hb1 hbh
    have cI := inv_any b (W p c) wc hT lx
    have x0 : 0 < W p c := by have := HN.out; omega
    rw [dv_one x0] at cI
    have lf := inv_lt (W p c)
    have hD : decide (0 < W p c) = true := decide_eq_true x0
    rw [hD] at cI
    obtain ⟨x, hx⟩ : ∃ x, W p c = x := ⟨_, rfl⟩
    obtain ⟨f, hf⟩ : ∃ f, inv (W p c) = f := ⟨_, rfl⟩
    have HF : Hid (inv (W p c) = f) := hf
    rw [hf] at lf cI
    rw [hx] at cI k2 lx x0
    have F1 := s1 c hc
    have hhc : h < wc.heap.size := block_lt_of_cell k1
    have HK : Hid (∀ w3, Below wc.heap.size wc w3 → ∃ W4, Sem.run Tryz.prog (Instr.makeSlice 27 (.int .i64 (l : Int)) (.int .i64 (l : Int))) w3 = .ok (.slice (some ⟨w3.heap.size, 0, none⟩) l l) W4 ∧ W4.cell? ⟨h, c, none⟩ = some (.slice (some ⟨bc, oc, none⟩) l (C1 c)) ∧
        Calls Tryz.prog 138 #[.pointer (some ⟨b, 0, none⟩), .slice (some ⟨w3.heap.size, 0, none⟩) l l, .slice (some ⟨bc, oc, none⟩) l (C1 c), .int .u8 ((f : Nat) : Int)] W4 fun e w' =>
        ∃ y, e = .returned (.slice (some ⟨y, 0, none⟩) l l) ∧ w'.cell? ⟨h, c, none⟩ = some (.slice (some ⟨bc, oc, none⟩) l (C1 c)) ∧ w'.frozen? ⟨h, c, none⟩ = false ∧ Out (w'.setCell ⟨h, c, none⟩ (.slice (some ⟨y, 0, none⟩) l l)) h n l (scl c f (swp c p W)) ∧ Below h w (w'.setCell ⟨h, c, none⟩ (.slice (some ⟨y, 0, none⟩) l l))) := by
      intro w3 hb3'
      have hbA : Below wc.heap.size wc (w3.alloc (.cells (madeCells #[.int .u8 0] l) 5)) := hb3'.alloc hb3'.size _
      refine ⟨_, mk w3, (hbA.cell (p := ⟨h, c, none⟩) hhc).trans k1, ?_⟩
      refine (mulAdd_row b f l l l (C1 c) (some ⟨w3.heap.size, 0, none⟩) (some ⟨bc, oc, none⟩) (fun _ => 0) (swp c p W c) _ (hT.keep hbA (by omega)) lf (made_row w3 l) (R1.keep hbA) (by omega) (by omega)).mono ?_
      rintro e w' ⟨rfl, hrow, hbel⟩
      have hb3 : Below wc.heap.size wc w' := hbA.trans (hbel.mono hbA.size)
      refine ⟨_, rfl, (hb3.cell (p := ⟨h, c, none⟩) hhc).trans k1, (hb3.frozen (p := ⟨h, c, none⟩) hhc).trans F1, ?_, (hb1.trans (hb3.mono (by omega))).setCell (Nat.le_refl _) _⟩
      refine (O1.out.keep hb3).set hc hrow (fun e => by cases e) (Nat.le_refl _) (scl_B lS) (fun j hj => ?_) fun i hi hne j hj => ?_
      · unfold ad scl; rw [if_pos hj, if_pos rfl, Nat.zero_xor, M_comm lf (lS c j)]
      · unfold scl; rw [if_neg hne]
    clear m1 s1 q1 hA1 hr1 R1 ex hT lS hD hx hf O1 mk
    generalize C1 c = xc1 at *
    go_wp2_with fail
    go_at_call 156
    refine cI.mono ?_
    rintro e w2 ⟨rfl, nI, rfl⟩
    clear cI k2
    obtain ⟨W4, mk4, kc4, K4⟩ := HK.out (wc.drewN nI).drew (below_drewN (Below.refl _ _) nI).drew
    have k13 : (wc.drewN nI).cell? ⟨h, c, none⟩ = some (.slice (some ⟨bc, oc, none⟩) l xc1) := k1
    have hb13 : Below h w (wc.drewN nI) := below_drewN hb1 nI
    clear k1 hb1 HK F1 hhc
    have H4 : Hid (Calls Tryz.prog 138 #[.pointer (some ⟨b, 0, none⟩), .slice (some ⟨(wc.drewN nI).heap.size, 0, none⟩) l l, .slice (some ⟨bc, oc, none⟩) l xc1, .int .u8 ((f : Nat) : Int)] W4 fun e w' =>
        ∃ y, e = .returned (.slice (some ⟨y, 0, none⟩) l l) ∧ w'.cell? ⟨h, c, none⟩ = some (.slice (some ⟨bc, oc, none⟩) l xc1) ∧ w'.frozen? ⟨h, c, none⟩ = false ∧ Out (w'.setCell ⟨h, c, none⟩ (.slice (some ⟨y, 0, none⟩) l l)) h n l (scl c f (swp c p W)) ∧ Below h w (w'.setCell ⟨h, c, none⟩ (.slice (some ⟨y, 0, none⟩) l l))) := K4
    clear K4
    have mk5 : Sem.run Tryz.prog (Instr.makeSlice 27 (.int .i64 (l : Int)) (.int .i64 (l : Int))) (wc.drewN nI).drew = .ok (.slice (some ⟨(wc.drewN nI).heap.size, 0, none⟩) l l) W4 := mk4
    clear mk4
    generalize wc.drewN nI = w3 at *
    go_upto_region 6 with fail
    go_cut [] (fun wx => Out wx h n l (scl c f (swp c p W)) ∧ Below h w wx)
    case first =>
      go_region_with (go_at_call 138; refine H4.out.mono ?_; rintro e w' ⟨y, rfl, y1, y2, y3, y4⟩)
      all_goals (go_wp2_with fail; go_meet; exact ⟨y3, y4⟩)
    case rest =>
    obtain ⟨o2, hb2⟩ := hcut
    clear H4 mk5 kc4 k13 hb13
    obtain ⟨S, hS⟩ : ∃ S, scl c f (swp c p W) = S := ⟨_, rfl⟩
    rw [hS] at o2
    have HSS : Hid (scl c f (swp c p W) = S) := hS
    have HO2 : Hid (Out wc h n l S) := o2
    clear hS o2
    go_wp2
    go_loopw [65] (fun v wr => ∃ k : Nat, k ≤ n ∧ v = .int .i64 k ∧ Out wr h n l (stp c k S) ∧ Below h w wr) (fun v _ => n - (intOf v).toNat)
    case atStart => exact ⟨0, by omega, rfl, by rw [stp_zero]; exact HO2.out, hb2⟩
    case round =>
      obtain ⟨k, hk, rfl, ho, hb⟩ := hrel
      have lS := HO2.out.lt
      clear HO2 hb2
      by_cases hlt : k < n
      · have ik : (k : Int) < (n : Int) := by omega
        obtain ⟨A3, C3, m3, s3, q3⟩ := ho
        have ck := m3.cellAt hlt
        have HO : Hid (Out wr h n l (stp c k S)) := ⟨A3, C3, m3, s3, q3⟩
        by_cases hkc : k = c
        · subst hkc
          have HE : Hid (Out wr h n l (stp k (k + 1) S)) := by rw [stp_own]; exact HO.out
          clear m3 s3 q3 lS HO
          generalize A3 k = a3 at ck
          generalize C3 k = c3 at ck
          go_wp2
          go_round
          case rel => exact ⟨k + 1, by omega, by go_num, HE.out, hb⟩
          case measure => simp [intOf]; omega
        · have hkc' : ((k : Nat) : Int) ≠ (c : Int) := by omega
          have cc := m3.cellAt hc
          have fk := s3 k hlt
          have Rk := m3.row k hlt
          have Rc := m3.row c hc
          obtain ⟨bk, ok, hAk, hrk⟩ := Rk.lies (by omega)
          rw [hAk] at ck Rk
          have kk := hrk c hl
          have e1 : stp c k S k c = S k c := by unfold stp; rw [if_neg (by omega)]
          rw [e1] at kk
          have lx' := lS k c
          have hT := HT.out.keep hb hbh
          have hhr : h < wr.heap.size := block_lt_of_cell ck
          have K : Hid (Calls Tryz.prog 138 #[.pointer (some ⟨b, 0, none⟩), .slice (some ⟨bk, ok, none⟩) l (C3 k), .slice (A3 c) l (C3 c), .int .u8 ((S k c : Nat) : Int)] wr.drew fun e w' =>
              e = .returned (.slice (some ⟨wr.heap.size, 0, none⟩) l l) ∧ w'.cell? ⟨h, k, none⟩ = some (.slice (some ⟨bk, ok, none⟩) l (C3 k)) ∧ w'.frozen? ⟨h, k, none⟩ = false ∧ Out (w'.setCell ⟨h, k, none⟩ (.slice (some ⟨wr.heap.size, 0, none⟩) l l)) h n l (stp c (k + 1) S) ∧ Below h w (w'.setCell ⟨h, k, none⟩ (.slice (some ⟨wr.heap.size, 0, none⟩) l l))) := by
            refine (mulAdd_row b (S k c) l (C3 k) l (C3 c) (some ⟨bk, ok, none⟩) (A3 c) (stp c k S k) (stp c k S c) wr.drew (hT.drewN 1) lx' (Rk.drewN 1) (Rc.drewN 1) (by omega) (by omega)).mono ?_
            rintro e w' ⟨rfl, hrow, hbel⟩
            have hb3 : Below wr.heap.size wr w' := (Below.refl wr.heap.size wr).drew.trans hbel
            refine ⟨rfl, (hb3.cell (p := ⟨h, k, none⟩) hhr).trans ck, (hb3.frozen (p := ⟨h, k, none⟩) hhr).trans fk, ?_, (hb.trans (hb3.mono (by omega))).setCell (Nat.le_refl _) _⟩
            refine (HO.out.keep hb3).set hlt hrow (fun e => by cases e) (Nat.le_refl _) (stp_B lS) (fun j hj => ?_) fun i hi hne j hj => ?_
            · unfold ad stp; rw [if_pos hj, if_neg (by omega), if_neg (by omega), if_pos (by omega)]
            · unfold stp
              by_cases e : i ≠ c ∧ i < k
              · rw [if_pos e, if_pos (by omega)]
              · rw [if_neg e, if_neg (by omega)]
          clear m3 s3 q3 lS HO Rk Rc hAk hrk e1 hT hb hhr
          generalize S k c = x3 at *
          generalize C3 k = c3 at *
          generalize A3 c = a4 at *
          generalize C3 c = c4 at *
          go_wp2
          go_region_with (go_at_call 138; refine K.out.mono ?_; rintro e w' ⟨rfl, y1, y2, y3, y4⟩)
          all_goals
            go_wp2
            go_round
            case rel => exact ⟨k + 1, by omega, by go_num, y3, y4⟩
            case measure => simp [intOf]; omega
      · have : k = n := by omega
        subst this
        have HE : Hid (Out wr h k l (clr k c p W)) := by unfold clr; rw [HF.out, HSS.out]; exact ho
        clear ho lS
        go_wp2
        go_ret
        exact ⟨.inr ⟨rfl, p, hcp, hp, HN.out, HE.out⟩, hb⟩
  · have HZ : Hid (∀ r, r < n → c ≤ r → W r c = 0) := hz
    clear hz mk
    go_wp2
    go_ret
    exact ⟨.inl ⟨rfl, HZ.out⟩, Below.refl _ _⟩
end Go.Proofs.YtebngmgdciahiaaGreatDoor.Rz

namespace Go.Proofs.YtebngmgdciahiaaGreatDoor.Rz
open Go.RowKit Gf
attribute [local go_sem ↓] Go.wp_at_zero Go.wp_at_succ

theorem Mat.even {w : World} {a : Option Addr} {n l : Nat} {A : Nat → Option Addr} {L C : Nat → Nat} {F : Nat → Nat → Nat} (h : Mat w a n A L C F) (e : ∀ i, i < n → L i = l) (hl : l ≤ 9223372036854775807) : Mat w a n A (fun _ => l) C F := by
  refine ⟨fun hn => ?_, fun i hi => ?_, fun i hi q => ?_, fun _ => hl, h.lt⟩
  · obtain ⟨b, o, q, hc⟩ := h.lies hn
    exact ⟨b, o, q, fun i hi => by rw [hc i hi, e i hi]⟩
  · have := h.row i hi
    rwa [e i hi] at this
  · have := h.nil i hi q
    rwa [e i hi] at this

theorem elim_begin {n : Nat} {F : Nat → Nat → Nat} (hF : B F) : Elim n F (fun i => cat n (F i) (one i)) (hi n (fun i => cat n (F i) (one i))) := by
  have e : hi n (fun i => cat n (F i) (one i)) = one := by
    funext i j; unfold hi cat; dsimp only; rw [if_neg (by omega)]; congr 1; omega
  rw [e]
  refine ⟨fun i j => cat_lt (hF i) (one_B i) j, one_B, fun i hi j hj => ?_, (Elim.start hF).inj⟩
  rw [(Elim.start hF).rel i hi j hj]
  unfold cat; rw [if_pos hj]

set_option maxRecDepth 100000 in
set_option maxHeartbeats 4000000 in
theorem invert_any (a : Option Addr) (n c0 : Nat) (A : Nat → Option Addr) (L C : Nat → Nat) (F : Nat → Nat → Nat) (w : World) (h : Mat w a n A L C F) (hn : n ≤ maxLen) :
    Calls Tryz.prog 103 #[.slice a n c0] w fun e w' =>
      ((e = .returned (.tuple #[.slice none 0 0, .bool false]) ∧ (¬ (IsM n L ∧ n = L 0) ∨ ¬ Inj n F)) ∨
       (∃ h X, e = .returned (.tuple #[.slice (some ⟨h, 0, none⟩) n n, .bool true]) ∧ IsM n L ∧ n = L 0 ∧ w.heap.size ≤ h ∧ Out w' h n n X ∧ IsInv n F X)) ∧ Below w.heap.size w w' := by
  by_cases hq : IsM n L ∧ n = L 0
  · have cS := square_yes a n c0 A L C F w h hq.1 hq.2
    have HQ : Hid (IsM n L ∧ n = L 0) := hq
    obtain ⟨⟨n1, n2, l1, l2, hl⟩, hnl⟩ := hq
    have HM : Hid (Mat w a n A (fun _ => n) C F) := h.even (fun i hi => by rw [hl i hi, ← hnl]) (by omega)
    have lF := h.lt
    have HF : Hid (B F) := h.lt
    clear h hl hnl l1 l2 lF
    go_enter Tryz.func103, Tryz.ntmps103
    go_wp2_with fail
    go_at_call 132
    refine cS.mono ?_
    rintro e w' ⟨rfl, rfl⟩
    go_wp2_with fail
    go_at_call 84
    refine (new_any _).mono ?_
    rintro e w1 ⟨rfl, hu, hb1⟩
    have HT : Hid (Tab w1 w.heap.size) := hu.tab
    have hlt1 : w.heap.size < w1.heap.size := block_lt_of_cell HT.out.one
    have HB1 : Hid (Below w.heap.size w w1) := hb1
    clear hu hb1 cS
    go_wp2_with fail
    go_at_call 134
    refine (unit_yes n w1 n1 n2).mono ?_
    rintro e w2 ⟨rfl, hg2, hb2⟩
    have HB2 : Hid (Below w1.heap.size w1 w2) := hb2
    have HG : Hid (Mat w2 (some ⟨w1.heap.size, 0, none⟩) n (fun i => some ⟨w1.heap.size + 1 + i, 0, none⟩) (fun _ => n) (fun _ => n) one) := hg2.mat (by omega) one_B
    have hs2 := hb2.size
    clear hg2 hb2
    have HB02 : Hid (Below w.heap.size w w2) := HB1.out.trans (HB2.out.mono (by omega))
    have cB := beside_any a (some ⟨w1.heap.size, 0, none⟩) n n n c0 n A _ C _ F one w2 (HM.out.keep HB02.out) HG.out n1 n2 n1 n2 n1 n2
    go_wp2_with fail
    go_at_call 133
    refine cB.mono ?_
    rintro e w3 ⟨h, rfl, hh, ho3, hb3⟩
    have HB3 : Hid (Below w1.heap.size w1 w3) := HB2.out.trans (hb3.mono hs2)
    have HO : Hid (Out w3 h n (n + n) (fun i => cat n (F i) (one i))) := ho3
    have hbh : w.heap.size < h := by omega
    have hs3 := hb3.size
    clear cB HG HM HB02 hb3 ho3
    have HB03 : Hid (Below w.heap.size w w3) := HB1.out.trans (HB3.out.mono (by omega))
    have hw1h : w1.heap.size ≤ h := by omega
    go_wp2
    go_loopw [18] (fun v wr => ∃ k : Nat, k ≤ n ∧ v = .int .i64 k ∧ (∃ W, Out wr h n (n + n) W ∧ Elim n F W (hi n W) ∧ ∀ i, i < n → ∀ j, j < k → W i j = one i j) ∧ Below h w3 wr) (fun v _ => n - (intOf v).toNat)
    case atStart => exact ⟨0, by omega, rfl, ⟨_, HO.out, elim_begin HF.out, fun i _ j hj => absurd hj (by omega)⟩, Below.refl _ _⟩
    case round =>
      obtain ⟨k, hk, rfl, ⟨W, ho, he, hred⟩, hb⟩ := hrel
      have H0 : Hid (Out wr h n (n + n) W) := ho
      have H1 : Hid (Elim n F W (hi n W)) := he
      have H2 : Hid (∀ i, i < n → ∀ j, j < k → W i j = one i j) := hred
      clear ho he hred HO
      by_cases hlt : k < n
      · have ik : (k : Int) < (n : Int) := by omega
        have hT : Tab wr w.heap.size := (HT.out.keep HB3.out hlt1).keep hb hbh
        have cC := clear_any w.heap.size h n (n + n) k n W wr hT H0.out n2 hlt (by omega) (by omega) hbh
        clear hT
        go_wp2_with fail
        go_at_call 135
        refine cC.mono ?_
        rintro e w4 ⟨hcase, hb4⟩
        clear cC
        rcases hcase with ⟨rfl, hz⟩ | ⟨rfl, p, hkp, hpn, hne, ho4⟩
        · have HE : Hid (¬ Inj n F) := H1.out.stuck HF.out hlt H2.out hz
          clear hz
          go_wp2
          go_ret2
          exact ⟨.inl ⟨rfl, .inr HE.out⟩, HB03.out.trans ((hb.trans hb4).mono (by omega))⟩
        · have HE : Hid (∃ W, Out w4 h n (n + n) W ∧ Elim n F W (hi n W) ∧ ∀ i, i < n → ∀ j, j < k + 1 → W i j = one i j) :=
            ⟨_, ho4, elim_clr H1.out HF.out hlt hpn, clr_red H0.out.lt H2.out hkp hpn hne⟩
          clear ho4 hne
          go_wp2
          go_round
          case rel => exact ⟨k + 1, by omega, by go_num, HE.out, hb.trans hb4⟩
          case measure => simp [intOf]; omega
      · have : k = n := by omega
        subst this
        obtain ⟨A4, C4, m4, s4, q4⟩ := H0.out
        have cC := columns_any (some ⟨h, 0, none⟩) k (k + k) k k A4 C4 W wr m4 n1 n2 (by omega) (by omega) q4
        have HI : Hid (IsInv k F (hi k W)) := H1.out.done HF.out H2.out
        clear m4 s4 q4
        go_wp2_with fail
        go_at_call 136
        refine cC.mono ?_
        rintro e w5 ⟨h5, rfl, hh5, ho5, hb5⟩
        rw [Nat.add_sub_cancel] at ho5
        have HO5 : Hid (Out w5 h5 k k (hi k W)) := ho5
        clear ho5 cC
        have hsr := hb.size
        go_wp2
        go_ret2
        exact ⟨.inr ⟨h5, hi k W, rfl, HQ.out.1, HQ.out.2, by omega, HO5.out, HI.out⟩, HB03.out.trans ((hb.mono (by omega)).trans (hb5.mono (by omega)))⟩
  · have cS := square_no a n c0 A L C F w h hn hq
    have HQ : Hid (¬ (IsM n L ∧ n = L 0)) := hq
    clear h hq
    go_enter Tryz.func103, Tryz.ntmps103
    go_wp2_with fail
    go_at_call 132
    refine cS.mono ?_
    rintro e w' ⟨rfl, rfl⟩
    go_wp2
    go_ret2
    exact ⟨.inl ⟨rfl, .inl HQ.out⟩, Below.refl _ _⟩
end Go.Proofs.YtebngmgdciahiaaGreatDoor.Rz

namespace Go.Proofs.YtebngmgdciahiaaGreatDoor.Rz
open Go.RowKit Gf
attribute [local go_sem ↓] Go.wp_at_zero Go.wp_at_succ

theorem Mat.take {w : World} {a : Option Addr} {n k : Nat} {A : Nat → Option Addr} {L C : Nat → Nat} {F : Nat → Nat → Nat} (h : Mat w a n A L C F) (hk : k ≤ n) : Mat w a k A L C F := by
  refine ⟨fun h0 => ?_, fun i hi => h.row i (by omega), fun i hi => h.nil i (by omega), h.le, h.lt⟩
  obtain ⟨b, o, e, hc⟩ := h.lies (by omega)
  exact ⟨b, o, e, fun i hi => hc i (by omega)⟩

theorem isM_const {n l : Nat} (n1 : 1 ≤ n) (n2 : n ≤ 255) (l1 : 1 ≤ l) (l2 : l ≤ 255) : IsM n (fun _ => l) := ⟨n1, n2, l1, l2, fun _ _ => rfl⟩
theorem V_inj {k : Nat} (hk : k ≤ 256) : Inj k V := vander_inj (r := fun i => i) (fun i hi => by omega) (fun i _ j _ e => e)

set_option maxRecDepth 100000 in
set_option maxHeartbeats 2000000 in
theorem systematic_yes (k m : Nat) (w : World) (k1 : 1 ≤ k) (m1 : 1 ≤ m) (hkm : k + m ≤ 255) :
    Calls Tryz.prog 83 #[.int .i64 k, .int .i64 m] w fun e w' => ∃ h X, e = .returned (.tuple #[.slice (some ⟨h, 0, none⟩) ((k + m : Nat)) ((k + m : Nat)), .bool true]) ∧ w.heap.size ≤ h ∧ IsInv k V X ∧ B X ∧ Out w' h (k + m) k (mm k V X) ∧ Below w.heap.size w w' := by
  have cV := vander_yes (k + m) k w (by omega) (by omega) k1 (by omega)
  have q : ((k + m : Nat) : Int) = (k : Int) + (m : Int) := by omega
  rw [q] at cV
  clear q
  have g1 : (k : Int) ≤ 255 - (m : Int) := by omega
  go_enter Tryz.func83, Tryz.ntmps83
  go_wp2_with fail
  go_at_call 102
  refine cV.mono ?_
  rintro e w1 ⟨h, rfl, hh, hg, hb1⟩
  have hm1 := hg.mat (by omega) V_B
  have HM : Hid _ := hm1
  have cI := invert_any (some ⟨h, 0, none⟩) k (k + m) _ _ _ V w1 (hm1.take (by omega)) (by unfold maxLen; omega)
  have HB1 : Hid (Below w.heap.size w w1) := hb1
  have hs1 := hb1.size
  clear hm1 hg cV hb1
  go_wp2_with fail
  go_at_call 103
  refine cI.mono ?_
  rintro e w2 ⟨hcase, hb2⟩
  clear cI
  rcases hcase with ⟨rfl, hno⟩ | ⟨h2, X, rfl, _, _, hh2, ho, hinv⟩
  · exfalso
    rcases hno with hno | hno
    · exact hno ⟨isM_const k1 (by omega) k1 (by omega), by first | rfl | trivial⟩
    · exact hno (V_inj (by omega))
  · have lX := ho.lt
    obtain ⟨A2, C2, m2, s2, q2⟩ := ho
    have cM := mxMul_yes (some ⟨h, 0, none⟩) (some ⟨h2, 0, none⟩) (k + m) k (k + m) k _ A2 _ (fun _ => k) _ C2 V X w2 (HM.out.keep hb2) m2 (isM_const (by omega) hkm k1 (by omega)) (isM_const k1 (by omega) k1 (by omega)) rfl
    have HB2 : Hid (Below w1.heap.size w1 w2) := hb2
    have hs2 := hb2.size
    have HI : Hid (IsInv k V X) := hinv
    have HX : Hid (B X) := lX
    clear HM m2 s2 q2 hinv hb2 lX
    go_wp2_with fail
    go_at_call 104
    refine cM.mono ?_
    rintro e w3 ⟨h3, rfl, hh3, ho3, hb3⟩
    have HO : Hid (Out w3 h3 (k + m) k (mm k V X)) := ho3
    clear cM ho3
    go_wp2
    go_ret2
    exact ⟨h3, X, rfl, by omega, HI.out, HX.out, HO.out, HB1.out.trans ((HB2.out.mono hs1).trans (hb3.mono (by omega)))⟩

set_option maxRecDepth 100000 in
theorem systematic_no (k m : Int) (w : World) (hm : m ≤ 9223372036854775807) (hno : ¬ (1 ≤ k ∧ 1 ≤ m ∧ k + m ≤ 255)) :
    Calls Tryz.prog 83 #[.int .i64 k, .int .i64 m] w fun e w' => e = .returned (.tuple #[.slice none 0 0, .bool false]) ∧ w = w' := by
  by_cases h1 : k < 1
  · clear hno
    go_enter Tryz.func83, Tryz.ntmps83
    go_wp2
    go_ret2
    exact ⟨rfl, rfl⟩
  · by_cases h2 : m < 1
    · clear hno
      go_enter Tryz.func83, Tryz.ntmps83
      go_wp2
      go_ret2
      exact ⟨rfl, rfl⟩
    · have h4 : 255 - m < k := by omega
      clear hno
      go_enter Tryz.func83, Tryz.ntmps83
      go_wp2
      go_ret2
      exact ⟨rfl, rfl⟩

theorem inv_one {n : Nat} {X : Nat → Nat → Nat} (h : IsInv n one X) (hX : B X) : ∀ i, i < n → ∀ j, j < n → X i j = one i j := by
  intro i hi j hj
  rw [← h.left i hi j hj, mm_one_right hX hj]
theorem sys_row {X : Nat → Nat → Nat} (h : IsInv 1 V X) (hX : B X) : mm 1 V X 2 0 = 1 := by
  have e := h.right 0 (by omega) 0 (by omega)
  have v0 : V 0 0 = 1 := rfl
  have v2 : V 2 0 = 1 := rfl
  unfold mm xs xs at e ⊢
  dsimp only at e ⊢
  rw [v0, M_one_left (hX 0 0), Nat.zero_xor] at e
  rw [v2, M_one_left (hX 0 0), Nat.zero_xor, e]; rfl

end Go.Proofs.YtebngmgdciahiaaGreatDoor.Rz
