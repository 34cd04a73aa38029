/-
  What matrix.Same, zeros, Unit and Vandermonde do: rows of their own, each in memory of its own.
-/
import Derived.Test.YtbfhmdphhhjlnaaMat
namespace Go.Proofs.Ytbfhmdphhhjlnaa
open Go.RowKit Gf
attribute [local go_sem ↓] Go.wp_at_zero Go.wp_at_succ

theorem info27 : (Try.prog.info? 30).map (fun i => (i.zero, i.size, i.bytes)) = some (some (.slice none 0 0), 1, 24) := by kernel_rfl

set_option maxRecDepth 100000 in
theorem bequal_yes (a a' : Option Addr) (n c c' : Nat) (f g : Nat → Nat) (w : World) (h : Row w a n f) (h' : Row w a' n g) (k : a = none → n = 0) (k' : a' = none → n = 0) (hq : ∀ i, i < n → f i = g i) :
    Calls Try.prog 35 #[.slice a n c, .slice a' n c'] w fun e w' => e = .returned (.bool true) ∧ w = w' := by
  have q1 := conv_row (c := c) h k
  have q2 := conv_row (c := c') h' k'
  rw [← str_congr hq] at q2
  clear h h' hq
  generalize str f n = t at *
  go_enter Try.func35, Try.ntmps35
  go_wp2
  go_ret
  exact ⟨rfl, rfl⟩

/-- n rows of m bytes that were made one behind the other: their headers in block h, row i in block h + 1 + i. -/
structure Grid (w : World) (h n m : Nat) (F : Nat → Nat → Nat) : Prop where
  hdr : ∀ i, i < n → w.cell? ⟨h, i, none⟩ = some (.slice (some ⟨h + 1 + i, 0, none⟩) m m)
  softh : ∀ i, i < n → w.frozen? ⟨h, i, none⟩ = false
  cell : ∀ i, i < n → ∀ j, j < m → w.cell? ⟨h + 1 + i, j, none⟩ = some (.int .u8 ((F i j : Nat) : Int))
  soft : ∀ i, i < n → ∀ j, j < m → w.frozen? ⟨h + 1 + i, j, none⟩ = false

theorem Grid.mat {w : World} {h n m : Nat} {F : Nat → Nat → Nat} (g : Grid w h n m F) (hm : m ≤ 9223372036854775807) (hF : B F) : Mat w (some ⟨h, 0, none⟩) n (fun i => some ⟨h + 1 + i, 0, none⟩) (fun _ => m) (fun _ => m) F :=
  ⟨fun _ => ⟨h, 0, rfl, fun i hi => by rw [Nat.zero_add]; exact g.hdr i hi⟩, fun i hi => ⟨hF i, fun _ => ⟨h + 1 + i, 0, rfl, fun j hj => by rw [Nat.zero_add]; exact g.cell i hi j hj⟩⟩, fun _ _ e => (by cases e), fun _ => hm, hF⟩

/-- One byte changed. -/
def put (F : Nat → Nat → Nat) (i j x : Nat) : Nat → Nat → Nat := fun r c => if r = i ∧ c = j then x else F r c

theorem cell_far {w : World} {b i b' j : Nat} {v : Value} (h : b ≠ b') : (w.setCell ⟨b, i, none⟩ v).cell? ⟨b', j, none⟩ = w.cell? ⟨b', j, none⟩ := by
  apply World.cell?_setCell_other; exact fun e => h (by injection e)

theorem Grid.put {w : World} {h n m i j x : Nat} {F : Nat → Nat → Nat} (g : Grid w h n m F) (hi : i < n) (hj : j < m) : Grid (w.setCell ⟨h + 1 + i, j, none⟩ (.int .u8 ((x : Nat) : Int))) h n m (put F i j x) := by
  refine ⟨fun r hr => ?_, fun r hr => ?_, fun r hr c hc => ?_, fun r hr c hc => ?_⟩
  · rw [cell_far (by omega)]; exact g.hdr r hr
  · rw [World.frozen?_setCell]; exact g.softh r hr
  · unfold Ytbfhmdphhhjlnaa.put
    by_cases e : r = i
    · subst e
      by_cases e2 : c = j
      · subst e2
        rw [cell_same (g.cell r hr c hc), if_pos ⟨rfl, rfl⟩]
      · rw [cell_other (fun q => e2 q.symm), if_neg (fun q => e2 q.2)]; exact g.cell r hr c hc
    · rw [cell_far (by omega), if_neg (fun q => e q.1)]; exact g.cell r hr c hc
  · rw [World.frozen?_setCell]; exact g.soft r hr c hc

/-- zeros, under way: k rows are there. -/
structure Half (w : World) (h n m k : Nat) : Prop where
  size : w.heap.size = h + 1 + k
  got : ∀ i, i < k → w.cell? ⟨h, i, none⟩ = some (.slice (some ⟨h + 1 + i, 0, none⟩) m m)
  rest : ∀ i, i < n → k ≤ i → w.cell? ⟨h, i, none⟩ = some (.slice none 0 0)
  softh : ∀ i, i < n → w.frozen? ⟨h, i, none⟩ = false
  cell : ∀ i, i < k → ∀ j, j < m → w.cell? ⟨h + 1 + i, j, none⟩ = some (.int .u8 0)
  soft : ∀ i, i < k → ∀ j, j < m → w.frozen? ⟨h + 1 + i, j, none⟩ = false

theorem Half.start (w : World) (n m : Nat) : Half (w.alloc (.cells (madeCells #[.slice none 0 0] n) 30)) w.heap.size n m 0 := by
  refine ⟨by simp, fun i hi => absurd hi (by omega), fun i hi _ => ?_, fun i _ => World.frozen?_alloc_new _ _ _ _, fun i hi => absurd hi (by omega), fun i hi => absurd hi (by omega)⟩
  rw [World.cell?_alloc_new, ← Array.getElem?_toList, toList_madeCells_one, List.getElem?_replicate, if_pos (by omega)]

theorem Half.step {w : World} {h n m k : Nat} (g : Half w h n m k) (hk : k < n) :
    Half ((w.alloc (.cells (madeCells #[.int .u8 0] m) 5)).setCell ⟨h, k, none⟩ (.slice (some ⟨w.heap.size, 0, none⟩) m m)) h n m (k + 1) := by
  have hs := g.size
  have hb : Below w.heap.size w (w.alloc (.cells (madeCells #[.int .u8 0] m) 5)) := (Below.refl _ _).alloc (Nat.le_refl _) _
  refine ⟨by simp [World.setCell]; omega, fun i hi => ?_, fun i hi hki => ?_, fun i hi => ?_, fun i hi j hj => ?_, fun i hi j hj => ?_⟩
  · by_cases e : i = k
    · subst e
      rw [cell_same (u := .slice none 0 0) (by rw [hb.cell (p := ⟨h, i, none⟩) (by simp; omega)]; exact g.rest i hk (Nat.le_refl _)), hs]
    · rw [cell_other (fun q => e q.symm), hb.cell (p := ⟨h, i, none⟩) (by simp; omega)]; exact g.got i (by omega)
  · rw [cell_other (by omega), hb.cell (p := ⟨h, i, none⟩) (by simp; omega)]; exact g.rest i hi (by omega)
  · rw [World.frozen?_setCell, hb.frozen (p := ⟨h, i, none⟩) (by simp; omega)]; exact g.softh i hi
  · rw [cell_far (by omega)]
    by_cases e : i = k
    · subst e
      rw [← hs, World.cell?_alloc_new, ← Array.getElem?_toList, toList_madeCells_one, List.getElem?_replicate, if_pos (by omega)]
    · rw [hb.cell (p := ⟨h + 1 + i, j, none⟩) (by simp; omega)]; exact g.cell i (by omega) j hj
  · rw [World.frozen?_setCell]
    by_cases e : i = k
    · subst e
      rw [← hs]; exact World.frozen?_alloc_new _ _ _ _
    · rw [hb.frozen (p := ⟨h + 1 + i, j, none⟩) (by simp; omega)]; exact g.soft i (by omega) j hj

theorem Half.done {w : World} {h n m : Nat} (g : Half w h n m n) : Grid w h n m (fun _ _ => 0) :=
  ⟨g.got, g.softh, g.cell, g.soft⟩

set_option maxRecDepth 100000 in
theorem zeros_yes (n m : Nat) (w : World) (n1 : 1 ≤ n) (n2 : n ≤ 255) (m1 : 1 ≤ m) (m2 : m ≤ 255) :
    Calls Try.prog 53 #[.int .i64 n, .int .i64 m] w fun e w' => e = .returned (.slice (some ⟨w.heap.size, 0, none⟩) n n) ∧ Grid w' w.heap.size n m (fun _ _ => 0) ∧ Below w.heap.size w w' ∧ w'.heap.size = w.heap.size + 1 + n := by
  have s1 := isSide_any n w
  rw [decide_eq_true (by omega)] at s1
  have s2 := isSide_any m w
  rw [decide_eq_true (by omega)] at s2
  have mk1 := run_make_row' (P := Try.prog) 54 30 (.slice none 0 0) 24 Try.underlying54 info27 rfl .i64 .i64 n (by omega) (by omega)
  have mk2 := run_make_row' (P := Try.prog) 30 5 (.int .u8 0) 1 Try.underlying30 info5 rfl .i64 .i64 m (by omega) (by omega)
  go_enter Try.func53, Try.ntmps53
  go_wp2_with fail
  go_at_call_of 64 (Value.int .i64 (n : Int))
  refine s1.mono ?_
  rintro e w' ⟨rfl, rfl⟩
  go_wp2_with fail
  go_at_call 64
  refine s2.mono ?_
  rintro e w' ⟨rfl, rfl⟩
  go_wp2
  clear mk1 s1 s2
  go_loopw [19] (fun v wr => ∃ k : Nat, k ≤ n ∧ v = .int .i64 k ∧ Half wr w.heap.size n m k ∧ Below w.heap.size w wr) (fun v _ => n - (intOf v).toNat)
  case atStart => exact ⟨0, by omega, rfl, Half.start w n m, (Below.refl _ _).alloc (Nat.le_refl _) _⟩
  case round =>
    obtain ⟨k, hk, rfl, hh, hb⟩ := hrel
    by_cases hlt : k < n
    · have ik : (k : Int) < (n : Int) := by omega
      have hs := hh.size
      have hb' : Below wr.heap.size wr (wr.alloc (.cells (madeCells #[.int .u8 0] m) 5)) := (Below.refl _ _).alloc (Nat.le_refl _) _
      have ck : (wr.alloc (.cells (madeCells #[.int .u8 0] m) 5)).cell? ⟨w.heap.size, k, none⟩ = some (.slice none 0 0) := by
        rw [hb'.cell (p := ⟨w.heap.size, k, none⟩) (by simp; omega)]; exact hh.rest k hlt (Nat.le_refl _)
      have fk : (wr.alloc (.cells (madeCells #[.int .u8 0] m) 5)).frozen? ⟨w.heap.size, k, none⟩ = false := by
        rw [hb'.frozen (p := ⟨w.heap.size, k, none⟩) (by simp; omega)]; exact hh.softh k hlt
      have H2 : Hid (Half ((wr.alloc (.cells (madeCells #[.int .u8 0] m) 5)).setCell ⟨w.heap.size, k, none⟩ (.slice (some ⟨wr.heap.size, 0, none⟩) m m)) w.heap.size n m (k + 1)) := hh.step hlt
      have HB : Hid (Below w.heap.size w ((wr.alloc (.cells (madeCells #[.int .u8 0] m) 5)).setCell ⟨w.heap.size, k, none⟩ (.slice (some ⟨wr.heap.size, 0, none⟩) m m))) := (hb.alloc (by omega) _).setCell (Nat.le_refl _) _
      have mk := mk2 wr
      clear hh hb hb' mk2 hs
      generalize wr.alloc (.cells (madeCells #[.int .u8 0] m) 5) = W at *
      go_wp2
      go_round
      case rel => exact ⟨k + 1, by omega, by go_num, H2.out, HB.out⟩
      case measure => simp [intOf]; omega
    · have : k = n := by omega
      subst this
      have HH : Hid (Half wr w.heap.size k m k) := hh
      clear hh mk2
      go_wp2
      go_ret
      exact ⟨rfl, HH.out.done, hb, HH.out.size⟩

set_option maxRecDepth 100000 in
theorem zeros_no (n m : Int) (w : World) (hno : ¬ ((1 ≤ n ∧ n ≤ 255) ∧ 1 ≤ m ∧ m ≤ 255)) :
    Calls Try.prog 53 #[.int .i64 n, .int .i64 m] w fun e w' => e = .returned (.slice none 0 0) ∧ w = w' := by
  have s1 := isSide_any n w
  have s2 := isSide_any m w
  by_cases h1 : 1 ≤ n ∧ n ≤ 255
  · rw [decide_eq_true h1] at s1
    rw [decide_eq_false (fun q => hno ⟨h1, q⟩)] at s2
    clear h1 hno
    go_enter Try.func53, Try.ntmps53
    go_wp2_with fail
    go_at_call 64
    refine s1.mono ?_
    rintro e w' ⟨rfl, rfl⟩
    go_wp2_with fail
    go_at_call 64
    refine s2.mono ?_
    rintro e w' ⟨rfl, rfl⟩
    go_wp2
    go_ret
    exact ⟨rfl, rfl⟩
  · rw [decide_eq_false h1] at s1
    clear h1 hno s2
    go_enter Try.func53, Try.ntmps53
    go_wp2_with fail
    go_at_call 64
    refine s1.mono ?_
    rintro e w' ⟨rfl, rfl⟩
    go_wp2
    go_ret
    exact ⟨rfl, rfl⟩

theorem Grid.congr {w : World} {h n m : Nat} {F G : Nat → Nat → Nat} (g : Grid w h n m F) (e : ∀ i, i < n → ∀ j, j < m → F i j = G i j) : Grid w h n m G :=
  ⟨g.hdr, g.softh, fun i hi j hj => by rw [g.cell i hi j hj, e i hi j hj], g.soft⟩

set_option maxRecDepth 100000 in
theorem unit_no (n : Int) (w : World) (hno : ¬ (1 ≤ n ∧ n ≤ 255)) :
    Calls Try.prog 57 #[.int .i64 n] w fun e w' => e = .returned (.slice none 0 0) ∧ w = w' := by
  have z := zeros_no n n w (fun q => hno q.1)
  clear hno
  go_enter Try.func57, Try.ntmps57
  go_wp2_with fail
  go_at_call 53
  refine z.mono ?_
  rintro e w' ⟨rfl, rfl⟩
  go_wp2
  go_loop [10] (fun v => v = .int .i64 0) (fun _ => 0)
  case atStart => rfl
  case round =>
    subst hrel
    go_wp2
    go_ret
    exact ⟨rfl, rfl⟩

set_option maxRecDepth 100000 in
theorem unit_yes (n : Nat) (w : World) (n1 : 1 ≤ n) (n2 : n ≤ 255) :
    Calls Try.prog 57 #[.int .i64 n] w fun e w' => e = .returned (.slice (some ⟨w.heap.size, 0, none⟩) n n) ∧ Grid w' w.heap.size n n one ∧ Below w.heap.size w w' := by
  have z := zeros_yes n n w n1 n2 n1 n2
  go_enter Try.func57, Try.ntmps57
  go_wp2_with fail
  go_at_call 53
  refine z.mono ?_
  rintro e w1 ⟨rfl, hg, hb1, hs1⟩
  clear z
  go_wp2
  go_loopw [10] (fun v wr => ∃ k : Nat, k ≤ n ∧ v = .int .i64 k ∧ Grid wr w.heap.size n n (fun i j => if i = j ∧ i < k then 1 else 0) ∧ Below w.heap.size w wr) (fun v _ => n - (intOf v).toNat)
  case atStart => exact ⟨0, by omega, rfl, hg.congr fun i _ j _ => by rw [if_neg (by omega)], hb1⟩
  case round =>
    obtain ⟨k, hk, rfl, hh, hb⟩ := hrel
    clear hg hb1 hs1
    by_cases hlt : k < n
    · have ik : (k : Int) < (n : Int) := by omega
      have ck := hh.hdr k hlt
      have dk := hh.cell k hlt k hlt
      have fk := hh.soft k hlt k hlt
      have H2 : Hid (Grid (wr.setCell ⟨w.heap.size + 1 + k, k, none⟩ (.int .u8 ((1 : Nat) : Int))) w.heap.size n n (fun i j => if i = j ∧ i < k + 1 then 1 else 0)) := by
        refine (hh.put hlt hlt).congr fun i hi j hj => ?_
        unfold put
        by_cases e : i = k ∧ j = k
        · rw [if_pos e, if_pos (by omega)]
        · rw [if_neg e]
          dsimp only
          by_cases e2 : i = j ∧ i < k
          · rw [if_pos e2, if_pos (by omega)]
          · rw [if_neg e2, if_neg (by omega)]
      have HB : Hid (Below w.heap.size w (wr.setCell ⟨w.heap.size + 1 + k, k, none⟩ (.int .u8 ((1 : Nat) : Int)))) := hb.setCell (p := ⟨w.heap.size + 1 + k, k, none⟩) (by simp; omega) _
      clear hh hb
      obtain ⟨u, du⟩ : ∃ u, wr.cell? ⟨w.heap.size + 1 + k, k, none⟩ = some u := ⟨_, dk⟩
      clear dk
      generalize w.heap.size + 1 + k = B1 at *
      go_wp2
      go_round
      case rel => exact ⟨k + 1, by omega, by go_num, H2.out, HB.out⟩
      case measure => simp [intOf]; omega
    · have : k = n := by omega
      subst this
      have HH : Hid (Grid wr w.heap.size k k one) := hh.congr fun i hi j hj => by
        unfold one
        by_cases e : i = j
        · rw [if_pos ⟨e, hi⟩, if_pos e]
        · rw [if_neg (fun q => e q.1), if_neg e]
      clear hh
      go_wp2
      go_ret
      exact ⟨rfl, HH.out, hb⟩

theorem P_zero_succ (j : Nat) : P 0 (j + 1) = 0 := by show M (P 0 j) 0 = 0; exact M_zero_right _
theorem pw_P' {x j : Nat} (hx : x < 256) (hj : j < 255) : pw x (j : Int) = P x j := by
  by_cases z : x = 0
  · subst z
    cases j with
    | zero => rfl
    | succ j => rw [P_zero_succ]; unfold pw; rw [if_neg (by omega), if_neg (by omega), if_pos rfl]
  · rw [pw_P hx (by omega) (.inr (by omega))]; congr 1; omega
end Go.Proofs.Ytbfhmdphhhjlnaa
