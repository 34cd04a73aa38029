/-
  What shard.Read answers.
-/
import Derived.Test.YtjbdncgmpccedaaDoorShL
namespace Go.Proofs.YtjbdncgmpccedaaDoor
open Go.RowKit Crc
attribute [local go_sem ↓] Go.wp_at_zero Go.wp_at_succ
set_option linter.unusedVariables false

/-- How pass ends where the head is refused. -/
def PassBad (w0 : World) (P : Int → Prop) (e : Ending) (w' : World) : Prop :=
  Below w0.heap.size w0 w' ∧ ∃ x y : Int, e = .returned (.tuple #[nohd, .int .i64 x, .int .i64 y]) ∧ y ≠ 0 ∧ P y
set_option maxRecDepth 100000 in
set_option maxHeartbeats 1000000 in
/-- Whatever readHead tells that is no OK, pass tells. -/
theorem pass_bad (w : World) (n c : Nat) (a : Option Addr) (fv : Value) (P : Int → Prop) (hn2 : n ≤ 131072)
    (cH : ∀ W, Below w.heap.size w W → Calls Tryd.prog 33 #[.slice a n c] W fun e w' => Below W.heap.size W w' ∧ ∃ x y : Int, e = .returned (.tuple #[nohd, .int .i64 x, .int .i64 y]) ∧ y ≠ 0 ∧ P y) :
    Calls Tryd.prog 26 #[.slice a n c, fv] w (PassBad w P) := by
  have g1 : decide ((131072 : Int) < (n : Int)) = false := decide_eq_false (by omega)
  obtain ⟨W, hbx⟩ : ∃ W, w.alloc (.cells #[.int .i64 0, .int .i64 0, .int .i64 0, .int .i64 0, .int .i64 0, .int .i64 0] 29) = W := ⟨_, rfl⟩
  have bW : Below w.heap.size w W := by rw [← hbx]; exact bal _ _
  have hr0 : HdB W w.heap.size 0 0 0 0 0 0 29 := by rw [← hbx]; exact heap_alloc_new _ _
  have cH' := cH W bW
  have HR0 : Hid (HdB W w.heap.size 0 0 0 0 0 0 29) := hr0
  have HBW : Hid (Below w.heap.size w W) := bW
  clear bW hr0 cH
  unfold nohd hv at cH'
  go_enter Tryd.func26, Tryd.ntmps26
  go_wp2_with fail
  go_at_call 33
  refine cH'.mono ?_
  rintro e W1 ⟨b1, x, y, rfl, hy, hP⟩
  clear cH'
  have hr1 : HdB W1 w.heap.size 0 0 0 0 0 0 29 := (b1.block _ (Array.getElem?_eq_some_iff.1 HR0.out).1).trans HR0.out
  obtain ⟨z0, z1, z2, z3, z4, z5⟩ := hr1.at
  have f0 : ∀ j, W1.frozen? ⟨w.heap.size, j, none⟩ = false := fun j => frozen_of_row W1 w.heap.size j _ _ hr1
  have hlt : w.heap.size < W1.heap.size := (Array.getElem?_eq_some_iff.1 hr1).1
  have HB1 : Hid (Below w.heap.size w W1) := hop HBW.out b1
  have hyb : (y == 0) = false := by simp [hy]
  have hyn : (y != 0) = true := by simp [hy]
  have HP : Hid (P y) := hP
  have HY : Hid (y ≠ 0) := hy
  clear hP hy hr1 HR0 b1
  go_wp2_with fail
  exact bodyPost_ret (v := .tuple #[nohd, .int .i64 x, .int .i64 y]) (by simp [results, Tryd.results26, go_sem, nohd, hv, *]) rfl ⟨hop (below6 HB1.out _ _ _ _ _ _) (bal _ _), x, y, rfl, HY.out, HP.out⟩

/-- How Read ends. -/
def ReadEnd (w : World) (n K M I B S D : Nat) (G : Nat → Nat) (e : Ending) (w' : World) : Prop :=
  Below w.heap.size w w' ∧ ((∃ y : Int, e = .returned (.tuple #[nohd, .slice none 0 0, .int .i64 y]) ∧ Bad n G B S y) ∨
    (∃ v, e = .returned (.tuple #[hv K M I B S D, v, .int .i64 0]) ∧ n = plen S B (nb S B) ∧ (∀ k, k < nb S B → Fit G B S k) ∧ Own w' w.heap.size v S (dat G B)))
theorem Crc.Bad.ne {n : Nat} {G : Nat → Nat} {B S : Nat} {y : Int} (h : Bad n G B S y) : y ≠ 0 := by
  rcases h with ⟨rfl, _⟩ | ⟨rfl, _⟩ | ⟨rfl, _⟩ <;> decide

set_option maxRecDepth 100000 in
set_option maxHeartbeats 2000000 in
theorem readF_good (w : World) (n c K M I B S D : Nat) (a : Option Addr) (G f : Nat → Nat) (T : HalfT w) (h : Row w a n G) (hn : 24 ≤ n) (hn2 : n ≤ 131072) (hc : n ≤ c) (hN : MayN K M I B S D) (hG : ∀ i, i < 24 → G i = file K M I B S D f i) :
    Calls Tryd.prog 17 #[.slice a n c] w (ReadEnd w n K M I B S D G) := by
  have hmf : ∀ (fn : Fn) (first cap : Array Value) (w : World), (Instr.makeFunc fn first cap).run Tryd.prog w = .ok (.func fn first cap) w := fun _ _ _ _ => rfl
  obtain ⟨Wa, hba⟩ : ∃ W, w.alloc (.cells #[.int .i64 0, .int .i64 0, .int .i64 0, .int .i64 0, .int .i64 0, .int .i64 0] 29) = W := ⟨_, rfl⟩
  have ba : Below w.heap.size w Wa := by rw [← hba]; exact bal _ _
  have hra : HdB Wa w.heap.size 0 0 0 0 0 0 29 := by rw [← hba]; exact heap_alloc_new _ _
  obtain ⟨Wb, hbb⟩ : ∃ W, Wa.alloc (.cells #[.slice none 0 0] 24) = W := ⟨_, rfl⟩
  have bb : Below Wa.heap.size Wa Wb := by rw [← hbb]; exact bal _ _
  have hdb : DvAt Wb Wa.heap.size (.slice none 0 0) := by rw [← hbb]; exact heap_alloc_new _ _
  have cP := pass_good Wa Wb Wa.heap.size n c K M I B S D a G f (T.keep ba) (h.keep ba) hn hn2 hc hN hG bb (Nat.le_refl _) hdb
  have HRA : Hid (HdB Wa w.heap.size 0 0 0 0 0 0 29) := hra
  have HBA : Hid (Below w.heap.size w Wa) := ba
  have hlt : w.heap.size < Wa.heap.size := (Array.getElem?_eq_some_iff.1 hra).1
  clear hra ba bb hdb T h hG hN
  go_enter Tryd.func17, Tryd.ntmps17
  go_wp2_with fail
  go_at_call 26
  refine cP.mono ?_
  rintro e W1 ⟨b1, hE⟩
  clear cP
  have hr1 : HdB W1 w.heap.size 0 0 0 0 0 0 29 := (b1.block _ hlt).trans HRA.out
  obtain ⟨z0, z1, z2, z3, z4, z5⟩ := hr1.at
  have f0 : ∀ j, W1.frozen? ⟨w.heap.size, j, none⟩ = false := fun j => frozen_of_row W1 w.heap.size j _ _ hr1
  have hlt1 : w.heap.size < W1.heap.size := Nat.lt_of_lt_of_le hlt b1.size
  have HB1 : Hid (Below w.heap.size w W1) := hop HBA.out b1
  rcases hE with ⟨x, y, rfl, hbad⟩ | ⟨rfl, hg1, hg2, v, hdv, hov⟩
  · have hy := hbad.ne
    have hyb : (y == 0) = false := by simp [hy]
    have hyn : (y != 0) = true := by simp [hy]
    have HBad : Hid (Bad n G B S y) := hbad
    clear hy hbad hr1 HRA b1 hba hbb
    unfold nohd hv
    go_wp2_with fail
    exact bodyPost_ret (v := .tuple #[nohd, .slice none 0 0, .int .i64 y]) (by simp [results, Tryd.results17, go_sem, nohd, hv, *]) rfl ⟨hop (below6 HB1.out _ _ _ _ _ _) (bal _ _), .inl ⟨y, rfl, HBad.out⟩⟩
  · have HG1 : Hid (n = plen S B (nb S B)) := hg1
    have HG2 : Hid (∀ k, k < nb S B → Fit G B S k) := hg2
    clear hg1 hg2
    unfold hv
    go_wp2_with fail
    obtain ⟨W2, hW2⟩ : ∃ W2, W2 = W1.alloc (.cells #[.int .i64 (K : Int), .int .i64 (M : Int), .int .i64 (I : Int), .int .i64 (B : Int), .int .i64 (S : Int), .int .i64 (D : Int)] 29) := ⟨_, rfl⟩
    rw [← hW2]
    have b12 : Below W1.heap.size W1 W2 := by rw [hW2]; exact bal _ _
    have hh2 : HdB W2 W1.heap.size K M I B S D 29 := by rw [hW2]; exact heap_alloc_new _ _
    have hr2 : HdB W2 w.heap.size 0 0 0 0 0 0 29 := (b12.block _ hlt1).trans hr1
    have hd2 := hdv.keep b12
    have ho2 := hov.keep b12
    have hb2 : Below w.heap.size w W2 := hop HB1.out b12
    obtain ⟨x0, x1, x2, x3, x4, x5⟩ := hh2.at
    have xd : W2.cell? ⟨Wa.heap.size, 0, none⟩ = some v := cell_of_row W2 Wa.heap.size 0 _ _ _ hd2
    obtain ⟨y0, y1, y2, y3, y4, y5⟩ := hr2.at
    have g0 : ∀ j, W2.frozen? ⟨w.heap.size, j, none⟩ = false := fun j => frozen_of_row W2 w.heap.size j _ _ hr2
    have n1 : W1.heap.size ≠ w.heap.size := by omega
    have n2 : Wa.heap.size ≠ w.heap.size := by omega
    have hv' : v = .slice none 0 0 ∨ ∃ q c', v = .slice (some ⟨q, 0, none⟩) S c' := by
      rcases hov.2 with ⟨e, _⟩ | ⟨q, c', _, e, _⟩
      · exact .inl e
      · exact .inr ⟨q, c', e⟩
    have HE : Hid (HdB W2 w.heap.size 0 0 0 0 0 0 29 ∧ Own W2 w.heap.size v S (dat G B) ∧ Below w.heap.size w W2) := ⟨hr2, ho2.mono (by omega), hb2⟩
    obtain ⟨q1, hq1⟩ : ∃ q, q = W1.heap.size := ⟨_, rfl⟩
    obtain ⟨qa, hqa⟩ : ∃ q, q = Wa.heap.size := ⟨_, rfl⟩
    obtain ⟨q0, hq0⟩ : ∃ q, q = w.heap.size := ⟨_, rfl⟩
    rw [← hq1] at x0 x1 x2 x3 x4 x5 n1 ⊢
    rw [← hqa] at xd n2 ⊢
    have HQ0 : Hid (q0 = w.heap.size) := hq0
    rw [← hq0] at y0 y1 y2 y3 y4 y5 g0 n1 n2 HE ⊢
    have n1' : q0 ≠ q1 := fun e => n1 e.symm
    have n2' : q0 ≠ qa := fun e => n2 e.symm
    clear hW2 b12 hh2 hr2 hd2 ho2 hb2 z0 z1 z2 z3 z4 z5 f0 hr1 hov hdv HB1 b1 hbb hba HRA HBA hlt hlt1 hq1 hqa hq0
    have HE' : Hid (HdB W2 q0 0 0 0 0 0 0 29 ∧ Own W2 w.heap.size v S (dat G B) ∧ Below w.heap.size w W2) := by
      have := HE.out
      rw [HQ0.out] at this ⊢
      exact this
    clear HE
    have HE := HE'
    clear HE'
    rcases hv' with rfl | ⟨qv, cv, rfl⟩
    · go_region_held3 (fun w' => w'.cell? ⟨q1, 0, none⟩ = some (.int .i64 (K : Int)) ∧ w'.cell? ⟨q1, 1, none⟩ = some (.int .i64 (M : Int)) ∧ w'.cell? ⟨q1, 2, none⟩ = some (.int .i64 (I : Int)) ∧ w'.cell? ⟨q1, 3, none⟩ = some (.int .i64 (B : Int)) ∧ w'.cell? ⟨q1, 4, none⟩ = some (.int .i64 (S : Int)) ∧ w'.cell? ⟨q1, 5, none⟩ = some (.int .i64 (D : Int)) ∧ w'.cell? ⟨qa, 0, none⟩ = some (.slice none 0 0)) (go_keep) (fail)
      all_goals
        go_wp2_with fail
        obtain ⟨E1, E2, E3⟩ := HE.out
        have hq : w.heap.size ≤ q0 := by have := HQ0.out; omega
        exact bodyPost_ret (v := .tuple #[hv K M I B S D, .slice none 0 0, .int .i64 0]) (by simp [results, Tryd.results17, go_sem, hv, *]) rfl ⟨(below6' E3 hq _ _ _ _ _ _).drew, .inr ⟨_, rfl, HG1.out, HG2.out, (own_put6 E2 E1 _ _ _ _ _ _).keep (Below.refl _ _).drew⟩⟩
    · go_region_held3 (fun w' => w'.cell? ⟨q1, 0, none⟩ = some (.int .i64 (K : Int)) ∧ w'.cell? ⟨q1, 1, none⟩ = some (.int .i64 (M : Int)) ∧ w'.cell? ⟨q1, 2, none⟩ = some (.int .i64 (I : Int)) ∧ w'.cell? ⟨q1, 3, none⟩ = some (.int .i64 (B : Int)) ∧ w'.cell? ⟨q1, 4, none⟩ = some (.int .i64 (S : Int)) ∧ w'.cell? ⟨q1, 5, none⟩ = some (.int .i64 (D : Int)) ∧ w'.cell? ⟨qa, 0, none⟩ = some (.slice (some ⟨qv, 0, none⟩) S cv)) (go_keep) (fail)
      all_goals
        go_wp2_with fail
        obtain ⟨E1, E2, E3⟩ := HE.out
        have hq : w.heap.size ≤ q0 := by have := HQ0.out; omega
        exact bodyPost_ret (v := .tuple #[hv K M I B S D, .slice (some ⟨qv, 0, none⟩) S cv, .int .i64 0]) (by simp [results, Tryd.results17, go_sem, hv, *]) rfl ⟨(below6' E3 hq _ _ _ _ _ _).drew, .inr ⟨_, rfl, HG1.out, HG2.out, (own_put6 E2 E1 _ _ _ _ _ _).keep (Below.refl _ _).drew⟩⟩

/-- How Read ends where pass refuses the head. -/
def ReadBad (w : World) (P : Int → Prop) (e : Ending) (w' : World) : Prop :=
  Below w.heap.size w w' ∧ ∃ y : Int, e = .returned (.tuple #[nohd, .slice none 0 0, .int .i64 y]) ∧ y ≠ 0 ∧ P y
set_option maxRecDepth 100000 in
set_option maxHeartbeats 1000000 in
theorem readF_bad (w : World) (n c : Nat) (a : Option Addr) (P : Int → Prop) (hn2 : n ≤ 131072)
    (cH : ∀ W, Below w.heap.size w W → Calls Tryd.prog 33 #[.slice a n c] W fun e w' => Below W.heap.size W w' ∧ ∃ x y : Int, e = .returned (.tuple #[nohd, .int .i64 x, .int .i64 y]) ∧ y ≠ 0 ∧ P y) :
    Calls Tryd.prog 17 #[.slice a n c] w (ReadBad w P) := by
  have hmf : ∀ (fn : Fn) (first cap : Array Value) (w : World), (Instr.makeFunc fn first cap).run Tryd.prog w = .ok (.func fn first cap) w := fun _ _ _ _ => rfl
  obtain ⟨Wa, hba⟩ : ∃ W, w.alloc (.cells #[.int .i64 0, .int .i64 0, .int .i64 0, .int .i64 0, .int .i64 0, .int .i64 0] 29) = W := ⟨_, rfl⟩
  have ba : Below w.heap.size w Wa := by rw [← hba]; exact bal _ _
  have hra : HdB Wa w.heap.size 0 0 0 0 0 0 29 := by rw [← hba]; exact heap_alloc_new _ _
  obtain ⟨Wb, hbb⟩ : ∃ W, Wa.alloc (.cells #[.slice none 0 0] 24) = W := ⟨_, rfl⟩
  have bb : Below Wa.heap.size Wa Wb := by rw [← hbb]; exact bal _ _
  have cP := pass_bad Wb n c a (.func (.func 27) #[] #[.pointer (some ⟨Wa.heap.size, 0, none⟩)]) P hn2 (fun W hW => cH W (hop ba (hop bb hW)))
  have hlt : w.heap.size < Wa.heap.size := (Array.getElem?_eq_some_iff.1 hra).1
  have hrb : HdB Wb w.heap.size 0 0 0 0 0 0 29 := (bb.block _ hlt).trans hra
  have HRB : Hid (HdB Wb w.heap.size 0 0 0 0 0 0 29) := hrb
  have HBB : Hid (Below w.heap.size w Wb) := hop ba bb
  have hltb : w.heap.size < Wb.heap.size := Nat.lt_of_lt_of_le hlt bb.size
  clear hra ba bb hrb cH hlt
  go_enter Tryd.func17, Tryd.ntmps17
  go_wp2_with fail
  go_at_call 26
  refine cP.mono ?_
  rintro e W1 ⟨b1, x, y, rfl, hy, hP⟩
  clear cP
  have hr1 : HdB W1 w.heap.size 0 0 0 0 0 0 29 := (b1.block _ hltb).trans HRB.out
  obtain ⟨z0, z1, z2, z3, z4, z5⟩ := hr1.at
  have f0 : ∀ j, W1.frozen? ⟨w.heap.size, j, none⟩ = false := fun j => frozen_of_row W1 w.heap.size j _ _ hr1
  have hlt1 : w.heap.size < W1.heap.size := Nat.lt_of_lt_of_le hltb b1.size
  have HB1 : Hid (Below w.heap.size w W1) := hop HBB.out b1
  have hyb : (y == 0) = false := by simp [hy]
  have hyn : (y != 0) = true := by simp [hy]
  have HY : Hid (y ≠ 0) := hy
  have HP : Hid (P y) := hP
  clear hy hP hr1 HRB b1 hba hbb
  unfold nohd hv
  go_wp2_with fail
  exact bodyPost_ret (v := .tuple #[nohd, .slice none 0 0, .int .i64 y]) (by simp [results, Tryd.results17, go_sem, nohd, hv, *]) rfl ⟨hop (below6 HB1.out _ _ _ _ _ _) (bal _ _), y, rfl, HY.out, HP.out⟩
end Go.Proofs.YtjbdncgmpccedaaDoor
