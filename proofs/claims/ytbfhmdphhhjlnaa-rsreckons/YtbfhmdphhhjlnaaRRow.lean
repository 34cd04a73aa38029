/-
  What the document's own Rows does: the rows that are asked for, each in memory of its own.
-/
import Derived.Test.YtbfhmdphhhjlnaaREnc
namespace Go.Proofs.Ytbfhmdphhhjlnaa
open Go.RowKit Gf
attribute [local go_sem ↓] Go.wp_at_zero Go.wp_at_succ

set_option maxRecDepth 100000 in
set_option maxHeartbeats 2000000 in
theorem rrows_any (a a' : Option Addr) (n m c c' l : Nat) (A : Nat → Option Addr) (C : Nat → Nat) (F : Nat → Nat → Nat) (g : Nat → Nat) (w : World) (h : Mat w a n A (fun _ => l) C F) (hi : IRow w a' m (fun i => ((g i : Nat) : Int))) (n1 : 1 ≤ n) (n2 : n ≤ 255) (l1 : 1 ≤ l) (l2 : l ≤ 255) (m1 : 1 ≤ m) (m2 : m ≤ 255) (hg : ∀ i, i < m → g i < n) :
    Calls Try.prog 38 #[.slice a n c, .slice a' m c'] w fun e w' => ∃ v, e = .returned (.tuple #[v, .bool true]) ∧ Built w' w.heap.size v m (fun _ => l) (fun i => F (g i)) ∧ Below w.heap.size w w' := by
  have cM := good_yes a n c A (fun _ => l) C F w h (isM_const n1 n2 l1 l2)
  have HM : Hid (Mat w a n A (fun _ => l) C F) := h
  have HI : Hid (IRow w a' m (fun i => ((g i : Nat) : Int))) := hi
  have HG : Hid (∀ i, i < m → g i < n) := hg
  have g1 : decide ((m : Int) < 1) = false := decide_eq_false (by omega)
  have g2 : decide ((255 : Int) < (m : Int)) = false := decide_eq_false (by omega)
  have g3 : ¬ (m : Int) < 1 := by omega
  have g4 : ¬ (255 : Int) < (m : Int) := by omega
  clear h hi hg
  go_enter Try.func38, Try.ntmps38
  go_wp2_with fail
  go_at_call 49
  refine cM.mono ?_
  rintro e w' ⟨rfl, q, rfl⟩
  clear cM
  go_wp2
  go_loopw [6, 7] (fun v i wr => ∃ k : Nat, k ≤ m ∧ i = .int .i64 k ∧ Built wr w.heap.size v k (fun _ => l) (fun i => F (g i)) ∧ Below w.heap.size w wr) (fun _ i _ => m - (intOf i).toNat)
  case atStart => exact ⟨0, by omega, rfl, ⟨_, _, Bld.start (w.drewN q) w.heap.size (fun _ => none) (fun _ => l) (fun _ => 0) (fun i => F (g i))⟩, below_drewN (Below.refl _ _) q⟩
  case round =>
    obtain ⟨k, hk, rfl, hbl, hb⟩ := hrel
    by_cases hlt : k < m
    · have ik : (k : Int) < (m : Int) := by omega
      have hgk := HG.out k hlt
      have igk : ((g k : Nat) : Int) < (n : Int) := by omega
      have hM := HM.out.keep hb
      obtain ⟨b, o, rfl, hc⟩ := hM.lies (by omega)
      have ck := hc (g k) hgk
      obtain ⟨b2, o2, rfl, hc2⟩ := (HI.out.keep hb) (by omega)
      have ci : wr.cell? ⟨b2, o2 + k, none⟩ = some (.int .i64 ((g k : Nat) : Int)) := hc2 k hlt
      obtain ⟨a1, c1, W, hr1, hnew, hb1⟩ := appended0 (c := C (g k)) (hM.row (g k) hgk) (hM.nil (g k) hgk) (by omega)
      obtain ⟨v', W2, hr2, hbl2, hb2⟩ := hbl.push Try.underlying27 hb1 hb.size hnew (fun _ _ => rfl) (fun i j => HM.out.lt _ _) (by omega)
      have R1 : Hid _ := hr1
      have R2 : Hid _ := hr2
      have HB : Hid (Built W2 w.heap.size v' (k + 1) (fun _ => l) (fun i => F (g i))) := hbl2
      have HW : Hid (Below w.heap.size w W2) := hb.trans hb2
      have gz : decide (((g k : Nat) : Int) < 0) = false := decide_eq_false (by omega)
      have gn : decide ((n : Int) ≤ ((g k : Nat) : Int)) = false := decide_eq_false (by omega)
      clear hr1 hr2 hbl hbl2 hb2 hnew hb1 hb hM hc hc2
      generalize A (g k) = ak at *
      generalize C (g k) = cck at *
      generalize g k = gk at *
      go_wp2_with (at_builtin; first | refine wpList_append_ran (by rfl) _ _ 30 (by rfl) _ _ _ _ (by rfl) (by rfl) R1.out ?_ | refine wpList_append_ran (by rfl) _ _ 27 (by rfl) _ _ _ _ (by rfl) (by rfl) R2.out ?_)
      go_wp2
      go_round
      case rel => exact ⟨k + 1, by omega, by go_num, HB.out, HW.out⟩
      case measure => simp [intOf]; omega
    · have : k = m := by omega
      subst this
      have HB : Hid _ := hbl
      clear hbl
      go_wp2
      go_ret2
      exact ⟨_, rfl, HB.out, hb⟩
end Go.Proofs.Ytbfhmdphhhjlnaa
