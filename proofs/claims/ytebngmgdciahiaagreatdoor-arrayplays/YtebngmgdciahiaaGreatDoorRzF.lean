/-
  Arithmetic of the field and of codes (texts of stages 1 to 3, one behind the other, in a namespace of their own).
-/
import Derived.Test.YtebngmgdciahiaaGreatDoorRzE
set_option maxRecDepth 100000
namespace Go.Proofs.YtebngmgdciahiaaGreatDoor.Rz
open Go.RowKit Gf
attribute [local go_sem ↓] Go.wp_at_zero Go.wp_at_succ

theorem bal (w : World) (o : Obj) : Below w.heap.size w (w.alloc o) := (Below.refl _ _).alloc (Nat.le_refl _) _
theorem hop {a b c : World} (h : Below a.heap.size a b) (k : Below b.heap.size b c) : Below a.heap.size a c := h.trans (k.mono h.size)
/-- At p lies the document's code of k rows of data and m of parity, whose matrix is S. -/
structure RCode (w : World) (p k m N : Nat) (S : Nat → Nat → Nat) : Prop where
  k1 : 1 ≤ k
  m1 : 1 ≤ m
  km : k + m = N
  N2 : N ≤ 255
  sys : IsSys k S
  ex : ∃ h xc A C, w.cell? ⟨p, 0, none⟩ = some (.int .i64 k) ∧ w.cell? ⟨p, 1, none⟩ = some (.int .i64 m) ∧ w.cell? ⟨p, 2, none⟩ = some (.slice (some h) N xc) ∧ Mat w (some h) N A (fun _ => k) C S

theorem RCode.keep {w w' : World} {p k m N : Nat} {S : Nat → Nat → Nat} (c : RCode w p k m N S) (hb : Below w.heap.size w w') : RCode w' p k m N S := by
  obtain ⟨h, xc, A, C, c0, c1, c2, mS⟩ := c.ex
  exact ⟨c.k1, c.m1, c.km, c.N2, c.sys, h, xc, A, C, (hb.cell (p := ⟨p, 0, none⟩) (block_lt_of_cell c0)).trans c0, (hb.cell (p := ⟨p, 1, none⟩) (block_lt_of_cell c1)).trans c1, (hb.cell (p := ⟨p, 2, none⟩) (block_lt_of_cell c2)).trans c2, mS.keep hb⟩
theorem RCode.drewN {w : World} {p k m N : Nat} {S : Nat → Nat → Nat} (c : RCode w p k m N S) (n : Nat) : RCode (w.drewN n) p k m N S := by
  obtain ⟨h, xc, A, C, c0, c1, c2, mS⟩ := c.ex
  exact ⟨c.k1, c.m1, c.km, c.N2, c.sys, h, xc, A, C, c0, c1, c2, mS.drewN n⟩

set_option maxRecDepth 100000 in
set_option maxHeartbeats 1000000 in
theorem refnew_yes (k m : Nat) (w : World) (k1 : 1 ≤ k) (m1 : 1 ≤ m) (hkm : k + m ≤ 255) :
    Calls Tryz.prog 51 #[.int .i64 k, .int .i64 m] w fun e w' => ∃ p S, e = .returned (.tuple #[.pointer (some ⟨p, 0, none⟩), .int .i64 0]) ∧ w.heap.size ≤ p ∧ RCode w' p k m (k + m) S ∧ Below w.heap.size w w' := by
  have cS := rsystematic_yes k m w k1 m1 hkm
  obtain ⟨N, hN⟩ : ∃ N, N = k + m := ⟨_, rfl⟩
  rw [← hN] at cS hkm ⊢
  have HN : Hid (N = k + m) := hN
  clear hN
  go_enter Tryz.func51, Tryz.ntmps51
  go_wp2_with fail
  go_at_call 87
  refine cS.mono ?_
  rintro e w1 ⟨v, X, base, rfl, iv, lX, ⟨A, C, bl⟩, b1⟩
  obtain ⟨h, c', rfl, _⟩ := bl.form2 (by have := HN.out; omega)
  have HI : Hid (IsInv k V X) := iv
  have HX : Hid (B X) := lX
  have HM : Hid (Mat w1 (some h) N A (fun _ => k) C (mm k V X)) := bl.mat (fun _ => by have := HN.out; omega) (mm_B V_B)
  clear cS iv lX bl
  go_wp2
  go_ret2
  have b2 : Below w1.heap.size w1 (w1.alloc (.cells #[.int .i64 (k : Int), .int .i64 (m : Int), .slice (some h) N c'] 154)) := bal _ _
  refine ⟨w1.heap.size, mm k V X, rfl, b1.size, ⟨k1, m1, HN.out.symm, hkm, ⟨X, HI.out, HX.out, rfl⟩, h, c', A, C, ?_, ?_, ?_, HM.out.keep b2⟩, hop b1 b2⟩
  all_goals (rw [World.cell?_alloc_new]; rfl)

end Go.Proofs.YtebngmgdciahiaaGreatDoor.Rz
