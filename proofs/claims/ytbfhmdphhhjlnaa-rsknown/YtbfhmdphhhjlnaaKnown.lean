/-
  The law RsKnown of layer 3 (rows that are too few, of unlike lengths, of none; numbers that may not be) answers true.
-/
import Derived.Test.YtbfhmdphhhjlnaaRows
import Derived.WalkKit
import Derived.ProofKit
import Derived.OpenShut
import Derived.ShutString
import Derived.ChangeOld
import Derived.Below
import Derived.SizedLaws
import Derived.Test.YtbfhmdphhhjlnaaAwk
namespace Go.Proofs.Ytbfhmdphhhjlnaa
namespace rsKnown
open Go.ChangeShapes Go.WideShapes Go.ChangeAt Go.RowKit Gf
set_option linter.unusedVariables false
attribute [local go_sem ↓] Go.wp_at_zero Go.wp_at_succ

theorem own : ownKnob Try.prog.godebug = none := by kernel_rfl
theorem laidOut : laidOutB Try.prog = true := by kernel_rfl

set_option maxRecDepth 100000 in
theorem k3 (p : Nat) (S : Nat → Nat → Nat) (w : World) (hc : Code w p 2 4 S) :
    Calls Try.prog 11 #[.pointer (some ⟨p, 0, none⟩), .slice (some ⟨w.heap.size + 2, 0, none⟩) 2 2] (((w.alloc (.cells #[.int .u8 1] 5)).alloc (.cells #[.int .u8 1, .int .u8 2] 5)).alloc (.cells #[.slice (some ⟨w.heap.size, 0, none⟩) 1 1, .slice (some ⟨w.heap.size + 1, 0, none⟩) 2 2] 30)) fun e w' =>
      e = .returned (.tuple #[.slice none 0 0, .int .i64 1]) ∧ Below w.heap.size w w' := by
  obtain ⟨W, hW⟩ : ∃ W, W = (w.alloc (.cells #[.int .u8 1] 5)).alloc (.cells #[.int .u8 1, .int .u8 2] 5) := ⟨_, rfl⟩
  have hs : W.heap.size = w.heap.size + 2 := by rw [hW]; simp
  have b1 : Below w.heap.size w W := by rw [hW]; exact ((Below.refl _ _).alloc (Nat.le_refl _) _).alloc (by simp) _
  have r0 : Row W (some ⟨w.heap.size, 0, none⟩) 1 (fun _ => 1) := by rw [hW]; exact (lit1 w 1 (by omega)).keep (bal _ _)
  have r1 : Row W (some ⟨w.heap.size + 1, 0, none⟩) 2 (fun j => if j = 0 then 1 else 2) := by
    rw [hW]; have := lit2 (w.alloc (.cells #[.int .u8 1] 5)) 1 2 (by omega) (by omega); simpa using this
  rw [← hW, ← hs]
  have m := lit_hdr W #[.slice (some ⟨w.heap.size, 0, none⟩) 1 1, .slice (some ⟨w.heap.size + 1, 0, none⟩) 2 2] 2 (fun i => if i = 0 then some ⟨w.heap.size, 0, none⟩ else some ⟨w.heap.size + 1, 0, none⟩) (fun i => if i = 0 then 1 else 2) (fun i => if i = 0 then 1 else 2) (fun i j => if i = 0 then 1 else if j = 0 then 1 else 2)
    (fun i hi => by
      match i, hi with
      | 0, _ => rfl
      | 1, _ => rfl)
    (fun i hi => by
      match i, hi with
      | 0, _ => exact r0
      | 1, _ => exact r1)
    (fun i hi e => by
      match i, hi with
      | 0, _ => cases e
      | 1, _ => cases e)
    (fun i => by split <;> omega) (fun i j => by dsimp only; split; omega; split <;> omega)
  have b2 := b1.trans ((bal W (.cells #[.slice (some ⟨w.heap.size, 0, none⟩) 1 1, .slice (some ⟨w.heap.size + 1, 0, none⟩) 2 2] 30)).mono b1.size)
  refine (encode_no p 2 4 S _ _ 2 2 _ _ _ _ (hc.keep b2) m (by omega) (fun q => ?_)).mono ?_
  · have := q.2 1 (by omega)
    simp at this
  · rintro e w' ⟨rfl, rfl⟩
    exact ⟨rfl, b2⟩

set_option maxRecDepth 100000 in
theorem k4 (p : Nat) (S : Nat → Nat → Nat) (w : World) (hc : Code w p 2 4 S) :
    Calls Try.prog 12 #[.pointer (some ⟨p, 0, none⟩), .slice (some ⟨w.heap.size + 1, 0, none⟩) 4 4] ((w.alloc (.cells #[.int .u8 1] 5)).alloc (.cells #[.slice (some ⟨w.heap.size, 0, none⟩) 1 1, .slice none 0 0, .slice none 0 0, .slice none 0 0] 30)) fun e w' =>
      e = .returned (.tuple #[.slice none 0 0, .int .i64 2]) ∧ Below w.heap.size w w' := by
  obtain ⟨W, hW⟩ : ∃ W, W = w.alloc (.cells #[.int .u8 1] 5) := ⟨_, rfl⟩
  have hs : W.heap.size = w.heap.size + 1 := by rw [hW]; simp
  have b1 : Below w.heap.size w W := by rw [hW]; exact bal _ _
  have r0 : Row W (some ⟨w.heap.size, 0, none⟩) 1 (fun _ => 1) := by rw [hW]; exact lit1 w 1 (by omega)
  rw [← hW, ← hs]
  have m := lit_hdr W #[.slice (some ⟨w.heap.size, 0, none⟩) 1 1, .slice none 0 0, .slice none 0 0, .slice none 0 0] 4 (fun i => if i = 0 then some ⟨w.heap.size, 0, none⟩ else none) (fun i => if i = 0 then 1 else 0) (fun i => if i = 0 then 1 else 0) (fun _ _ => 1)
    (fun i hi => by
      match i, hi with
      | 0, _ => rfl
      | 1, _ => rfl
      | 2, _ => rfl
      | 3, _ => rfl)
    (fun i hi => by
      match i, hi with
      | 0, _ => exact r0
      | 1, _ => exact ⟨fun _ => by omega, fun q => absurd q (by simp)⟩
      | 2, _ => exact ⟨fun _ => by omega, fun q => absurd q (by simp)⟩
      | 3, _ => exact ⟨fun _ => by omega, fun q => absurd q (by simp)⟩)
    (fun i hi e => by
      match i, hi with
      | 0, _ => cases e
      | 1, _ => exact ⟨rfl, rfl⟩
      | 2, _ => exact ⟨rfl, rfl⟩
      | 3, _ => exact ⟨rfl, rfl⟩)
    (fun i => by split <;> omega) (fun i j => by show (1 : Nat) < 256; omega)
  have b2 := b1.trans ((bal W (.cells #[.slice (some ⟨w.heap.size, 0, none⟩) 1 1, .slice none 0 0, .slice none 0 0, .slice none 0 0] 30)).mono b1.size)
  refine (rebuild_any p 2 4 S _ _ 4 _ _ _ _ (hc.keep b2) m (fun i hi => by split <;> omega)).mono ?_
  rintro e w5 ⟨hre, b5⟩
  have hT := isT_pos (L := fun i => if i = 0 then 1 else 0) (N := 4) (x := 0) (by omega) (by simp)
  have hth : (th (isT (fun i => if i = 0 then 1 else 0) 4) 4).length = 1 := by rw [th_congr (q := fun i => decide (0 < (if i = 0 then 1 else 0))) (fun i _ => hT i)]; rfl
  refine ⟨reb_short (l := 1) hre (fun i _ q => ?_) (by omega) (by omega), hop b2 b5⟩
  rw [hT i] at q
  have := of_decide_eq_true q
  by_cases z : i = 0
  · rw [if_pos z]
  · rw [if_neg z] at this; omega

set_option maxRecDepth 100000 in
theorem k5 (p : Nat) (S : Nat → Nat → Nat) (w : World) (hc : Code w p 2 4 S) :
    Calls Try.prog 12 #[.pointer (some ⟨p, 0, none⟩), .slice (some ⟨w.heap.size + 2, 0, none⟩) 4 4] (((w.alloc (.cells #[.int .u8 1] 5)).alloc (.cells #[.int .u8 1, .int .u8 2] 5)).alloc (.cells #[.slice (some ⟨w.heap.size, 0, none⟩) 1 1, .slice (some ⟨w.heap.size + 1, 0, none⟩) 2 2, .slice none 0 0, .slice none 0 0] 30)) fun e w' =>
      e = .returned (.tuple #[.slice none 0 0, .int .i64 1]) ∧ Below w.heap.size w w' := by
  obtain ⟨W, hW⟩ : ∃ W, W = (w.alloc (.cells #[.int .u8 1] 5)).alloc (.cells #[.int .u8 1, .int .u8 2] 5) := ⟨_, rfl⟩
  have hs : W.heap.size = w.heap.size + 2 := by rw [hW]; simp
  have b1 : Below w.heap.size w W := by rw [hW]; exact ((Below.refl _ _).alloc (Nat.le_refl _) _).alloc (by simp) _
  have r0 : Row W (some ⟨w.heap.size, 0, none⟩) 1 (fun _ => 1) := by rw [hW]; exact (lit1 w 1 (by omega)).keep (bal _ _)
  have r1 : Row W (some ⟨w.heap.size + 1, 0, none⟩) 2 (fun j => if j = 0 then 1 else 2) := by
    rw [hW]; have := lit2 (w.alloc (.cells #[.int .u8 1] 5)) 1 2 (by omega) (by omega); simpa using this
  rw [← hW, ← hs]
  have m := lit_hdr W #[.slice (some ⟨w.heap.size, 0, none⟩) 1 1, .slice (some ⟨w.heap.size + 1, 0, none⟩) 2 2, .slice none 0 0, .slice none 0 0] 4 (fun i => if i = 0 then some ⟨w.heap.size, 0, none⟩ else if i = 1 then some ⟨w.heap.size + 1, 0, none⟩ else none) (fun i => if i = 0 then 1 else if i = 1 then 2 else 0) (fun i => if i = 0 then 1 else if i = 1 then 2 else 0) (fun i j => if i = 0 then 1 else if j = 0 then 1 else 2)
    (fun i hi => by
      match i, hi with
      | 0, _ => rfl
      | 1, _ => rfl
      | 2, _ => rfl
      | 3, _ => rfl)
    (fun i hi => by
      match i, hi with
      | 0, _ => exact r0
      | 1, _ => exact r1
      | 2, _ => exact ⟨fun j => by split; omega; split <;> omega, fun q => absurd q (by simp)⟩
      | 3, _ => exact ⟨fun j => by split; omega; split <;> omega, fun q => absurd q (by simp)⟩)
    (fun i hi e => by
      match i, hi with
      | 0, _ => cases e
      | 1, _ => cases e
      | 2, _ => exact ⟨rfl, rfl⟩
      | 3, _ => exact ⟨rfl, rfl⟩)
    (fun i => by split; omega; split <;> omega) (fun i j => by dsimp only; split; omega; split <;> omega)
  have b2 := b1.trans ((bal W (.cells #[.slice (some ⟨w.heap.size, 0, none⟩) 1 1, .slice (some ⟨w.heap.size + 1, 0, none⟩) 2 2, .slice none 0 0, .slice none 0 0] 30)).mono b1.size)
  refine (rebuild_any p 2 4 S _ _ 4 _ _ _ _ (hc.keep b2) m (fun i hi => by split; omega; split <;> omega)).mono ?_
  rintro e w5 ⟨hre, b5⟩
  have hT := isT_pos (L := fun i => if i = 0 then 1 else if i = 1 then 2 else 0) (N := 4) (x := 0) (by omega) (by simp)
  exact ⟨reb_unlike (i := 0) (j := 1) hre (by omega) (by omega) (by rw [hT]; rfl) (by rw [hT]; rfl) (by simp), hop b2 b5⟩

set_option maxRecDepth 100000 in
theorem k7 (p : Nat) (S : Nat → Nat → Nat) (w : World) (hc : Code w p 2 4 S) :
    Calls Try.prog 12 #[.pointer (some ⟨p, 0, none⟩), .slice (some ⟨w.heap.size, 0, none⟩) 4 4] (w.alloc (.cells (madeCells #[.slice none 0 0] 4) 30)) fun e w' =>
      ∃ h a c, e = .returned (.tuple #[.slice (some ⟨h, 0, none⟩) 4 4, .int .i64 0]) ∧ w'.cell? ⟨h, 3, none⟩ = some (.slice a 0 c) ∧ Below w.heap.size w w' := by
  have m := Hold.made w 4 (fun _ _ => 0) (fun _ _ => by show (0 : Nat) < 256; omega)
  refine (rebuild_any p 2 4 S _ _ 4 _ _ _ _ (hc.keep (bal _ _)) m.mat (fun i hi => by omega)).mono ?_
  rintro e w5 ⟨hre, b5⟩
  have hT := isT_zero (L := fun _ => 0) (N := 4) (fun _ _ => rfl)
  obtain ⟨h5, A5, C5, rfl, m5⟩ := reb_good (D := fun _ _ => 0) (l := 0) hre hc.sys (fun _ _ => by show (0 : Nat) < 256; omega) (by omega) (by omega) (fun _ _ _ => rfl) (fun _ _ _ j hj => absurd hj (by omega)) (by rw [th_congr (q := fun _ => true) (fun i _ => hT i)]; decide)
  exact ⟨h5, A5 3, C5 3, rfl, m5.cellAt (by omega), hop (bal _ _) b5⟩

set_option maxRecDepth 100000 in
theorem k8 (p : Nat) (S : Nat → Nat → Nat) (w : World) (hc : Code w p 2 4 S) :
    Calls Try.prog 13 #[.pointer (some ⟨p, 0, none⟩), .slice (some ⟨w.heap.size, 0, none⟩) 4 4] (w.alloc (.cells (madeCells #[.slice none 0 0] 4) 30)) fun e w' =>
      e = .returned (.tuple #[.bool true, .int .i64 0]) ∧ Below w.heap.size w w' := by
  have m := Hold.made w 4 (fun _ _ => 0) (fun _ _ => by show (0 : Nat) < 256; omega)
  refine (verify_any p 2 4 S _ _ 4 0 _ _ _ (hc.keep (bal _ _)) m.mat (by omega) (by omega)).mono ?_
  rintro e w5 ⟨hre, b5⟩
  rcases hre with ⟨rfl, _⟩ | ⟨_, hno⟩
  · exact ⟨rfl, hop (bal _ _) b5⟩
  · exact absurd (fun i _ j hj => absurd hj (by omega)) hno

set_option maxRecDepth 100000 in
set_option maxHeartbeats 4000000 in
theorem core (w : World) : Calls Try.prog 3 #[] w fun e w' => e = .returned (.bool true) ∧ Below w.heap.size w w' := by
  go_enter Try.func3, Try.ntmps3
  go_wp2_with fail
  go_at_call 9
  refine (awake_any _).mono ?_
  rintro e w1 ⟨rfl, b1⟩
  go_wp2_with fail
  go_at_call 10
  refine (rnew_no 0 1 _ (by omega) (by omega)).mono ?_
  rintro e w' ⟨rfl, rfl⟩
  go_wp2_with fail
  go_at_call 10
  refine (rnew_no 200 56 _ (by omega) (by omega)).mono ?_
  rintro e w' ⟨rfl, rfl⟩
  go_wp2_with fail
  go_at_call 10
  refine (rnew_yes 2 2 w1 (by omega) (by omega) (by omega)).mono ?_
  rintro e w2 ⟨p, S, rfl, _, hc, b2⟩
  have HC2 : Hid (Code w2 p 2 4 S) := hc
  clear hc
  go_wp2_with fail
  go_at_call 11
  refine (k3 p S w2 HC2.out).mono ?_
  rintro e w3 ⟨rfl, b3⟩
  have HC3 : Hid (Code w3 p 2 4 S) := HC2.out.keep b3
  go_wp2_with fail
  go_at_call 12
  refine (k4 p S w3 HC3.out).mono ?_
  rintro e w4 ⟨rfl, b4⟩
  have HC4 : Hid (Code w4 p 2 4 S) := HC3.out.keep b4
  go_wp2_with fail
  go_at_call 12
  refine (k5 p S w4 HC4.out).mono ?_
  rintro e w5 ⟨rfl, b5⟩
  have HC5 : Hid (Code w5 p 2 4 S) := HC4.out.keep b5
  go_wp2_with fail
  go_at_call 12
  have hb6 : Below w5.heap.size w5 ((((w5.alloc (.cells #[.int .u8 1] 5)).alloc (.cells #[.int .u8 1] 5)).alloc (.cells #[.int .u8 1] 5)).alloc (.cells #[.slice (some ⟨w5.heap.size, 0, none⟩) 1 1, .slice (some ⟨w5.heap.size + 1, 0, none⟩) 1 1, .slice (some ⟨w5.heap.size + 2, 0, none⟩) 1 1] 30)) := ((((Below.refl _ _).alloc (Nat.le_refl _) _).alloc (by simp) _).alloc (by simp; omega) _).alloc (by simp; omega) _
  refine (rebuild_len p 2 4 S _ _ 3 3 (HC5.out.keep hb6) (by omega)).mono ?_
  rintro e w6 ⟨rfl, rfl⟩
  obtain ⟨W6, hW6⟩ : ∃ W, W = ((((w5.alloc (.cells #[.int .u8 1] 5)).alloc (.cells #[.int .u8 1] 5)).alloc (.cells #[.int .u8 1] 5)).alloc (.cells #[.slice (some ⟨w5.heap.size, 0, none⟩) 1 1, .slice (some ⟨w5.heap.size + 1, 0, none⟩) 1 1, .slice (some ⟨w5.heap.size + 2, 0, none⟩) 1 1] 30)) := ⟨_, rfl⟩
  rw [← hW6] at hb6 ⊢
  clear hW6
  have HC6 : Hid (Code W6 p 2 4 S) := HC5.out.keep hb6
  have mk := fun w => run_make_row' (P := Try.prog) 27 30 (.slice none 0 0) 24 Try.underlying27 info27 rfl .i64 .i64 4 (by omega) (by omega) w
  have mk6 : Sem.run Try.prog (Instr.makeSlice 27 (.int .i64 4) (.int .i64 4)) W6 = _ := mk W6
  go_wp2_with fail
  go_at_call 12
  refine (k7 p S W6 HC6.out).mono ?_
  rintro e w7 ⟨h7, a7, c7, rfl, y7, b7⟩
  have HC7 : Hid (Code w7 p 2 4 S) := HC6.out.keep b7
  have mk7 : Sem.run Try.prog (Instr.makeSlice 27 (.int .i64 4) (.int .i64 4)) w7 = _ := mk w7
  clear mk6
  go_wp2_with fail
  go_at_call 13
  refine (k8 p S w7 HC7.out).mono ?_
  rintro e w8 ⟨rfl, b8⟩
  have y8 := (b8.cell (p := ⟨h7, 3, none⟩) (block_lt_of_cell y7)).trans y7
  clear mk7 y7 mk
  go_wp2
  go_ret
  exact ⟨rfl, hop b1 (hop b2 (hop b3 (hop b4 (hop b5 (hop hb6 (hop b7 b8))))))⟩


set_option maxRecDepth 100000 in
theorem lifted (os : Os) (started : os.Started) (H : Type) (enc : TypeId × Value → H) :
    ReturnsInHanded {} Try.checked os 3 .any (Rows.rsKnownSpec.pre6 enc Try.prog Try.f3 Rows.rsKnownRow.domain false) (Rows.rsKnownSpec.post enc Try.prog Try.f3 false true false false) := by
  refine returnsInHanded_of_change_sized (C := Try.checked) own started (by kernel_rfl) Try.func3
    (ChangeSpec.witness6 (enc := enc) (C := Try.checked) false ⟨#[], #[], []⟩ 8 (by kernel_rfl) (by kernel_rfl) (by kernel_rfl) (by kernel_rfl)) ?_
  intro W base args ds gs before hval0 hW hcnd hsz0 _
  have hval : ∀ (j : Nat) t v, Try.f3.params[j]? = some t → args[j]? = some v → Value.okWide Try.prog W .any base t v := hval0
  have hsz : (DataW.weightsEach Try.prog (Try.f3.params.toList ++ Rows.rsKnownSpec.plain.varTypes Try.prog) (ds ++ gs)).all (· ≤ reachBytes) = true := hsz0
  have hW' := hW
  obtain ⟨p, q, hA0, hV, rfl, hfz, hnd⟩ := hW
  have hA : DataW.TrodAll enc Try.prog W 0 (fun _ => true) true Try.f3.params.toList args.toList ds p := hA0
  rw [Try.params3] at hA hval hsz
  obtain ⟨hargs, rfl, rfl⟩ := trodAll_nil hA
  obtain rfl : args = #[] := by cases args; simp_all
  obtain ⟨rfl, rfl⟩ := trodVars_none hV
  clear hA0 hval0 hsz0
  refine (core  W ).mono fun e W' ⟨he, bel⟩ => ?_
  subst he
  exact ⟨_, rfl, _, _, _, [], _, [], hW', trodAll_mk1 (shut_bool Try.underlying4 _), trodAll_mk0, rfl, bel.frame _, fun h => by cases h⟩

theorem over : Rows.rsKnownRow.holds Try.pinned (OpenSpec.ofChange Rows.rsKnownSpec) :=
  OpenClaim.holds_of_wide 3 Try.f3 rfl rfl rfl rfl rfl rfl rfl ⟨rfl, rfl, rfl, rfl, rfl⟩ rfl rfl rfl rfl rfl (by kernel_rfl) Try.func3 (by kernel_rfl)
    (of_decide_eq_true (by kernel_rfl)) (by unfold Func.isWrapper; first | (rw [if_pos (by decide +kernel)]; kernel_rfl) | (rw [if_neg (by decide +kernel)]; exact ⟨rfl, rfl⟩))
    (fun os started H enc _ => lifted os started H enc)

end rsKnown

/-- The statement. -/
theorem rsKnown_holds : Rows.RsKnownSaid := rsKnown.over
#print axioms rsKnown_holds
end Go.Proofs.Ytbfhmdphhhjlnaa
