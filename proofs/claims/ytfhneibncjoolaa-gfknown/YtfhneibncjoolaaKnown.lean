/-
  The law GfKnown of layer 1 (chapter 1's examples, and what is not there) answers true, whatever the memory it is called in.
-/
import Derived.Test.YtfhneibncjoolaaRows
import Derived.WalkKit
import Derived.ProofKit
import Derived.OpenShut
import Derived.ShutString
import Derived.ChangeOld
import Derived.Below
import Derived.Test.YtfhneibncjoolaaAwake
namespace Go.Proofs.Ytfhneibncjoolaa
namespace gfKnown
open Go.ChangeShapes Go.WideShapes Go.ChangeAt Go.RowKit Gf
open Go.ChangeMaps (open_string shut_string)
set_option linter.unusedVariables false

theorem own : ownKnob Try.prog.godebug = none := by kernel_rfl

set_option maxRecDepth 100000 in
set_option maxHeartbeats 1000000 in
theorem walk (w : World) :
    Calls Try.prog 3 #[] w fun e w' => e = .returned (.bool true) ∧ Below w.heap.size w w' := by
  have hL2 : ∀ w b, Tab w b → Calls Try.prog 11 #[.pointer (some ⟨b, 0, none⟩), .int .u8 2] w fun e w' => e = .returned (.tuple #[.int .i64 1, .bool true]) ∧ w = w' := by
    intro w b t
    have := log_any b 2 w t (by omega)
    rw [show L 2 = 1 by decide +kernel] at this
    exact this
  have hL0 : ∀ w b, Tab w b → Calls Try.prog 11 #[.pointer (some ⟨b, 0, none⟩), .int .u8 0] w fun e w' => e = .returned (.tuple #[.int .i64 0, .bool false]) ∧ w = w' := by
    intro w b t
    have := log_any b 0 w t (by omega)
    rw [show L 0 = 0 by decide +kernel] at this
    exact this
  have hD5 : ∀ w b, Tab w b → Calls Try.prog 12 #[.pointer (some ⟨b, 0, none⟩), .int .u8 5, .int .u8 0] w fun e w' => e = .returned (.tuple #[.int .u8 0, .bool false]) ∧ ∃ n, w' = w.drewN n := by
    intro w b t
    have := div_any b 5 0 w t (by omega) (by omega)
    rw [show dv 5 0 = 0 by decide +kernel] at this
    exact this
  have hD0 : ∀ w b, Tab w b → Calls Try.prog 12 #[.pointer (some ⟨b, 0, none⟩), .int .u8 0, .int .u8 5] w fun e w' => e = .returned (.tuple #[.int .u8 0, .bool true]) ∧ ∃ n, w' = w.drewN n := by
    intro w b t
    have := div_any b 0 5 w t (by omega) (by omega)
    rw [show dv 0 5 = 0 by decide +kernel] at this
    exact this
  have hP1 : ∀ w b, Tab w b → Calls Try.prog 13 #[.pointer (some ⟨b, 0, none⟩), .int .u8 0, .int .i64 0] w fun e w' => e = .returned (.int .u8 1) ∧ w = w' := by
    intro w b t
    have := pow_any b 0 0 w t (by omega) (by omega) (by omega)
    rw [show pw 0 0 = 1 by decide +kernel] at this
    exact this
  have hP2 : ∀ w b, Tab w b → Calls Try.prog 13 #[.pointer (some ⟨b, 0, none⟩), .int .u8 0, .int .i64 3] w fun e w' => e = .returned (.int .u8 0) ∧ w = w' := by
    intro w b t
    have := pow_any b 0 3 w t (by omega) (by omega) (by omega)
    rw [show pw 0 3 = 0 by decide +kernel] at this
    exact this
  have hP3 : ∀ w b, Tab w b → Calls Try.prog 13 #[.pointer (some ⟨b, 0, none⟩), .int .u8 3, .int .i64 (-1)] w fun e w' => e = .returned (.int .u8 0) ∧ w = w' := by
    intro w b t
    have := pow_any b 3 (-1) w t (by omega) (by omega) (by omega)
    rw [show pw 3 (-1) = 0 by decide +kernel] at this
    exact this
  have hE1 : ∀ w b, Tab w b → Calls Try.prog 14 #[.pointer (some ⟨b, 0, none⟩), .int .i64 (-1)] w fun e w' => e = .returned (.int .u8 142) ∧ w = w' := by
    intro w b t
    have := exp_any b (-1) w t (by omega) (by omega)
    rw [show E (-1 % 255 : Int).toNat = 142 by decide +kernel] at this
    exact this
  have hE2 : ∀ w b, Tab w b → Calls Try.prog 14 #[.pointer (some ⟨b, 0, none⟩), .int .i64 255] w fun e w' => e = .returned (.int .u8 1) ∧ w = w' := by
    intro w b t
    have := exp_any b 255 w t (by omega) (by omega)
    rw [show E (255 % 255 : Int).toNat = 1 by decide +kernel] at this
    exact this
  go_enter Try.func3, Try.ntmps3
  go_wp2_with (go_at_call 9; refine (awake_any _).mono ?_; rintro e w1 ⟨rfl, hb1⟩)
  go_wp2_with (go_at_call 10; refine (new_any _).mono ?_; rintro e w2 ⟨rfl, hu, hb2⟩)
  have ht := hu.tab
  clear hu
  go_wp2_with fail
  go_at_call 11
  refine (hL2 _ _ ht).mono ?_
  rintro e w3 ⟨rfl, rfl⟩
  go_wp2_with fail
  go_at_call 11
  refine (hL0 _ _ ht).mono ?_
  rintro e w3 ⟨rfl, rfl⟩
  go_wp2_with fail
  go_at_call 12
  refine (hD5 _ _ ht).mono ?_
  rintro e w3 ⟨rfl, n, rfl⟩
  go_wp2_with fail
  go_at_call 12
  refine (hD0 _ _ (ht.drewN _)).mono ?_
  rintro e w3 ⟨rfl, m, rfl⟩
  go_wp2_with fail
  go_at_call 13
  refine (hP1 _ _ (ht.drewN _)).mono ?_
  rintro e w3 ⟨rfl, rfl⟩
  go_wp2_with fail
  go_at_call 13
  refine (hP2 _ _ (ht.drewN _)).mono ?_
  rintro e w3 ⟨rfl, rfl⟩
  go_wp2_with fail
  go_at_call 13
  refine (hP3 _ _ (ht.drewN _)).mono ?_
  rintro e w3 ⟨rfl, rfl⟩
  go_wp2_with fail
  go_at_call 14
  refine (hE1 _ _ (ht.drewN _)).mono ?_
  rintro e w3 ⟨rfl, rfl⟩
  go_wp2_with fail
  go_at_call 14
  refine (hE2 _ _ (ht.drewN _)).mono ?_
  rintro e w3 ⟨rfl, rfl⟩
  go_wp2
  go_ret
  exact ⟨rfl, hb1.trans (below_drewN (hb2.mono hb1.size) _)⟩

/-! ### THE ROW's STEP: WRITTEN OUT: LEAVE IT -/
set_option maxRecDepth 100000 in
theorem lifted (os : Os) (started : os.Started) (H : Type) (enc : TypeId × Value → H) :
    ReturnsInHanded {} Try.checked os 3 .any (Rows.gfKnownSpec.pre6 enc Try.prog Try.f3 Rows.gfKnownRow.domain false) (Rows.gfKnownSpec.post enc Try.prog Try.f3 false true false false) := by
  refine returnsInHanded_of_change (C := Try.checked) own started (by kernel_rfl) Try.func3
    (ChangeSpec.witness6 (enc := enc) (C := Try.checked) false ⟨#[], #[], []⟩ 8 (by kernel_rfl) (by kernel_rfl) (by kernel_rfl) (by kernel_rfl)) ?_
  intro W base args ds gs before hval0 hW hcnd _
  have hval : ∀ (j : Nat) t v, Try.f3.params[j]? = some t → args[j]? = some v → Value.okWide Try.prog W .any base t v := hval0
  have hW' := hW
  obtain ⟨p, q, hA0, hV, rfl, hfz, hnd⟩ := hW
  have hA : DataW.TrodAll enc Try.prog W 0 (fun _ => true) true Try.f3.params.toList args.toList ds p := hA0
  rw [Try.params3] at hA hval
  obtain ⟨rfl, rfl, rfl⟩ := trodAll_none hA
  obtain ⟨rfl, rfl⟩ := trodVars_none hV
  clear hA0 hval0
  simp only [List.append_nil] at hW'
  refine (walk  W).mono fun e W' ⟨he, bel⟩ => ?_
  subst he
  exact ⟨_, rfl, _, _, _, [], [], [], hW', trodAll_mk1 (shut_bool Try.underlying4 _), rfl, rfl, bel.frame _, fun h => by cases h⟩

theorem over : Rows.gfKnownRow.holds Try.pinned (OpenSpec.ofChange Rows.gfKnownSpec) :=
  OpenClaim.holds_of_wide 3 Try.f3 rfl rfl rfl rfl rfl rfl rfl ⟨rfl, rfl, rfl, rfl, rfl⟩ rfl rfl rfl rfl rfl (by kernel_rfl) Try.func3 (by kernel_rfl)
    (of_decide_eq_true (by kernel_rfl)) (by unfold Func.isWrapper; first | (rw [if_pos (by decide +kernel)]; kernel_rfl) | (rw [if_neg (by decide +kernel)]; exact ⟨rfl, rfl⟩))
    (fun os started H enc _ => lifted os started H enc)

end gfKnown

/-- The statement. -/
theorem gfKnown_holds : Rows.GfKnownSaid := gfKnown.over
#print axioms gfKnown_holds
end Go.Proofs.Ytfhneibncjoolaa
