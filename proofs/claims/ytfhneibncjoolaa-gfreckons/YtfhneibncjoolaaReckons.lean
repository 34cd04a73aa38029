/-
  The law GfReckons of layer 1 (any two of the field, any power: sum, product, quotient, inverse, power, logarithm as the document reckons them) answers true, whatever its arguments.
-/
import Derived.Test.YtfhneibncjoolaaRows
import Derived.WalkKit
import Derived.ProofKit
import Derived.OpenShut
import Derived.ShutString
import Derived.ChangeOld
import Derived.Below
import Derived.Test.YtfhneibncjoolaaAwake
import Derived.Test.YtfhneibncjoolaaRef
namespace Go.Proofs.Ytfhneibncjoolaa
namespace gfReckons
open Go.ChangeShapes Go.WideShapes Go.ChangeAt Go.RowKit Gf
open Go.ChangeMaps (open_string shut_string)
set_option linter.unusedVariables false

theorem own : ownKnob Try.prog.godebug = none := by kernel_rfl

theorem u8_nat {a : Int} (h : (Lit.int .u8 a).wf = true) : ∃ x : Nat, x < 256 ∧ a = (x : Int) := by
  have := bounds_u8 h
  exact ⟨a.toNat, by omega, by omega⟩

set_option maxRecDepth 100000 in
set_option maxHeartbeats 2000000 in
theorem walk (a0 : Int) (a1 : Int) (a2 : Int) (w0 : (Lit.int .u8 a0).wf = true) (w1 : (Lit.int .u8 a1).wf = true) (w2 : (Lit.int .i64 a2).wf = true) (w : World) :
    Calls Try.prog 4 #[.int .u8 a0, .int .u8 a1, .int .i64 a2] w fun e w' => e = .returned (.bool true) ∧ Below w.heap.size w w' := by
  obtain ⟨x, hx, rfl⟩ := u8_nat w0
  obtain ⟨y, hy, rfl⟩ := u8_nat w1
  have hn := bounds_i64 w2
  obtain ⟨n1, n2⟩ := hn
  clear w0 w1 w2
  have cDiv := fun w b (t : Tab w b) => div_any b x y w t hx hy
  have cRdiv := fun w => rdiv_any x y w hx hy
  have cInv := fun w b (t : Tab w b) => inv_any b x w t hx
  have cRinv := fun w => rinv_any x w hx
  have cLog := fun w b (t : Tab w b) => log_any b x w t hx
  have cRlog := fun w => rlog_any x w hx
  have cAdd := fun w => add_any x y w hx hy
  have hxor := u8_xor_nat x y hx hy
  have cMul := fun w => mul_any x y w hx hy
  have cRmul := fun w => rmul_any x y w hx hy
  have cTmul := fun w b (t : Tab w b) => tmul_any b x y w t hx hy
  have cExp := fun w b (t : Tab w b) => exp_any b a2 w t (by omega) (by omega)
  have cRexp := fun w => rexp_any a2 w (by omega) (by omega)
  have cPow := fun w b (t : Tab w b) => pow_any b x a2 w t hx (by omega) (by omega)
  have cRpow := fun w => rpow_any x a2 w hx (by omega) (by omega)
  generalize dv x y = d at *
  generalize dv 1 x = i at *
  generalize L x = l at *
  generalize M x y = m at *
  generalize E (a2 % 255).toNat = p at *
  generalize pw x a2 = q at *
  generalize x ^^^ y = s at *
  generalize decide (0 < x) = z1 at *
  generalize decide (0 < y) = z2 at *
  clear n1 n2
  cases z1 <;> cases z2
  all_goals
    go_enter Try.func4, Try.ntmps4
    go_wp2_with (go_at_call 9; refine (awake_any _).mono ?_; rintro e w1 ⟨rfl, hb1⟩)
    go_wp2_with (go_at_call 10; refine (new_any _).mono ?_; rintro e w2 ⟨rfl, hu, hb2⟩)
    have ht := hu.tab
    clear hu
    go_wp2_with fail
    go_at_call 12
    refine (cDiv _ _ ht).mono ?_
    rintro e w3 ⟨rfl, k1, rfl⟩
    go_wp2_with fail
    go_at_call 15
    refine (cRdiv _).mono ?_
    rintro e w3 ⟨rfl, rfl⟩
    go_wp2_with fail
    go_at_call 16
    refine (cInv _ _ (ht.drewN _)).mono ?_
    rintro e w3 ⟨rfl, k2, rfl⟩
    go_wp2_with fail
    go_at_call 17
    refine (cRinv _).mono ?_
    rintro e w3 ⟨rfl, rfl⟩
    go_wp2_with fail
    go_at_call 11
    refine (cLog _ _ (ht.drewN _)).mono ?_
    rintro e w3 ⟨rfl, rfl⟩
    go_wp2_with fail
    go_at_call 18
    refine (cRlog _).mono ?_
    rintro e w3 ⟨rfl, rfl⟩
    go_wp2_with fail
    go_at_call 19
    refine (cAdd _).mono ?_
    rintro e w3 ⟨rfl, rfl⟩
    go_wp2_with fail
    go_at_call 20
    refine (cMul _).mono ?_
    rintro e w3 ⟨rfl, rfl⟩
    go_wp2_with fail
    go_at_call 21
    refine (cRmul _).mono ?_
    rintro e w3 ⟨rfl, rfl⟩
    go_wp2_with fail
    go_at_call 22
    refine (cTmul _ _ (ht.drewN _)).mono ?_
    rintro e w3 ⟨rfl, k3, rfl⟩
    go_wp2_with fail
    go_at_call 21
    refine (cRmul _).mono ?_
    rintro e w3 ⟨rfl, rfl⟩
    go_wp2_with fail
    go_at_call 14
    refine (cExp _ _ (ht.drewN _)).mono ?_
    rintro e w3 ⟨rfl, rfl⟩
    go_wp2_with fail
    go_at_call 23
    refine (cRexp _).mono ?_
    rintro e w3 ⟨rfl, rfl⟩
    go_wp2_with fail
    go_at_call 13
    refine (cPow _ _ (ht.drewN _)).mono ?_
    rintro e w3 ⟨rfl, rfl⟩
    go_wp2_with fail
    go_at_call 24
    refine (cRpow _).mono ?_
    rintro e w3 ⟨rfl, rfl⟩
    go_wp2
    go_ret
    exact ⟨rfl, hb1.trans (below_drewN (hb2.mono hb1.size) _)⟩

/-! ### THE ROW's STEP: WRITTEN OUT: LEAVE IT -/
set_option maxRecDepth 100000 in
theorem lifted (os : Os) (started : os.Started) (H : Type) (enc : TypeId × Value → H) :
    ReturnsInHanded {} Try.checked os 4 .any (Rows.gfReckonsSpec.pre6 enc Try.prog Try.f4 Rows.gfReckonsRow.domain false) (Rows.gfReckonsSpec.post enc Try.prog Try.f4 false true false false) := by
  refine returnsInHanded_of_change (C := Try.checked) own started (by kernel_rfl) Try.func4
    (ChangeSpec.witness6 (enc := enc) (C := Try.checked) false ⟨#[], #[.int .u8 0, .int .u8 0, .int .i64 0], []⟩ 8 (by kernel_rfl) (by kernel_rfl) (by kernel_rfl) (by kernel_rfl)) ?_
  intro W base args ds gs before hval0 hW hcnd _
  have hval : ∀ (j : Nat) t v, Try.f4.params[j]? = some t → args[j]? = some v → Value.okWide Try.prog W .any base t v := hval0
  have hW' := hW
  obtain ⟨p, q, hA0, hV, rfl, hfz, hnd⟩ := hW
  have hA : DataW.TrodAll enc Try.prog W 0 (fun _ => true) true Try.f4.params.toList args.toList ds p := hA0
  rw [Try.params4] at hA hval
  obtain ⟨v0, vs0, d0, ds0, p0, q0, hargs, rfl, rfl, h0, r0⟩ := trodAll_cons hA
  obtain ⟨v1, vs1, d1, ds1, p1, q1, rfl, rfl, rfl, h1, r1⟩ := trodAll_cons r0
  obtain ⟨v2, vs2, d2, ds2, p2, q2, rfl, rfl, rfl, h2, r2⟩ := trodAll_cons r1
  obtain ⟨rfl, rfl, rfl⟩ := trodAll_nil r2
  obtain rfl : args = #[v0, v1, v2] := by cases args; simp_all
  obtain ⟨rfl, rfl⟩ := trodVars_none hV
  obtain ⟨a0, rfl, rfl, rfl, w0⟩ := open_int Try.underlying5 (hval 0 5 v0 rfl rfl) h0
  obtain ⟨a1, rfl, rfl, rfl, w1⟩ := open_int Try.underlying5 (hval 1 5 v1 rfl rfl) h1
  obtain ⟨a2, rfl, rfl, rfl, w2⟩ := open_int Try.underlying3 (hval 2 3 v2 rfl rfl) h2
  clear hA0 hval0
  simp only [List.append_nil] at hW'
  refine (walk a0 a1 a2 w0 w1 w2 W).mono fun e W' ⟨he, bel⟩ => ?_
  subst he
  exact ⟨_, rfl, _, _, _, [], [], [], hW', trodAll_mk1 (shut_bool Try.underlying4 _), (trodAll_cons_mk (shut_int Try.underlying5 w0) (trodAll_cons_mk (shut_int Try.underlying5 w1) (trodAll_cons_mk (shut_int Try.underlying3 w2) trodAll_mk0))), rfl, bel.frame _, fun h => by cases h⟩

theorem over : Rows.gfReckonsRow.holds Try.pinned (OpenSpec.ofChange Rows.gfReckonsSpec) :=
  OpenClaim.holds_of_wide 4 Try.f4 rfl rfl rfl rfl rfl rfl rfl ⟨rfl, rfl, rfl, rfl, rfl⟩ rfl rfl rfl rfl rfl (by kernel_rfl) Try.func4 (by kernel_rfl)
    (of_decide_eq_true (by kernel_rfl)) (by unfold Func.isWrapper; first | (rw [if_pos (by decide +kernel)]; kernel_rfl) | (rw [if_neg (by decide +kernel)]; exact ⟨rfl, rfl⟩))
    (fun os started H enc _ => lifted os started H enc)

end gfReckons

/-- The statement. -/
theorem gfReckons_holds : Rows.GfReckonsSaid := gfReckons.over
#print axioms gfReckons_holds
end Go.Proofs.Ytfhneibncjoolaa
