/-
  The law GfRules of layer 1 (the rules of a field: order, sums, quotients, powers) answers true for every three bytes.
-/
import Derived.Test.YtfhneibncjoolaaRows
import Derived.WalkKit
import Derived.ProofKit
import Derived.OpenShut
import Derived.ShutString
import Derived.ChangeOld
import Derived.Below
import Derived.Test.YtfhneibncjoolaaAwake
namespace Go.Proofs.Ytfhneibncjoolaa
namespace gfRules
open Go.ChangeShapes Go.WideShapes Go.ChangeAt Go.RowKit Gf
open Go.ChangeMaps (open_string shut_string)
set_option linter.unusedVariables false

theorem own : ownKnob Try.prog.godebug = none := by kernel_rfl

theorem u8_nat {a : Int} (h : (Lit.int .u8 a).wf = true) : ∃ x : Nat, x < 256 ∧ a = (x : Int) := by
  have := bounds_u8 h
  exact ⟨a.toNat, by omega, by omega⟩

theorem dv_M {x y : Nat} (hx : x < 256) (hy : y < 256) (h0 : 0 < y) : dv (M x y) y = x := by
  by_cases z : x = 0
  · subst z; rw [M_zero_left]; unfold dv; rw [if_pos (.inl rfl)]
  · have p := M_pos hx hy (by omega) h0
    have l := L_lt hy h0
    unfold dv; rw [if_neg (by omega), L_M hx hy (by omega) h0]
    conv => rhs; rw [← E_L hx (by omega)]
    exact E_congr (by omega)
theorem pw_nat (y k : Nat) : pw y (k : Int) = if k = 0 then 1 else if y = 0 then 0 else E (L y * k) := by
  unfold pw
  rw [if_neg (show ¬ (k : Int) < 0 by omega)]
  by_cases k0 : k = 0
  · subst k0; simp
  · rw [if_neg (show ¬ (k : Int) = 0 by omega), if_neg k0]
    by_cases z : y = 0
    · rw [if_pos z, if_pos z]
    · rw [if_neg z, if_neg z]
      apply E_congr
      rw [show ((k : Int) % 255).toNat = k % 255 by omega, Nat.mul_mod, Nat.mod_mod, ← Nat.mul_mod]
theorem pw_add {y : Nat} (m n : Nat) : M (pw y m) (pw y n) = pw y ((m : Int) + (n : Int)) := by
  have e := pw_nat y (m + n)
  rw [Int.natCast_add] at e
  rw [e, pw_nat, pw_nat]
  by_cases m0 : m = 0
  · subst m0
    rw [if_pos rfl, M_one_left (by split; omega; split; omega; exact E_lt _), Nat.zero_add]
  rw [if_neg m0, if_neg (show ¬ m + n = 0 by omega)]
  by_cases z : y = 0
  · rw [if_pos z, M_zero_left, if_pos z]
  rw [if_neg z]
  by_cases n0 : n = 0
  · subst n0
    rw [if_pos rfl, M_one_right (E_lt _), Nat.add_zero, if_neg z]
  · rw [if_neg n0, if_neg z, if_neg z, M_EE, Nat.mul_add]
theorem E_add (m n : Nat) : M (E ((m : Int) % 255).toNat) (E ((n : Int) % 255).toNat) = E (((m : Int) + (n : Int)) % 255).toNat := by
  rw [M_EE]; exact E_congr (by omega)

set_option maxRecDepth 100000 in
set_option maxHeartbeats 4000000 in
theorem walk (a0 : Int) (a1 : Int) (a2 : Int) (w0 : (Lit.int .u8 a0).wf = true) (w1 : (Lit.int .u8 a1).wf = true) (w2 : (Lit.int .u8 a2).wf = true) (w : World) :
    Calls Try.prog 5 #[.int .u8 a0, .int .u8 a1, .int .u8 a2] w fun e w' => e = .returned (.bool true) ∧ Below w.heap.size w w' := by
  obtain ⟨x, hx, rfl⟩ := u8_nat w0
  obtain ⟨y, hy, rfl⟩ := u8_nat w1
  obtain ⟨z, hz, rfl⟩ := u8_nat w2
  clear w0 w1 w2
  have tm := fun u v (hu : u < 256) (hv : v < 256) w b (t : Tab w b) => tmul_any b u v w t hu hv
  have lab := M_lt y hx
  have lbc := M_lt z hy
  have lac := M_lt z hx
  have lyz := xor_lt hy hz
  have cab := tm x y hx hy
  have cdiv := fun w b (t : Tab w b) => div_any b (M x y) y w t lab hy
  have cba := tm y x hy hx
  rw [M_comm hy hx] at cba
  have cab_c := tm (M x y) z lab hz
  have cbc := tm y z hy hz
  have ca_bc := tm x (M y z) hx lbc
  rw [← M_assoc hx hy hz] at ca_bc
  have cAdd := fun w => add_any y z w hy hz
  have ca_s := tm x (y ^^^ z) hx lyz
  rw [M_xor] at ca_s
  have cac := tm x z hx hz
  have cAdd2 := fun w => add_any (M x y) (M x z) w lab lac
  have ca1 : ∀ w b, Tab w b → Calls Try.prog 22 #[.pointer (some ⟨b, 0, none⟩), .int .u8 x, .int .u8 1] w fun e w' => e = .returned (.int .u8 x) ∧ ∃ n, w' = w.drewN n := by
    have := tm x 1 hx (by omega)
    rw [M_one_right hx] at this
    exact this
  have ca0 : ∀ w b, Tab w b → Calls Try.prog 22 #[.pointer (some ⟨b, 0, none⟩), .int .u8 x, .int .u8 0] w fun e w' => e = .returned (.int .u8 0) ∧ ∃ n, w' = w.drewN n := by
    have := tm x 0 hx (by omega)
    rw [M_zero_right] at this
    exact this
  have cpm := fun w b (t : Tab w b) => pow_any b y (x : Int) w t hy (by omega) (by omega)
  have cpn := fun w b (t : Tab w b) => pow_any b y (z : Int) w t hy (by omega) (by omega)
  have cps := fun w b (t : Tab w b) => pow_any b y ((x : Int) + (z : Int)) w t hy (by omega) (by omega)
  have cpmn := tm (pw y x) (pw y z) (pw_lt _ _) (pw_lt _ _)
  rw [pw_add] at cpmn
  have cAdd3 : ∀ w, Calls Try.prog 19 #[.int .u8 x, .int .u8 x] w fun e w' => e = .returned (.int .u8 0) ∧ w = w' := by
    intro w
    have := add_any x x w hx hx
    rw [Nat.xor_self] at this
    exact this
  have ces := fun w b (t : Tab w b) => exp_any b ((x : Int) + (z : Int)) w t (by omega) (by omega)
  have cem := fun w b (t : Tab w b) => exp_any b (x : Int) w t (by omega) (by omega)
  have cen := fun w b (t : Tab w b) => exp_any b (z : Int) w t (by omega) (by omega)
  have cemn := tm (E ((x : Int) % 255).toNat) (E ((z : Int) % 255).toNat) (E_lt _) (E_lt _)
  rw [E_add] at cemn
  clear tm
  by_cases hz0 : 0 < y
  · have hne : ((y : Int) != 0) = true := by simp; omega
    rw [dv_M hx hy hz0, decide_eq_true hz0] at cdiv
    clear hz0
    generalize M (M x y) z = abc at *
    generalize M x y = ab at *
    generalize M y z = bc at *
    generalize M x z = ac at *
    generalize ab ^^^ ac = s at *
    generalize y ^^^ z = yz at *
    generalize pw y ((x : Int) + (z : Int)) = ps at *
    generalize pw y x = pm at *
    generalize pw y z = pn at *
    generalize E (((x : Int) + (z : Int)) % 255).toNat = es at *
    generalize E ((x : Int) % 255).toNat = em at *
    generalize E ((z : Int) % 255).toNat = en at *
    go_enter Try.func5, Try.ntmps5
    go_wp2_with (go_at_call 9; refine (awake_any _).mono ?_; rintro e w1 ⟨rfl, hb1⟩)
    go_wp2_with (go_at_call 10; refine (new_any _).mono ?_; rintro e w2 ⟨rfl, hu, hb2⟩)
    have ht := hu.tab
    clear hu
    go_wp2_with fail
    go_at_call 22
    refine (cab _ _ ht).mono ?_
    rintro e w3 ⟨rfl, k1, rfl⟩
    go_wp2_with fail
    go_at_call 12
    refine (cdiv _ _ (ht.drewN _)).mono ?_
    rintro e w3 ⟨rfl, k2, rfl⟩
    go_wp2_with fail
    go_at_call 22
    refine (cab _ _ (ht.drewN _)).mono ?_
    rintro e w3 ⟨rfl, k3, rfl⟩
    go_wp2_with fail
    go_at_call 22
    refine (cba _ _ (ht.drewN _)).mono ?_
    rintro e w3 ⟨rfl, k4, rfl⟩
    go_wp2_with fail
    go_at_call 22
    refine (cab _ _ (ht.drewN _)).mono ?_
    rintro e w3 ⟨rfl, k5, rfl⟩
    go_wp2_with fail
    go_at_call 22
    refine (cab_c _ _ (ht.drewN _)).mono ?_
    rintro e w3 ⟨rfl, k6, rfl⟩
    go_wp2_with fail
    go_at_call 22
    refine (cbc _ _ (ht.drewN _)).mono ?_
    rintro e w3 ⟨rfl, k7, rfl⟩
    go_wp2_with fail
    go_at_call 22
    refine (ca_bc _ _ (ht.drewN _)).mono ?_
    rintro e w3 ⟨rfl, k8, rfl⟩
    go_wp2_with fail
    go_at_call 19
    refine (cAdd _).mono ?_
    rintro e w3 ⟨rfl, rfl⟩
    go_wp2_with fail
    go_at_call 22
    refine (ca_s _ _ (ht.drewN _)).mono ?_
    rintro e w3 ⟨rfl, k10, rfl⟩
    go_wp2_with fail
    go_at_call 22
    refine (cab _ _ (ht.drewN _)).mono ?_
    rintro e w3 ⟨rfl, k11, rfl⟩
    go_wp2_with fail
    go_at_call 22
    refine (cac _ _ (ht.drewN _)).mono ?_
    rintro e w3 ⟨rfl, k12, rfl⟩
    go_wp2_with fail
    go_at_call 19
    refine (cAdd2 _).mono ?_
    rintro e w3 ⟨rfl, rfl⟩
    go_wp2_with fail
    go_at_call 22
    refine (ca1 _ _ (ht.drewN _)).mono ?_
    rintro e w3 ⟨rfl, k14, rfl⟩
    go_wp2_with fail
    go_at_call 22
    refine (ca0 _ _ (ht.drewN _)).mono ?_
    rintro e w3 ⟨rfl, k15, rfl⟩
    go_wp2_with fail
    go_at_call 13
    refine (cpm _ _ (ht.drewN _)).mono ?_
    rintro e w3 ⟨rfl, rfl⟩
    go_wp2_with fail
    go_at_call 13
    refine (cpn _ _ (ht.drewN _)).mono ?_
    rintro e w3 ⟨rfl, rfl⟩
    go_wp2_with fail
    go_at_call 22
    refine (cpmn _ _ (ht.drewN _)).mono ?_
    rintro e w3 ⟨rfl, k18, rfl⟩
    go_wp2_with fail
    go_at_call 13
    refine (cps _ _ (ht.drewN _)).mono ?_
    rintro e w3 ⟨rfl, rfl⟩
    go_wp2_with fail
    go_at_call 19
    refine (cAdd3 _).mono ?_
    rintro e w3 ⟨rfl, rfl⟩
    go_wp2_with fail
    go_at_call 14
    refine (ces _ _ (ht.drewN _)).mono ?_
    rintro e w3 ⟨rfl, rfl⟩
    go_wp2_with fail
    go_at_call 14
    refine (cem _ _ (ht.drewN _)).mono ?_
    rintro e w3 ⟨rfl, rfl⟩
    go_wp2_with fail
    go_at_call 14
    refine (cen _ _ (ht.drewN _)).mono ?_
    rintro e w3 ⟨rfl, rfl⟩
    go_wp2_with fail
    go_at_call 22
    refine (cemn _ _ (ht.drewN _)).mono ?_
    rintro e w3 ⟨rfl, k24, rfl⟩
    go_wp2
    go_ret
    exact ⟨rfl, hb1.trans (below_drewN (hb2.mono hb1.size) _)⟩
  · have hne : ((y : Int) != 0) = false := by simp; omega
    rw [decide_eq_false hz0] at cdiv
    clear hz0
    generalize dv (M x y) y = dd at *
    generalize M (M x y) z = abc at *
    generalize M x y = ab at *
    generalize M y z = bc at *
    generalize M x z = ac at *
    generalize ab ^^^ ac = s at *
    generalize y ^^^ z = yz at *
    generalize pw y ((x : Int) + (z : Int)) = ps at *
    generalize pw y x = pm at *
    generalize pw y z = pn at *
    generalize E (((x : Int) + (z : Int)) % 255).toNat = es at *
    generalize E ((x : Int) % 255).toNat = em at *
    generalize E ((z : Int) % 255).toNat = en at *
    go_enter Try.func5, Try.ntmps5
    go_wp2_with (go_at_call 9; refine (awake_any _).mono ?_; rintro e w1 ⟨rfl, hb1⟩)
    go_wp2_with (go_at_call 10; refine (new_any _).mono ?_; rintro e w2 ⟨rfl, hu, hb2⟩)
    have ht := hu.tab
    clear hu
    go_wp2_with fail
    go_at_call 22
    refine (cab _ _ ht).mono ?_
    rintro e w3 ⟨rfl, k1, rfl⟩
    go_wp2_with fail
    go_at_call 12
    refine (cdiv _ _ (ht.drewN _)).mono ?_
    rintro e w3 ⟨rfl, k2, rfl⟩
    go_wp2_with fail
    go_at_call 22
    refine (cab _ _ (ht.drewN _)).mono ?_
    rintro e w3 ⟨rfl, k3, rfl⟩
    go_wp2_with fail
    go_at_call 22
    refine (cba _ _ (ht.drewN _)).mono ?_
    rintro e w3 ⟨rfl, k4, rfl⟩
    go_wp2_with fail
    go_at_call 22
    refine (cab _ _ (ht.drewN _)).mono ?_
    rintro e w3 ⟨rfl, k5, rfl⟩
    go_wp2_with fail
    go_at_call 22
    refine (cab_c _ _ (ht.drewN _)).mono ?_
    rintro e w3 ⟨rfl, k6, rfl⟩
    go_wp2_with fail
    go_at_call 22
    refine (cbc _ _ (ht.drewN _)).mono ?_
    rintro e w3 ⟨rfl, k7, rfl⟩
    go_wp2_with fail
    go_at_call 22
    refine (ca_bc _ _ (ht.drewN _)).mono ?_
    rintro e w3 ⟨rfl, k8, rfl⟩
    go_wp2_with fail
    go_at_call 19
    refine (cAdd _).mono ?_
    rintro e w3 ⟨rfl, rfl⟩
    go_wp2_with fail
    go_at_call 22
    refine (ca_s _ _ (ht.drewN _)).mono ?_
    rintro e w3 ⟨rfl, k10, rfl⟩
    go_wp2_with fail
    go_at_call 22
    refine (cab _ _ (ht.drewN _)).mono ?_
    rintro e w3 ⟨rfl, k11, rfl⟩
    go_wp2_with fail
    go_at_call 22
    refine (cac _ _ (ht.drewN _)).mono ?_
    rintro e w3 ⟨rfl, k12, rfl⟩
    go_wp2_with fail
    go_at_call 19
    refine (cAdd2 _).mono ?_
    rintro e w3 ⟨rfl, rfl⟩
    go_wp2_with fail
    go_at_call 22
    refine (ca1 _ _ (ht.drewN _)).mono ?_
    rintro e w3 ⟨rfl, k14, rfl⟩
    go_wp2_with fail
    go_at_call 22
    refine (ca0 _ _ (ht.drewN _)).mono ?_
    rintro e w3 ⟨rfl, k15, rfl⟩
    go_wp2_with fail
    go_at_call 13
    refine (cpm _ _ (ht.drewN _)).mono ?_
    rintro e w3 ⟨rfl, rfl⟩
    go_wp2_with fail
    go_at_call 13
    refine (cpn _ _ (ht.drewN _)).mono ?_
    rintro e w3 ⟨rfl, rfl⟩
    go_wp2_with fail
    go_at_call 22
    refine (cpmn _ _ (ht.drewN _)).mono ?_
    rintro e w3 ⟨rfl, k18, rfl⟩
    go_wp2_with fail
    go_at_call 13
    refine (cps _ _ (ht.drewN _)).mono ?_
    rintro e w3 ⟨rfl, rfl⟩
    go_wp2_with fail
    go_at_call 19
    refine (cAdd3 _).mono ?_
    rintro e w3 ⟨rfl, rfl⟩
    go_wp2_with fail
    go_at_call 14
    refine (ces _ _ (ht.drewN _)).mono ?_
    rintro e w3 ⟨rfl, rfl⟩
    go_wp2_with fail
    go_at_call 14
    refine (cem _ _ (ht.drewN _)).mono ?_
    rintro e w3 ⟨rfl, rfl⟩
    go_wp2_with fail
    go_at_call 14
    refine (cen _ _ (ht.drewN _)).mono ?_
    rintro e w3 ⟨rfl, rfl⟩
    go_wp2_with fail
    go_at_call 22
    refine (cemn _ _ (ht.drewN _)).mono ?_
    rintro e w3 ⟨rfl, k24, rfl⟩
    go_wp2
    go_ret
    exact ⟨rfl, hb1.trans (below_drewN (hb2.mono hb1.size) _)⟩

/-! ### THE ROW's STEP: WRITTEN OUT: LEAVE IT -/
set_option maxRecDepth 100000 in
theorem lifted (os : Os) (started : os.Started) (H : Type) (enc : TypeId × Value → H) :
    ReturnsInHanded {} Try.checked os 5 .any (Rows.gfRulesSpec.pre6 enc Try.prog Try.f5 Rows.gfRulesRow.domain false) (Rows.gfRulesSpec.post enc Try.prog Try.f5 false true false false) := by
  refine returnsInHanded_of_change (C := Try.checked) own started (by kernel_rfl) Try.func5
    (ChangeSpec.witness6 (enc := enc) (C := Try.checked) false ⟨#[], #[.int .u8 0, .int .u8 0, .int .u8 0], []⟩ 8 (by kernel_rfl) (by kernel_rfl) (by kernel_rfl) (by kernel_rfl)) ?_
  intro W base args ds gs before hval0 hW hcnd _
  have hval : ∀ (j : Nat) t v, Try.f5.params[j]? = some t → args[j]? = some v → Value.okWide Try.prog W .any base t v := hval0
  have hW' := hW
  obtain ⟨p, q, hA0, hV, rfl, hfz, hnd⟩ := hW
  have hA : DataW.TrodAll enc Try.prog W 0 (fun _ => true) true Try.f5.params.toList args.toList ds p := hA0
  rw [Try.params5] at hA hval
  obtain ⟨v0, vs0, d0, ds0, p0, q0, hargs, rfl, rfl, h0, r0⟩ := trodAll_cons hA
  obtain ⟨v1, vs1, d1, ds1, p1, q1, rfl, rfl, rfl, h1, r1⟩ := trodAll_cons r0
  obtain ⟨v2, vs2, d2, ds2, p2, q2, rfl, rfl, rfl, h2, r2⟩ := trodAll_cons r1
  obtain ⟨rfl, rfl, rfl⟩ := trodAll_nil r2
  obtain rfl : args = #[v0, v1, v2] := by cases args; simp_all
  obtain ⟨rfl, rfl⟩ := trodVars_none hV
  obtain ⟨a0, rfl, rfl, rfl, w0⟩ := open_int Try.underlying5 (hval 0 5 v0 rfl rfl) h0
  obtain ⟨a1, rfl, rfl, rfl, w1⟩ := open_int Try.underlying5 (hval 1 5 v1 rfl rfl) h1
  obtain ⟨a2, rfl, rfl, rfl, w2⟩ := open_int Try.underlying5 (hval 2 5 v2 rfl rfl) h2
  clear hA0 hval0
  simp only [List.append_nil] at hW'
  refine (walk a0 a1 a2 w0 w1 w2 W).mono fun e W' ⟨he, bel⟩ => ?_
  subst he
  exact ⟨_, rfl, _, _, _, [], [], [], hW', trodAll_mk1 (shut_bool Try.underlying4 _), (trodAll_cons_mk (shut_int Try.underlying5 w0) (trodAll_cons_mk (shut_int Try.underlying5 w1) (trodAll_cons_mk (shut_int Try.underlying5 w2) trodAll_mk0))), rfl, bel.frame _, fun h => by cases h⟩

theorem over : Rows.gfRulesRow.holds Try.pinned (OpenSpec.ofChange Rows.gfRulesSpec) :=
  OpenClaim.holds_of_wide 5 Try.f5 rfl rfl rfl rfl rfl rfl rfl ⟨rfl, rfl, rfl, rfl, rfl⟩ rfl rfl rfl rfl rfl (by kernel_rfl) Try.func5 (by kernel_rfl)
    (of_decide_eq_true (by kernel_rfl)) (by unfold Func.isWrapper; first | (rw [if_pos (by decide +kernel)]; kernel_rfl) | (rw [if_neg (by decide +kernel)]; exact ⟨rfl, rfl⟩))
    (fun os started H enc _ => lifted os started H enc)

end gfRules

/-- The statement. -/
theorem gfRules_holds : Rows.GfRulesSaid := gfRules.over
#print axioms gfRules_holds
end Go.Proofs.Ytfhneibncjoolaa
