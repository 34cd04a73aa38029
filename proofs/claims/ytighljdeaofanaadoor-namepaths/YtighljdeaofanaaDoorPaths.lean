/-
  The law NamePaths of layer 6 (a path is read as the text that it is of; unlike texts have unlike paths, in the same order) answers true for all texts, where the tables of unicode/utf8 are as the program's text and the library lay them.
-/
import Derived.Test.YtighljdeaofanaaDoorRows
import Derived.WalkKit
import Derived.ProofKit
import Derived.OpenShut
import Derived.ShutString
import Derived.ChangeOld
import Derived.Below
import Derived.SizedLaws
import Derived.LaidMore
import Derived.Lay
import Derived.ChangeMaps5
import Derived.Stop.Joined
import Derived.SevenTiedAt
import Derived.Test.YtighljdeaofanaaDoorCards
import Derived.Test.YtighljdeaofanaaDoorTie
import Derived.Test.YtighljdeaofanaaDoorLd
import Derived.Test.YtighljdeaofanaaDoorOp6
namespace Go.Proofs.YtighljdeaofanaaDoor
namespace namePaths
open Go.ChangeShapes Go.WideShapes Go.ChangeAt Go.RowKit Go.Proofs.YtighljdeaofanaaDoor.Nm
set_option linter.unusedVariables false
attribute [local go_sem ↓] Go.wp_at_zero Go.wp_at_succ

theorem own : ownKnob Tryd.prog.godebug = none := by kernel_rfl
theorem laidOut : laidOutB Tryd.prog = true := by kernel_rfl

theorem ne_beq {a b : ByteArray} (h : a ≠ b) : (a.toList == b.toList) = false := by
  rw [tx_beq]; exact decide_eq_false fun e => h (tx_inj e)
set_option maxRecDepth 100000 in
set_option maxHeartbeats 2000000 in
theorem core (a b : ByteArray) (w : World) (T : Tabs w) (ha : a.size ≤ maxLen) (hb : b.size ≤ maxLen) :
    Calls Tryd.prog 5 #[.string a, .string b] w fun e w' => e = .returned (.bool true) ∧ Below w.heap.size w w' := by
  have c0 := awake_any w T
  unfold maxLen at ha hb
  by_cases h1 : 1000 < a.size
  · have g1 : (1000 : Int) < (a.size : Int) := by omega
    go_enter Tryd.func5, Tryd.ntmps5
    go_wp2_with (go_at_call 9; refine c0.mono ?_; rintro e w1 ⟨rfl, k1⟩)
    go_ret
    exact ⟨rfl, k1⟩
  by_cases h2 : 1000 < b.size
  · have g1 : decide ((1000 : Int) < (a.size : Int)) = false := decide_eq_false (by omega)
    have g2 : (1000 : Int) < (b.size : Int) := by omega
    go_enter Tryd.func5, Tryd.ntmps5
    go_wp2_with (go_at_call 9; refine c0.mono ?_; rintro e w1 ⟨rfl, k1⟩)
    go_ret
    exact ⟨rfl, k1⟩
  have g1 : decide ((1000 : Int) < (a.size : Int)) = false := decide_eq_false (by omega)
  have g2 : decide ((1000 : Int) < (b.size : Int)) = false := decide_eq_false (by omega)
  have c1 := fun W => path_any a W (by omega)
  have c2 := fun W => path_any b W (by omega)
  go_enter Tryd.func5, Tryd.ntmps5
  go_wp2_with fail
  go_at_call 9
  refine c0.mono ?_
  rintro e w1 ⟨rfl, k1⟩
  go_wp2_with fail
  go_at_call_of 17 (Value.string a)
  refine (c1 _).mono ?_
  rintro e w2 ⟨x, rfl, hx, k2⟩
  have k3 := hop k1 k2
  clear k1 k2 c0 c1
  go_wp2_with fail
  go_at_call_of 17 (Value.string b)
  refine (c2 _).mono ?_
  rintro e w4 ⟨y, rfl, hy, k4⟩
  have k5 := hop k3 k4
  clear k3 k4 c2
  have sx : x.size = 2 * a.size := by rw [← tx_length, hx, pth_length, tx_length]
  have sy : y.size = 2 * b.size := by rw [← tx_length, hy, pth_length, tx_length]
  have hu : unp (tx x) = some (tx a) := by rw [hx]; exact unp_pth _
  have c3 := fun W => unp_any x W (by omega)
  rw [hu] at c3
  have hl := pth_ls (tx a) (tx b)
  have hp := pth_pre (tx a) (tx b)
  rw [← hx, ← hy] at hl hp
  have c4 := fun W => less_any x y W
  have c5 := fun W => less_any a b W
  have c6 := fun W => prefix_any x y W (by unfold maxLen; omega) (by unfold maxLen; omega)
  have c7 := fun W => prefix_any a b W (by unfold maxLen; omega) (by unfold maxLen; omega)
  rw [hl] at c4
  rw [hp] at c6
  clear hl hp hu
  generalize ls (tx a) (tx b) = L at *
  generalize pre (tx a) (tx b) = P at *
  go_wp2_with fail
  go_at_call 10
  refine (c3 _).mono ?_
  rintro e w6 ⟨s, ok, rfl, hs, _, k6⟩
  have k := hop k5 k6
  obtain rfl : ok = true := by cases ok with | true => rfl | false => cases hs
  obtain rfl : a = s := tx_inj (Option.some.inj hs)
  clear hs k5 k6 c3
  have isx : (x.size : Int) = 2 * (a.size : Int) := by omega
  by_cases hab : a = b
  · subst hab
    obtain rfl : x = y := tx_inj (hx.trans hy.symm)
    clear hx hy sx sy
    go_wp2_with fail
    go_at_call_of 19 (Value.string x)
    refine (c4 _).mono ?_
    rintro e w8 ⟨rfl, rfl⟩
    go_wp2_with fail
    go_at_call 19
    refine (c5 _).mono ?_
    rintro e w8 ⟨rfl, rfl⟩
    go_wp2_with fail
    go_at_call_of 21 (Value.string x)
    refine (c6 _).mono ?_
    rintro e w8 ⟨rfl, rfl⟩
    go_wp2_with fail
    go_at_call 21
    refine (c7 _).mono ?_
    rintro e w8 ⟨rfl, rfl⟩
    go_wp2
    go_ret
    exact ⟨by simp, k⟩
  · have n1 := ne_beq hab
    have n2 : (x.toList == y.toList) = false := ne_beq fun e => hab (tx_inj (pth_inj _ _ (by rw [← hx, ← hy, e])))
    clear hx hy sx sy hab
    go_wp2_with fail
    go_at_call_of 19 (Value.string x)
    refine (c4 _).mono ?_
    rintro e w8 ⟨rfl, rfl⟩
    go_wp2_with fail
    go_at_call 19
    refine (c5 _).mono ?_
    rintro e w8 ⟨rfl, rfl⟩
    go_wp2_with fail
    go_at_call_of 21 (Value.string x)
    refine (c6 _).mono ?_
    rintro e w8 ⟨rfl, rfl⟩
    go_wp2_with fail
    go_at_call 21
    refine (c7 _).mono ?_
    rintro e w8 ⟨rfl, rfl⟩
    go_wp2
    go_ret
    exact ⟨by simp, k⟩


set_option maxRecDepth 100000 in
theorem lifted (os : Os) (started : os.Started) (H : Type) (enc : TypeId × Value → H) :
    ReturnsInHanded {} Tryd.checked os 5 .any (fun w args => (Rows.namePathsSpec.pre enc Tryd.prog Tryd.f5 [] false w args ∧ laidMetH Tryd.prog laidAll w) ∧ sizedMet enc Tryd.prog Tryd.f5 (OpenSpec.ofChange Rows.namePathsSpec) false w args) (Rows.namePathsSpec.post enc Tryd.prog Tryd.f5 false true false false) := by
  refine returnsInHanded_of_change_and (C := Tryd.checked) (X := fun w _ => laidMetH Tryd.prog laidAll w) (fun _ _ _ hh h => h.of_heap hh) own started (by kernel_rfl) Tryd.func5
    (ChangeSpec.witness_shaped (enc := enc) (C := Tryd.checked) (os := os) (X := fun w _ => laidMetH Tryd.prog laidAll w) false (World.laidAll Tryd.prog os laidAll) #[.string ⟨#[]⟩, .string ⟨#[]⟩] 8 (World.laidAll_os _ _ _) (World.shaped_of_ZipB (by kernel_rfl) (by kernel_rfl)) (by kernel_rfl) (by kernel_rfl) (by kernel_rfl) (door_met os _)) ?_
  intro W base args ds gs before hval0 hW _ hsz0 hL _
  have hval : ∀ (j : Nat) t v, Tryd.f5.params[j]? = some t → args[j]? = some v → Value.okWide Tryd.prog W .any base t v := hval0
  have hW' := hW
  obtain ⟨p, q, hA0, hV, rfl, hfz, hnd⟩ := hW
  have hA : DataW.TrodAll enc Tryd.prog W 0 (fun _ => true) true Tryd.f5.params.toList args.toList ds p := hA0
  rw [Tryd.params5] at hA hval
  have T := tabs_of hL
  obtain ⟨v0, vs0, d0, ds0, p0, q0, hargs, rfl, rfl, h0, r0⟩ := trodAll_cons hA
  obtain ⟨v1, vs1, d1, ds1, p1, q1, rfl, rfl, rfl, h1, r1⟩ := trodAll_cons r0
  obtain ⟨rfl, rfl, rfl⟩ := trodAll_nil r1
  obtain rfl : args = #[v0, v1] := by cases args; simp_all
  obtain ⟨rfl, rfl⟩ := trodVars_none hV
  have k0 := h0
  have lt0 : ∀ x ∈ p0, x.block < W.heap.size := by obtain ⟨m, hm⟩ := k0; exact DataW.trod_lt m _ _ _ hm
  obtain ⟨s0, e0, rfl⟩ := open_str (hval 0 9 v0 rfl rfl) h0
  have k1 := h1
  have lt1 : ∀ x ∈ p1, x.block < W.heap.size := by obtain ⟨m, hm⟩ := k1; exact DataW.trod_lt m _ _ _ hm
  obtain ⟨s1, e1, rfl⟩ := open_str (hval 1 9 v1 rfl rfl) h1
  clear hA0 hval0 hsz0 hL
  refine (core s0 s1 W T e0 e1).mono fun e W' ⟨he, bel⟩ => ?_
  subst he
  exact ⟨_, rfl, _, _, _, [], _, [], hW', trodAll_mk1 (shut_bool Tryd.underlying4 _), (trodAll_cons_mk (Below.trod laidOut (by kernel_rfl) (of_decide_eq_true (by kernel_rfl)) k0 bel lt0) (trodAll_cons_mk (Below.trod laidOut (by kernel_rfl) (of_decide_eq_true (by kernel_rfl)) k1 bel lt1) trodAll_mk0)), rfl, bel.frame _, fun h => by cases h⟩

theorem over : Rows.namePathsRow.holds Tryd.pinned (OpenSpec.ofChange Rows.namePathsSpec) :=
  OpenClaim.holds_of_wide 5 Tryd.f5 rfl rfl rfl rfl rfl rfl rfl ⟨rfl, rfl, rfl, rfl, rfl⟩ rfl rfl rfl rfl rfl (by kernel_rfl) Tryd.func5 (by kernel_rfl)
    (of_decide_eq_true (by kernel_rfl)) (by unfold Func.isWrapper; first | (rw [if_pos (by decide +kernel)]; kernel_rfl) | (rw [if_neg (by decide +kernel)]; exact ⟨rfl, rfl⟩))
    (fun os started H enc _ => lifted os started H enc)

end namePaths

/-- The statement. -/
theorem namePaths_holds : Rows.NamePathsCardSaid :=
  Claim7.holds_tied_plain_at .later [] [.data, .pinned] true (true, "2f6212f6c483f1dfb9692a65611a80a7d1f005e09cc4019013308721e6861ca3") false
    namePaths.over (fun _ h => by cases h) (by kernel_rfl) (fun _ h => by cases h) namePaths_row_tie rfl ⟨rfl, rfl⟩ (by kernel_rfl) rfl
    (fun f fn hf hfn => by
      obtain rfl : f = 5 := Option.some.inj ((show Tryd.prog.funcNamed "strongbox/strongboxlaw6.NamePaths" = some 5 by kernel_rfl).symm.trans hf) |>.symm
      obtain rfl : fn = Tryd.f5 := (Option.some.inj (Tryd.func5.symm.trans hfn)).symm
      exact ⟨by kernel_rfl, fun j t ht => by
        rw [Tryd.params5] at ht
        have hm : t ∈ [9, 9] := by simpa using Array.mem_of_getElem? ht
        have hall : ([9, 9].all fun u => !Tryd.prog.wantsStandIn u) = true := by kernel_rfl
        exact (show Tryd.prog.wantsStandIn t = false by simpa using List.all_eq_true.1 hall t hm)⟩)
    (by kernel_rfl)
#print axioms namePaths_holds
end Go.Proofs.YtighljdeaofanaaDoor
