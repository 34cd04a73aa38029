/-
  The law NameLooks of layer 6 (any texts: whether they are names of buckets, of keys; their paths, and back; which is ahead, what begins with what, what comes next) answers true for all texts, where the tables of unicode/utf8 are as the program's text and the library lay them.
-/
import Derived.Test.YtighljdeaofanaaDoorRows
import Derived.WalkKit
import Derived.ProofKit
import Derived.OpenShut
import Derived.ShutString
import Derived.ChangeOld
import Derived.Below
import Derived.SizedLaws
import Derived.LaidMore
import Derived.Lay
import Derived.ChangeMaps5
import Derived.Stop.Joined
import Derived.SevenTiedAt
import Derived.Test.YtighljdeaofanaaDoorCards
import Derived.Test.YtighljdeaofanaaDoorTie
import Derived.Test.YtighljdeaofanaaDoorLd
import Derived.Test.YtighljdeaofanaaDoorOp6
import Derived.Test.YtighljdeaofanaaDoorNmY
namespace Go.Proofs.YtighljdeaofanaaDoor
namespace nameLooks
open Go.ChangeShapes Go.WideShapes Go.ChangeAt Go.RowKit Go.Proofs.YtighljdeaofanaaDoor.Nm
set_option linter.unusedVariables false
attribute [local go_sem ↓] Go.wp_at_zero Go.wp_at_succ

theorem own : ownKnob Tryd.prog.godebug = none := by kernel_rfl
theorem laidOut : laidOutB Tryd.prog = true := by kernel_rfl

theorem bdn (w : World) (n : Nat) : Below w.heap.size w (w.drewN n) := ⟨rfl, rfl, rfl, Nat.le_refl _, fun _ _ => rfl⟩
theorem same_unp {l : List UInt8} {r s : ByteArray} {x y : Bool} (h1 : unp l = if x then some (tx r) else none) (z1 : x = false → tx r = []) (h2 : unp l = if y then some (tx s) else none) (z2 : y = false → tx s = []) : x = y ∧ r = s := by
  rw [h1] at h2
  cases x <;> cases y
  · exact ⟨rfl, tx_inj ((z1 rfl).trans (z2 rfl).symm)⟩
  · cases h2
  · cases h2
  · exact ⟨rfl, tx_inj (Option.some.inj h2)⟩
set_option maxRecDepth 100000 in
set_option maxHeartbeats 2000000 in
theorem core (a b : ByteArray) (w : World) (T : Tabs w) (ha : a.size ≤ maxLen) (hb : b.size ≤ maxLen) :
    Calls Tryd.prog 4 #[.string a, .string b] w fun e w' => e = .returned (.bool true) ∧ Below w.heap.size w w' := by
  have c0 := awake_any w T
  have ha' := ha
  have hb' := hb
  unfold maxLen at ha hb
  by_cases h1 : 1000 < a.size
  · have g1 : (1000 : Int) < (a.size : Int) := by omega
    go_enter Tryd.func4, Tryd.ntmps4
    go_wp2_with (go_at_call 9; refine c0.mono ?_; rintro e w1 ⟨rfl, k1⟩)
    go_ret
    exact ⟨rfl, k1⟩
  by_cases h2 : 1000 < b.size
  · have g1 : decide ((1000 : Int) < (a.size : Int)) = false := decide_eq_false (by omega)
    have g2 : (1000 : Int) < (b.size : Int) := by omega
    go_enter Tryd.func4, Tryd.ntmps4
    go_wp2_with (go_at_call 9; refine c0.mono ?_; rintro e w1 ⟨rfl, k1⟩)
    go_ret
    exact ⟨rfl, k1⟩
  have g1 : decide ((1000 : Int) < (a.size : Int)) = false := decide_eq_false (by omega)
  have g2 : decide ((1000 : Int) < (b.size : Int)) = false := decide_eq_false (by omega)
  have HT : Hid (Tabs w) := T
  have c1 := fun W => unp_any a W (by omega)
  have c2 := fun W => runp_any a W (by omega)
  have c3 := fun W (q : Tabs W) => bucketK a W (by omega) q
  have c4 := fun W => rbucket_any a W ha'
  have c5 := fun W (q : Tabs W) => keyK a W (by omega) q
  have c6 := fun W (q : Tabs W) => rkey_any a W (by omega) (valid_any a W (by omega) q)
  have c7 := fun W => path_any a W (by omega)
  have c8 := fun W => rpath_any a W (by omega)
  have c9 := fun W => less_any a b W
  have c10 := fun W => rless_any a b W ha' hb'
  have c11 := fun W => prefix_any a b W ha' hb'
  have c12 := fun W => rprefix_any a b W ha' hb'
  have c13 := fun W => next_any a W (by omega)
  have c14 := fun W => rnext_any a W (by omega)
  clear T ha' hb'
  generalize bkt (tx a) = B at *
  generalize ky (tx a) = K at *
  generalize ls (tx a) (tx b) = L at *
  generalize pre (tx a) (tx b) = P at *
  generalize hpa : pth (tx a) = pa at *
  generalize hna : nx (tx a) = na at *
  generalize hua : unp (tx a) = ua at *
  clear hpa hna
  go_enter Tryd.func4, Tryd.ntmps4
  go_wp2_with fail
  go_at_call 9
  refine c0.mono ?_
  rintro e w1 ⟨rfl, k1⟩
  clear c0
  go_wp2_with fail
  go_at_call 10
  refine (c1 _).mono ?_
  rintro e w2 ⟨x, ok, rfl, u1, z1, k2⟩
  have k := hop k1 k2
  clear k1 k2 c1
  go_wp2_with fail
  go_at_call 14
  refine (c2 _).mono ?_
  rintro e w3 ⟨y, is, rfl, u2, z2, k3⟩
  have k1 := hop k k3
  obtain ⟨rfl, rfl⟩ : ok = is ∧ x = y := by
    rw [← hua] at u1 u2
    exact same_unp u1 z1 u2 z2
  clear k k3 c2 u1 z1 u2 z2 hua
  go_wp2_with fail
  go_at_call 12
  refine (c3 _ (HT.out.keep k1)).mono ?_
  rintro e w4 ⟨rfl, k2⟩
  have k := hop k1 k2
  clear k1 k2 c3
  go_wp2_with fail
  go_at_call 15
  refine (c4 _).mono ?_
  rintro e w5 ⟨rfl, rfl⟩
  clear c4
  go_wp2_with fail
  go_at_call 11
  refine (c5 _ (HT.out.keep k)).mono ?_
  rintro e w5 ⟨rfl, k2⟩
  have k1 := hop k k2
  clear k k2 c5
  go_wp2_with fail
  go_at_call 16
  refine (c6 _ (HT.out.keep k1)).mono ?_
  rintro e w6 ⟨rfl, k2⟩
  have k := hop k1 k2
  clear k1 k2 c6
  go_wp2_with fail
  go_at_call 17
  refine (c7 _).mono ?_
  rintro e w7 ⟨r, rfl, hr, k2⟩
  have k1 := hop k k2
  clear k k2 c7
  go_wp2_with fail
  go_at_call 18
  refine (c8 _).mono ?_
  rintro e w8 ⟨s, rfl, hs, n8, rfl⟩
  obtain rfl : r = s := tx_inj (hr.trans hs.symm)
  have k := hop k1 (bdn _ n8)
  clear k1 hr hs c8
  go_wp2_with fail
  go_at_call 19
  refine (c9 _).mono ?_
  rintro e w9 ⟨rfl, rfl⟩
  clear c9
  go_wp2_with fail
  go_at_call 20
  refine (c10 _).mono ?_
  rintro e w9 ⟨rfl, n9, rfl⟩
  have k1 := hop k (bdn _ n9)
  rw [World.drewN_drewN] at k1
  clear k c10
  go_wp2_with fail
  go_at_call 21
  refine (c11 _).mono ?_
  rintro e w10 ⟨rfl, rfl⟩
  clear c11
  go_wp2_with fail
  go_at_call 22
  refine (c12 _).mono ?_
  rintro e w10 ⟨rfl, rfl⟩
  clear c12
  go_wp2_with fail
  go_at_call 13
  refine (c13 _).mono ?_
  rintro e w10 ⟨r2, rfl, hr, k2⟩
  have k := hop k1 k2
  clear k1 k2 c13
  go_wp2_with fail
  go_at_call 23
  refine (c14 _).mono ?_
  rintro e w11 ⟨s2, rfl, hs, k2⟩
  obtain rfl : r2 = s2 := tx_inj (hr.trans hs.symm)
  have k1 := hop k k2
  clear k k2 c14 hr hs
  go_wp2
  go_ret
  exact ⟨by simp, k1⟩


set_option maxRecDepth 100000 in
theorem lifted (os : Os) (started : os.Started) (H : Type) (enc : TypeId × Value → H) :
    ReturnsInHanded {} Tryd.checked os 4 .any (fun w args => (Rows.nameLooksSpec.pre enc Tryd.prog Tryd.f4 [] false w args ∧ laidMetH Tryd.prog laidAll w) ∧ sizedMet enc Tryd.prog Tryd.f4 (OpenSpec.ofChange Rows.nameLooksSpec) false w args) (Rows.nameLooksSpec.post enc Tryd.prog Tryd.f4 false true false false) := by
  refine returnsInHanded_of_change_and (C := Tryd.checked) (X := fun w _ => laidMetH Tryd.prog laidAll w) (fun _ _ _ hh h => h.of_heap hh) own started (by kernel_rfl) Tryd.func4
    (ChangeSpec.witness_shaped (enc := enc) (C := Tryd.checked) (os := os) (X := fun w _ => laidMetH Tryd.prog laidAll w) false (World.laidAll Tryd.prog os laidAll) #[.string ⟨#[]⟩, .string ⟨#[]⟩] 8 (World.laidAll_os _ _ _) (World.shaped_of_ZipB (by kernel_rfl) (by kernel_rfl)) (by kernel_rfl) (by kernel_rfl) (by kernel_rfl) (door_met os _)) ?_
  intro W base args ds gs before hval0 hW _ hsz0 hL _
  have hval : ∀ (j : Nat) t v, Tryd.f4.params[j]? = some t → args[j]? = some v → Value.okWide Tryd.prog W .any base t v := hval0
  have hW' := hW
  obtain ⟨p, q, hA0, hV, rfl, hfz, hnd⟩ := hW
  have hA : DataW.TrodAll enc Tryd.prog W 0 (fun _ => true) true Tryd.f4.params.toList args.toList ds p := hA0
  rw [Tryd.params4] at hA hval
  have T := tabs_of hL
  obtain ⟨v0, vs0, d0, ds0, p0, q0, hargs, rfl, rfl, h0, r0⟩ := trodAll_cons hA
  obtain ⟨v1, vs1, d1, ds1, p1, q1, rfl, rfl, rfl, h1, r1⟩ := trodAll_cons r0
  obtain ⟨rfl, rfl, rfl⟩ := trodAll_nil r1
  obtain rfl : args = #[v0, v1] := by cases args; simp_all
  obtain ⟨rfl, rfl⟩ := trodVars_none hV
  have k0 := h0
  have lt0 : ∀ x ∈ p0, x.block < W.heap.size := by obtain ⟨m, hm⟩ := k0; exact DataW.trod_lt m _ _ _ hm
  obtain ⟨s0, e0, rfl⟩ := open_str (hval 0 9 v0 rfl rfl) h0
  have k1 := h1
  have lt1 : ∀ x ∈ p1, x.block < W.heap.size := by obtain ⟨m, hm⟩ := k1; exact DataW.trod_lt m _ _ _ hm
  obtain ⟨s1, e1, rfl⟩ := open_str (hval 1 9 v1 rfl rfl) h1
  clear hA0 hval0 hsz0 hL
  refine (core s0 s1 W T e0 e1).mono fun e W' ⟨he, bel⟩ => ?_
  subst he
  exact ⟨_, rfl, _, _, _, [], _, [], hW', trodAll_mk1 (shut_bool Tryd.underlying4 _), (trodAll_cons_mk (Below.trod laidOut (by kernel_rfl) (of_decide_eq_true (by kernel_rfl)) k0 bel lt0) (trodAll_cons_mk (Below.trod laidOut (by kernel_rfl) (of_decide_eq_true (by kernel_rfl)) k1 bel lt1) trodAll_mk0)), rfl, bel.frame _, fun h => by cases h⟩

theorem over : Rows.nameLooksRow.holds Tryd.pinned (OpenSpec.ofChange Rows.nameLooksSpec) :=
  OpenClaim.holds_of_wide 4 Tryd.f4 rfl rfl rfl rfl rfl rfl rfl ⟨rfl, rfl, rfl, rfl, rfl⟩ rfl rfl rfl rfl rfl (by kernel_rfl) Tryd.func4 (by kernel_rfl)
    (of_decide_eq_true (by kernel_rfl)) (by unfold Func.isWrapper; first | (rw [if_pos (by decide +kernel)]; kernel_rfl) | (rw [if_neg (by decide +kernel)]; exact ⟨rfl, rfl⟩))
    (fun os started H enc _ => lifted os started H enc)

end nameLooks

/-- The statement. -/
theorem nameLooks_holds : Rows.NameLooksCardSaid :=
  Claim7.holds_tied_plain_at .later [] [.data, .pinned] true (true, "2f6212f6c483f1dfb9692a65611a80a7d1f005e09cc4019013308721e6861ca3") false
    nameLooks.over (fun _ h => by cases h) (by kernel_rfl) (fun _ h => by cases h) nameLooks_row_tie rfl ⟨rfl, rfl⟩ (by kernel_rfl) rfl
    (fun f fn hf hfn => by
      obtain rfl : f = 4 := Option.some.inj ((show Tryd.prog.funcNamed "strongbox/strongboxlaw6.NameLooks" = some 4 by kernel_rfl).symm.trans hf) |>.symm
      obtain rfl : fn = Tryd.f4 := (Option.some.inj (Tryd.func4.symm.trans hfn)).symm
      exact ⟨by kernel_rfl, fun j t ht => by
        rw [Tryd.params4] at ht
        have hm : t ∈ [9, 9] := by simpa using Array.mem_of_getElem? ht
        have hall : ([9, 9].all fun u => !Tryd.prog.wantsStandIn u) = true := by kernel_rfl
        exact (show Tryd.prog.wantsStandIn t = false by simpa using List.all_eq_true.1 hall t hm)⟩)
    (by kernel_rfl)
#print axioms nameLooks_holds
end Go.Proofs.YtighljdeaofanaaDoor
