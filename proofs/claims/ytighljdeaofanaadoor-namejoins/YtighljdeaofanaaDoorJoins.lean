/-
  The law NameJoins of layer 6 (two buckets' names with a point between are one, if it is not too long; two keys one behind the other likewise; paths are put together so) answers true for all texts, where the tables of unicode/utf8 are as the program's text and the library lay them.
-/
import Derived.Test.YtighljdeaofanaaDoorRows
import Derived.WalkKit
import Derived.ProofKit
import Derived.OpenShut
import Derived.ShutString
import Derived.ChangeOld
import Derived.Below
import Derived.SizedLaws
import Derived.LaidMore
import Derived.Lay
import Derived.ChangeMaps5
import Derived.Stop.Joined
import Derived.SevenTiedAt
import Derived.Test.YtighljdeaofanaaDoorCards
import Derived.Test.YtighljdeaofanaaDoorTie
import Derived.Test.YtighljdeaofanaaDoorLd
import Derived.Test.YtighljdeaofanaaDoorOp6
namespace Go.Proofs.YtighljdeaofanaaDoor
namespace nameJoins
open Go.ChangeShapes Go.WideShapes Go.ChangeAt Go.RowKit Go.Proofs.YtighljdeaofanaaDoor.Nm
set_option linter.unusedVariables false
attribute [local go_sem ↓] Go.wp_at_zero Go.wp_at_succ

theorem own : ownKnob Tryd.prog.godebug = none := by kernel_rfl
theorem laidOut : laidOutB Tryd.prog = true := by kernel_rfl

theorem bkt_join (a b : List UInt8) (ha : bkt a = true) (hb : bkt b = true) : bkt (a ++ 46 :: b) = decide (a.length + b.length + 1 ≤ 63) := by
  unfold bkt at *
  rw [Bool.and_eq_true, decide_eq_true_iff] at ha hb
  rw [bk_join, ha.2, hb.2, List.length_append, List.length_cons]
  simp only [Bool.and_true]
  exact decide_eq_decide.2 (by omega)
set_option maxRecDepth 100000 in
set_option maxHeartbeats 4000000 in
theorem core (a b : ByteArray) (w : World) (T : Tabs w) (ha : a.size ≤ maxLen) (hb : b.size ≤ maxLen) :
    Calls Tryd.prog 8 #[.string a, .string b] w fun e w' => e = .returned (.bool true) ∧ Below w.heap.size w w' := by
  have c0 := awake_any w T
  unfold maxLen at ha hb
  by_cases h1 : 1000 < a.size
  · have g1 : (1000 : Int) < (a.size : Int) := by omega
    go_enter Tryd.func8, Tryd.ntmps8
    go_wp2_with (go_at_call 9; refine c0.mono ?_; rintro e w1 ⟨rfl, k1⟩)
    go_ret
    exact ⟨rfl, k1⟩
  by_cases h2 : 1000 < b.size
  · have g1 : decide ((1000 : Int) < (a.size : Int)) = false := decide_eq_false (by omega)
    have g2 : (1000 : Int) < (b.size : Int) := by omega
    go_enter Tryd.func8, Tryd.ntmps8
    go_wp2_with (go_at_call 9; refine c0.mono ?_; rintro e w1 ⟨rfl, k1⟩)
    go_ret
    exact ⟨rfl, k1⟩
  have g1 : decide ((1000 : Int) < (a.size : Int)) = false := decide_eq_false (by omega)
  have g2 : decide ((1000 : Int) < (b.size : Int)) = false := decide_eq_false (by omega)
  have HT : Hid (Tabs w) := T
  have hdot : (⟨#[46]⟩ : ByteArray).size = 1 := rfl
  have tdot : tx (⟨#[46]⟩ : ByteArray) = [46] := rfl
  have s1 : (a ++ (⟨#[46]⟩ : ByteArray)).size = a.size + 1 := by rw [ByteArray.size_append, hdot]
  have s2 : (a ++ (⟨#[46]⟩ : ByteArray) ++ b).size = a.size + 1 + b.size := by rw [ByteArray.size_append, s1]
  have s3 : (a ++ b).size = a.size + b.size := ByteArray.size_append
  have f1 : (9223372036854775807 < a.size + 1) = False := eq_false (by omega)
  have f2 : (9223372036854775807 < a.size + 1 + b.size) = False := eq_false (by omega)
  have f3 : (9223372036854775807 < a.size + b.size) = False := eq_false (by omega)
  have c1 := fun W (q : Tabs W) => bucketK a W (by omega) q
  have c2 := fun W (q : Tabs W) => bucketK b W (by omega) q
  have c3 := fun W (q : Tabs W) => bucketK (a ++ (⟨#[46]⟩ : ByteArray) ++ b) W (by omega) q
  have c4 := fun W (q : Tabs W) => keyK a W (by omega) q
  have c5 := fun W (q : Tabs W) => keyK b W (by omega) q
  have c6 := fun W (q : Tabs W) => keyK (a ++ b) W (by omega) q
  have c7 := fun W => path_any (a ++ b) W (by omega)
  have c8 := fun W => path_any a W (by omega)
  have c9 := fun W => path_any b W (by omega)
  rw [tx_app, tx_app, tdot, List.append_assoc] at c3
  rw [tx_app] at c6
  rw [tx_app, pth_app] at c7
  have j1 := bkt_join (tx a) (tx b)
  have j2 := ky_join (tx a) (tx b)
  rw [tx_length, tx_length] at j1 j2
  rw [show tx a ++ ([46] ++ tx b) = tx a ++ 46 :: tx b from rfl] at c3
  generalize bkt (tx a) = Ba at *
  generalize bkt (tx b) = Bb at *
  generalize bkt (tx a ++ 46 :: tx b) = Bc at *
  generalize ky (tx a) = Ka at *
  generalize ky (tx b) = Kb at *
  generalize ky (tx a ++ tx b) = Kc at *
  clear T
  go_enter Tryd.func8, Tryd.ntmps8
  go_wp2_with fail
  go_at_call 9
  refine c0.mono ?_
  rintro e w1 ⟨rfl, k1⟩
  clear c0
  go_upto_region 5 with fail
  go_cut [5] (fun s wx => s = .bool true ∧ Below w.heap.size w wx)
  case first =>
    clear c4 c5 c6 c7 c8 c9 j2
    cases Ba with
    | false =>
      go_wp2_with fail
      go_at_call 12
      refine (c1 _ (HT.out.keep k1)).mono ?_
      rintro e w4 ⟨rfl, k2⟩
      go_wp2
      go_meet
      exact ⟨rfl, hop k1 k2⟩
    | true =>
      cases Bb with
      | false =>
        go_wp2_with fail
        go_at_call_of 12 (Value.string a)
        refine (c1 _ (HT.out.keep k1)).mono ?_
        rintro e w4 ⟨rfl, k2⟩
        have k := hop k1 k2
        go_wp2_with fail
        go_at_call 12
        refine (c2 _ (HT.out.keep k)).mono ?_
        rintro e w5 ⟨rfl, k3⟩
        go_wp2
        go_meet
        exact ⟨rfl, hop k k3⟩
      | true =>
        have hj := j1 rfl rfl
        subst hj
        by_cases hz : a.size + b.size + 1 ≤ 63
        · rw [decide_eq_true hz] at c3
          have iz : (a.size : Int) + (b.size : Int) + 1 ≤ 63 := by omega
          clear j1
          go_wp2_with fail
          go_at_call_of 12 (Value.string a)
          refine (c1 _ (HT.out.keep k1)).mono ?_
          rintro e w4 ⟨rfl, k2⟩
          have k := hop k1 k2
          go_wp2_with fail
          go_at_call_of 12 (Value.string b)
          refine (c2 _ (HT.out.keep k)).mono ?_
          rintro e w5 ⟨rfl, k3⟩
          have k4 := hop k k3
          go_wp2_with fail
          go_at_call 12
          refine (c3 _ (HT.out.keep k4)).mono ?_
          rintro e w6 ⟨rfl, k5⟩
          go_wp2
          go_meet
          exact ⟨rfl, hop k4 k5⟩
        · rw [decide_eq_false hz] at c3
          have iz : decide ((a.size : Int) + (b.size : Int) + 1 ≤ 63) = false := decide_eq_false (by omega)
          clear j1
          go_wp2_with fail
          go_at_call_of 12 (Value.string a)
          refine (c1 _ (HT.out.keep k1)).mono ?_
          rintro e w4 ⟨rfl, k2⟩
          have k := hop k1 k2
          go_wp2_with fail
          go_at_call_of 12 (Value.string b)
          refine (c2 _ (HT.out.keep k)).mono ?_
          rintro e w5 ⟨rfl, k3⟩
          have k4 := hop k k3
          go_wp2_with fail
          go_at_call 12
          refine (c3 _ (HT.out.keep k4)).mono ?_
          rintro e w6 ⟨rfl, k5⟩
          go_wp2
          go_meet
          exact ⟨rfl, hop k4 k5⟩
  case rest =>
    obtain ⟨rfl, hb5⟩ := hcut
    clear c1 c2 c3 j1 k1
    go_upto_region 6 with fail
    go_cut [6] (fun s wx => s = .bool true ∧ Below w.heap.size w wx)
    case first =>
      clear c7 c8 c9
      cases Ka with
      | false =>
        go_wp2_with fail
        go_at_call 11
        refine (c4 _ (HT.out.keep hb5)).mono ?_
        rintro e w4 ⟨rfl, k2⟩
        go_wp2
        go_meet
        exact ⟨rfl, hop hb5 k2⟩
      | true =>
        cases Kb with
        | false =>
          go_wp2_with fail
          go_at_call_of 11 (Value.string a)
          refine (c4 _ (HT.out.keep hb5)).mono ?_
          rintro e w4 ⟨rfl, k2⟩
          have k := hop hb5 k2
          go_wp2_with fail
          go_at_call 11
          refine (c5 _ (HT.out.keep k)).mono ?_
          rintro e w5 ⟨rfl, k3⟩
          go_wp2
          go_meet
          exact ⟨rfl, hop k k3⟩
        | true =>
          have hj := j2 rfl rfl
          subst hj
          by_cases hz : a.size + b.size ≤ 200
          · rw [decide_eq_true hz] at c6
            have iz : (a.size : Int) + (b.size : Int) ≤ 200 := by omega
            clear j2
            go_wp2_with fail
            go_at_call_of 11 (Value.string a)
            refine (c4 _ (HT.out.keep hb5)).mono ?_
            rintro e w4 ⟨rfl, k2⟩
            have k := hop hb5 k2
            go_wp2_with fail
            go_at_call_of 11 (Value.string b)
            refine (c5 _ (HT.out.keep k)).mono ?_
            rintro e w5 ⟨rfl, k3⟩
            have k4 := hop k k3
            go_wp2_with fail
            go_at_call 11
            refine (c6 _ (HT.out.keep k4)).mono ?_
            rintro e w6 ⟨rfl, k5⟩
            go_wp2
            go_meet
            exact ⟨rfl, hop k4 k5⟩
          · rw [decide_eq_false hz] at c6
            have iz : decide ((a.size : Int) + (b.size : Int) ≤ 200) = false := decide_eq_false (by omega)
            clear j2
            go_wp2_with fail
            go_at_call_of 11 (Value.string a)
            refine (c4 _ (HT.out.keep hb5)).mono ?_
            rintro e w4 ⟨rfl, k2⟩
            have k := hop hb5 k2
            go_wp2_with fail
            go_at_call_of 11 (Value.string b)
            refine (c5 _ (HT.out.keep k)).mono ?_
            rintro e w5 ⟨rfl, k3⟩
            have k4 := hop k k3
            go_wp2_with fail
            go_at_call 11
            refine (c6 _ (HT.out.keep k4)).mono ?_
            rintro e w6 ⟨rfl, k5⟩
            go_wp2
            go_meet
            exact ⟨rfl, hop k4 k5⟩
    case rest =>
      obtain ⟨rfl, k⟩ := hcut
      clear c4 c5 c6 j2 hb5
      go_wp2_with fail
      go_at_call 17
      refine (c7 _).mono ?_
      rintro e w4 ⟨r, rfl, hr, k2⟩
      have k1 := hop k k2
      clear k k2 c7
      go_wp2_with fail
      go_at_call_of 17 (Value.string a)
      refine (c8 _).mono ?_
      rintro e w5 ⟨p, rfl, hp, k2⟩
      have k := hop k1 k2
      clear k1 k2 c8
      go_wp2_with fail
      go_at_call 17
      refine (c9 _).mono ?_
      rintro e w6 ⟨q, rfl, hq, k2⟩
      have k1 := hop k k2
      clear k k2 c9
      obtain rfl : r = p ++ q := tx_inj (by rw [hr, tx_app, hp, hq])
      have sp : p.size = 2 * a.size := by rw [← tx_length, hp, pth_length, tx_length]
      have sq : q.size = 2 * b.size := by rw [← tx_length, hq, pth_length, tx_length]
      have f4 : (9223372036854775807 < p.size + q.size) = False := eq_false (by omega)
      clear hr hp hq sp sq
      go_wp2
      go_ret
      exact ⟨by simp, k1⟩


set_option maxRecDepth 100000 in
theorem lifted (os : Os) (started : os.Started) (H : Type) (enc : TypeId × Value → H) :
    ReturnsInHanded {} Tryd.checked os 8 .any (fun w args => (Rows.nameJoinsSpec.pre enc Tryd.prog Tryd.f8 [] false w args ∧ laidMetH Tryd.prog laidAll w) ∧ sizedMet enc Tryd.prog Tryd.f8 (OpenSpec.ofChange Rows.nameJoinsSpec) false w args) (Rows.nameJoinsSpec.post enc Tryd.prog Tryd.f8 false true false false) := by
  refine returnsInHanded_of_change_and (C := Tryd.checked) (X := fun w _ => laidMetH Tryd.prog laidAll w) (fun _ _ _ hh h => h.of_heap hh) own started (by kernel_rfl) Tryd.func8
    (ChangeSpec.witness_shaped (enc := enc) (C := Tryd.checked) (os := os) (X := fun w _ => laidMetH Tryd.prog laidAll w) false (World.laidAll Tryd.prog os laidAll) #[.string ⟨#[]⟩, .string ⟨#[]⟩] 8 (World.laidAll_os _ _ _) (World.shaped_of_ZipB (by kernel_rfl) (by kernel_rfl)) (by kernel_rfl) (by kernel_rfl) (by kernel_rfl) (door_met os _)) ?_
  intro W base args ds gs before hval0 hW _ hsz0 hL _
  have hval : ∀ (j : Nat) t v, Tryd.f8.params[j]? = some t → args[j]? = some v → Value.okWide Tryd.prog W .any base t v := hval0
  have hW' := hW
  obtain ⟨p, q, hA0, hV, rfl, hfz, hnd⟩ := hW
  have hA : DataW.TrodAll enc Tryd.prog W 0 (fun _ => true) true Tryd.f8.params.toList args.toList ds p := hA0
  rw [Tryd.params8] at hA hval
  have T := tabs_of hL
  obtain ⟨v0, vs0, d0, ds0, p0, q0, hargs, rfl, rfl, h0, r0⟩ := trodAll_cons hA
  obtain ⟨v1, vs1, d1, ds1, p1, q1, rfl, rfl, rfl, h1, r1⟩ := trodAll_cons r0
  obtain ⟨rfl, rfl, rfl⟩ := trodAll_nil r1
  obtain rfl : args = #[v0, v1] := by cases args; simp_all
  obtain ⟨rfl, rfl⟩ := trodVars_none hV
  have k0 := h0
  have lt0 : ∀ x ∈ p0, x.block < W.heap.size := by obtain ⟨m, hm⟩ := k0; exact DataW.trod_lt m _ _ _ hm
  obtain ⟨s0, e0, rfl⟩ := open_str (hval 0 9 v0 rfl rfl) h0
  have k1 := h1
  have lt1 : ∀ x ∈ p1, x.block < W.heap.size := by obtain ⟨m, hm⟩ := k1; exact DataW.trod_lt m _ _ _ hm
  obtain ⟨s1, e1, rfl⟩ := open_str (hval 1 9 v1 rfl rfl) h1
  clear hA0 hval0 hsz0 hL
  refine (core s0 s1 W T e0 e1).mono fun e W' ⟨he, bel⟩ => ?_
  subst he
  exact ⟨_, rfl, _, _, _, [], _, [], hW', trodAll_mk1 (shut_bool Tryd.underlying4 _), (trodAll_cons_mk (Below.trod laidOut (by kernel_rfl) (of_decide_eq_true (by kernel_rfl)) k0 bel lt0) (trodAll_cons_mk (Below.trod laidOut (by kernel_rfl) (of_decide_eq_true (by kernel_rfl)) k1 bel lt1) trodAll_mk0)), rfl, bel.frame _, fun h => by cases h⟩

theorem over : Rows.nameJoinsRow.holds Tryd.pinned (OpenSpec.ofChange Rows.nameJoinsSpec) :=
  OpenClaim.holds_of_wide 8 Tryd.f8 rfl rfl rfl rfl rfl rfl rfl ⟨rfl, rfl, rfl, rfl, rfl⟩ rfl rfl rfl rfl rfl (by kernel_rfl) Tryd.func8 (by kernel_rfl)
    (of_decide_eq_true (by kernel_rfl)) (by unfold Func.isWrapper; first | (rw [if_pos (by decide +kernel)]; kernel_rfl) | (rw [if_neg (by decide +kernel)]; exact ⟨rfl, rfl⟩))
    (fun os started H enc _ => lifted os started H enc)

end nameJoins

/-- The statement. -/
theorem nameJoins_holds : Rows.NameJoinsCardSaid :=
  Claim7.holds_tied_plain_at .later [] [.data, .pinned] true (true, "2f6212f6c483f1dfb9692a65611a80a7d1f005e09cc4019013308721e6861ca3") false
    nameJoins.over (fun _ h => by cases h) (by kernel_rfl) (fun _ h => by cases h) nameJoins_row_tie rfl ⟨rfl, rfl⟩ (by kernel_rfl) rfl
    (fun f fn hf hfn => by
      obtain rfl : f = 8 := Option.some.inj ((show Tryd.prog.funcNamed "strongbox/strongboxlaw6.NameJoins" = some 8 by kernel_rfl).symm.trans hf) |>.symm
      obtain rfl : fn = Tryd.f8 := (Option.some.inj (Tryd.func8.symm.trans hfn)).symm
      exact ⟨by kernel_rfl, fun j t ht => by
        rw [Tryd.params8] at ht
        have hm : t ∈ [9, 9] := by simpa using Array.mem_of_getElem? ht
        have hall : ([9, 9].all fun u => !Tryd.prog.wantsStandIn u) = true := by kernel_rfl
        exact (show Tryd.prog.wantsStandIn t = false by simpa using List.all_eq_true.1 hall t hm)⟩)
    (by kernel_rfl)
#print axioms nameJoins_holds
end Go.Proofs.YtighljdeaofanaaDoor
