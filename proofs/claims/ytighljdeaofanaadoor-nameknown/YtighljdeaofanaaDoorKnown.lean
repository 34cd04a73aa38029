/-
  The law NameKnown of layer 6 (chapter 6's examples, and names at their limits) answers true, where the tables of unicode/utf8 are as the program's text and the library lay them.
-/
import Derived.Test.YtighljdeaofanaaDoorRows
import Derived.WalkKit
import Derived.ProofKit
import Derived.OpenShut
import Derived.ShutString
import Derived.ChangeOld
import Derived.Below
import Derived.SizedLaws
import Derived.LaidMore
import Derived.Lay
import Derived.ChangeMaps5
import Derived.Stop.Joined
import Derived.SevenTiedAt
import Derived.Test.YtighljdeaofanaaDoorCards
import Derived.Test.YtighljdeaofanaaDoorTie
import Derived.Test.YtighljdeaofanaaDoorLd
namespace Go.Proofs.YtighljdeaofanaaDoor
namespace nameKnown
open Go.ChangeShapes Go.WideShapes Go.ChangeAt Go.RowKit Go.Proofs.YtighljdeaofanaaDoor.Nm
set_option linter.unusedVariables false
attribute [local go_sem ↓] Go.wp_at_zero Go.wp_at_succ

theorem own : ownKnob Tryd.prog.godebug = none := by kernel_rfl
theorem laidOut : laidOutB Tryd.prog = true := by kernel_rfl

theorem tx_mk (l : List UInt8) : tx ⟨l.toArray⟩ = l := by unfold tx; simp
/-- So many signs x. -/
def xs (n : Nat) : ByteArray := ⟨(List.replicate n 120).toArray⟩
theorem xs_tx (n : Nat) : tx (xs n) = List.replicate n 120 := tx_mk _
theorem xs_size (n : Nat) : (xs n).size = n := by rw [← tx_length, xs_tx, List.length_replicate]
theorem xs_app (n : Nat) : xs n ++ (⟨#[120]⟩ : ByteArray) = xs (n + 1) := tx_inj (by
  rw [tx_app, xs_tx, xs_tx, List.replicate_succ']; rfl)
theorem xs_cut (n m : Nat) (h : m ≤ n) : (xs n).extract 0 m = xs m := tx_inj (by
  rw [tx_extract _ _ (by rw [xs_size]; exact h), xs_tx, xs_tx, List.take_replicate, Nat.min_eq_left h])
set_option maxRecDepth 100000 in
set_option maxHeartbeats 4000000 in
theorem core (w : World) (T : Tabs w) :
    Calls Tryd.prog 3 #[] w fun e w' => e = .returned (.bool true) ∧ Below w.heap.size w w' := by
  have c0 := awake_any w T
  have HT : Hid (Tabs w) := T
  clear T
  go_enter Tryd.func3, Tryd.ntmps3
  go_wp2_with fail
  go_at_call 9
  refine c0.mono ?_
  rintro e w1 ⟨rfl, k1⟩
  clear c0
  go_wp2
  go_loopw [1, 2] (fun s i wr => ∃ k : Nat, k ≤ 200 ∧ s = .string (xs k) ∧ i = .int .i64 (k : Int) ∧ wr = w1) (fun _ i _ => 200 - (intOf i).toNat)
  case atStart => exact ⟨0, by omega, rfl, rfl, rfl⟩
  case round =>
    obtain ⟨k, hk, rfl, rfl, rfl⟩ := hrel
    by_cases hlt : k < 200
    · have i1 : (k : Int) < 200 := by omega
      have hz := xs_size k
      have ha := xs_app k
      have f1 : (9223372036854775807 < k + 1) = False := eq_false (by omega)
      go_wp2
      go_round
      case rel => exact ⟨k + 1, by omega, by first | rfl | rw [ha], by go_num, by first | rfl | trivial⟩
      case measure => simp [intOf]; omega
    · obtain rfl : k = 200 := by omega
      have u1 : unp (tx ⟨#[54, 49, 54]⟩) = none := by decide +kernel
      have u2 : unp (tx ⟨#[54, 65]⟩) = none := by decide +kernel
      have c1 := fun W => unp_any ⟨#[54, 49, 54]⟩ W (by decide)
      have c2 := fun W => unp_any ⟨#[54, 65]⟩ W (by decide)
      rw [u1] at c1
      rw [u2] at c2
      clear u1 u2
      have v1 : ky (tx (xs 200)) = true := by rw [xs_tx]; decide +kernel
      have v2 : ky (tx (xs 201)) = false := by rw [xs_tx]; decide +kernel
      have v3 : ky (tx ⟨#[]⟩) = false := by decide +kernel
      have v4 : ky (tx ⟨#[97, 31]⟩) = false := by decide +kernel
      have v5 : ky (tx ⟨#[127]⟩) = false := by decide +kernel
      have v6 : ky (tx ⟨#[255]⟩) = false := by decide +kernel
      have v7 : bkt (tx ⟨#[97, 98]⟩) = false := by decide +kernel
      have v8 : bkt (tx (xs 63)) = true := by rw [xs_tx]; decide +kernel
      have v9 : bkt (tx (xs 64)) = false := by rw [xs_tx]; decide +kernel
      have v10 : bkt (tx ⟨#[45, 97, 98]⟩) = false := by decide +kernel
      have v11 : bkt (tx ⟨#[97, 98, 67]⟩) = false := by decide +kernel
      have v12 : nx (tx ⟨#[97, 255]⟩) = [98] := by decide +kernel
      have v13 : nx (tx ⟨#[255]⟩) = [] := by decide +kernel
      have v14 : nx (tx ⟨#[]⟩) = [] := by decide +kernel
      have d1 := fun W (q : Tabs W) => keyK (xs 200) W (by rw [xs_size]; omega) q
      have d2 := fun W (q : Tabs W) => keyK (xs 201) W (by rw [xs_size]; omega) q
      have d3 := fun W (q : Tabs W) => keyK ⟨#[]⟩ W (by decide) q
      have d4 := fun W (q : Tabs W) => keyK ⟨#[97, 31]⟩ W (by decide) q
      have d5 := fun W (q : Tabs W) => keyK ⟨#[127]⟩ W (by decide) q
      have d6 := fun W (q : Tabs W) => keyK ⟨#[255]⟩ W (by decide) q
      have d7 := fun W (q : Tabs W) => bucketK ⟨#[97, 98]⟩ W (by decide) q
      have d8 := fun W (q : Tabs W) => bucketK (xs 63) W (by rw [xs_size]; omega) q
      have d9 := fun W (q : Tabs W) => bucketK (xs 64) W (by rw [xs_size]; omega) q
      have d10 := fun W (q : Tabs W) => bucketK ⟨#[45, 97, 98]⟩ W (by decide) q
      have d11 := fun W (q : Tabs W) => bucketK ⟨#[97, 98, 67]⟩ W (by decide) q
      have d12 := fun W => next_any ⟨#[97, 255]⟩ W (by decide)
      have d13 := fun W => next_any ⟨#[255]⟩ W (by decide)
      have d14 := fun W => next_any ⟨#[]⟩ W (by decide)
      rw [v1] at d1
      rw [v2] at d2
      rw [v3] at d3
      rw [v4] at d4
      rw [v5] at d5
      rw [v6] at d6
      rw [v7] at d7
      rw [v8] at d8
      rw [v9] at d9
      rw [v10] at d10
      rw [v11] at d11
      rw [v12] at d12
      rw [v13] at d13
      rw [v14] at d14
      clear v1 v2 v3 v4 v5 v6 v7 v8 v9 v10 v11 v12 v13 v14
      have hz := xs_size 200
      have ha : xs 200 ++ (⟨#[120]⟩ : ByteArray) = xs 201 := xs_app 200
      have hc1 : (xs 200).extract 0 63 = xs 63 := xs_cut 200 63 (by omega)
      have hc2 : (xs 200).extract 0 64 = xs 64 := xs_cut 200 64 (by omega)
      generalize xs 200 = X at *
      generalize xs 201 = X1 at *
      generalize xs 63 = X2 at *
      generalize xs 64 = X3 at *
      go_wp2_with fail
      go_at_call_of 10 (Value.string ⟨#[54, 49, 54]⟩)
      refine (c1 _).mono ?_
      rintro e w2 ⟨r, ok, rfl, hu, _, k2⟩
      obtain rfl : ok = false := by cases ok with | false => rfl | true => cases hu
      have k := hop k1 k2
      clear c1 hu k1 k2
      go_wp2_with fail
      go_at_call 10
      refine (c2 _).mono ?_
      rintro e w3 ⟨r2, ok, rfl, hu, _, k2⟩
      obtain rfl : ok = false := by cases ok with | false => rfl | true => cases hu
      have k1 := hop k k2
      clear c2 hu k k2
      go_wp2_with fail
      go_at_call_of 11 (Value.string X)
      refine (d1 _ (HT.out.keep k1)).mono ?_
      rintro e w4 ⟨rfl, k2⟩
      have k := hop k1 k2
      clear k1 k2 d1
      go_wp2_with fail
      go_at_call_of 11 (Value.string X1)
      refine (d2 _ (HT.out.keep k)).mono ?_
      rintro e w5 ⟨rfl, k2⟩
      have k1 := hop k k2
      clear k k2 d2
      go_wp2_with fail
      go_at_call_of 11 (Value.string ⟨#[]⟩)
      refine (d3 _ (HT.out.keep k1)).mono ?_
      rintro e w6 ⟨rfl, k2⟩
      have k := hop k1 k2
      clear k1 k2 d3
      go_wp2_with fail
      go_at_call_of 11 (Value.string ⟨#[97, 31]⟩)
      refine (d4 _ (HT.out.keep k)).mono ?_
      rintro e w7 ⟨rfl, k2⟩
      have k1 := hop k k2
      clear k k2 d4
      go_wp2_with fail
      go_at_call_of 11 (Value.string ⟨#[127]⟩)
      refine (d5 _ (HT.out.keep k1)).mono ?_
      rintro e w8 ⟨rfl, k2⟩
      have k := hop k1 k2
      clear k1 k2 d5
      go_wp2_with fail
      go_at_call_of 11 (Value.string ⟨#[255]⟩)
      refine (d6 _ (HT.out.keep k)).mono ?_
      rintro e w9 ⟨rfl, k2⟩
      have k1 := hop k k2
      clear k k2 d6
      go_wp2_with fail
      go_at_call_of 12 (Value.string ⟨#[97, 98]⟩)
      refine (d7 _ (HT.out.keep k1)).mono ?_
      rintro e w10 ⟨rfl, k2⟩
      have k := hop k1 k2
      clear k1 k2 d7
      go_wp2_with fail
      go_at_call_of 12 (Value.string X2)
      refine (d8 _ (HT.out.keep k)).mono ?_
      rintro e w11 ⟨rfl, k2⟩
      have k1 := hop k k2
      clear k k2 d8
      go_wp2_with fail
      go_at_call_of 12 (Value.string X3)
      refine (d9 _ (HT.out.keep k1)).mono ?_
      rintro e w12 ⟨rfl, k2⟩
      have k := hop k1 k2
      clear k1 k2 d9
      go_wp2_with fail
      go_at_call_of 12 (Value.string ⟨#[45, 97, 98]⟩)
      refine (d10 _ (HT.out.keep k)).mono ?_
      rintro e w13 ⟨rfl, k2⟩
      have k1 := hop k k2
      clear k k2 d10
      go_wp2_with fail
      go_at_call_of 12 (Value.string ⟨#[97, 98, 67]⟩)
      refine (d11 _ (HT.out.keep k1)).mono ?_
      rintro e w14 ⟨rfl, k2⟩
      have k := hop k1 k2
      clear k1 k2 d11
      go_wp2_with fail
      go_at_call_of 13 (Value.string ⟨#[97, 255]⟩)
      refine (d12 _).mono ?_
      rintro e w15 ⟨r15, rfl, hr, k2⟩
      obtain rfl := tx_of hr
      clear hr
      have k1 := hop k k2
      clear k k2 d12
      go_wp2_with fail
      go_at_call_of 13 (Value.string ⟨#[255]⟩)
      refine (d13 _).mono ?_
      rintro e w16 ⟨r16, rfl, hr, k2⟩
      obtain rfl := tx_of hr
      clear hr
      have k := hop k1 k2
      clear k1 k2 d13
      go_wp2_with fail
      go_at_call_of 13 (Value.string ⟨#[]⟩)
      refine (d14 _).mono ?_
      rintro e w17 ⟨r17, rfl, hr, k2⟩
      obtain rfl := tx_of hr
      clear hr
      have k1 := hop k k2
      clear k k2 d14
      go_wp2
      go_ret
      exact ⟨rfl, k1⟩


set_option maxRecDepth 100000 in
theorem lifted (os : Os) (started : os.Started) (H : Type) (enc : TypeId × Value → H) :
    ReturnsInHanded {} Tryd.checked os 3 .any (fun w args => (Rows.nameKnownSpec.pre enc Tryd.prog Tryd.f3 [] false w args ∧ laidMetH Tryd.prog laidAll w) ∧ sizedMet enc Tryd.prog Tryd.f3 (OpenSpec.ofChange Rows.nameKnownSpec) false w args) (Rows.nameKnownSpec.post enc Tryd.prog Tryd.f3 false true false false) := by
  refine returnsInHanded_of_change_and (C := Tryd.checked) (X := fun w _ => laidMetH Tryd.prog laidAll w) (fun _ _ _ hh h => h.of_heap hh) own started (by kernel_rfl) Tryd.func3
    (ChangeSpec.witness_shaped (enc := enc) (C := Tryd.checked) (os := os) (X := fun w _ => laidMetH Tryd.prog laidAll w) false (World.laidAll Tryd.prog os laidAll) #[] 8 (World.laidAll_os _ _ _) (World.shaped_of_ZipB (by kernel_rfl) (by kernel_rfl)) (by kernel_rfl) (by kernel_rfl) (by kernel_rfl) (door_met os _)) ?_
  intro W base args ds gs before hval0 hW _ hsz0 hL _
  have hval : ∀ (j : Nat) t v, Tryd.f3.params[j]? = some t → args[j]? = some v → Value.okWide Tryd.prog W .any base t v := hval0
  have hW' := hW
  obtain ⟨p, q, hA0, hV, rfl, hfz, hnd⟩ := hW
  have hA : DataW.TrodAll enc Tryd.prog W 0 (fun _ => true) true Tryd.f3.params.toList args.toList ds p := hA0
  rw [Tryd.params3] at hA hval
  have T := tabs_of hL
  obtain ⟨hargs, rfl, rfl⟩ := trodAll_nil hA
  obtain rfl : args = #[] := by cases args; simp_all
  obtain ⟨rfl, rfl⟩ := trodVars_none hV
  clear hA0 hval0 hsz0 hL
  refine (core  W T ).mono fun e W' ⟨he, bel⟩ => ?_
  subst he
  exact ⟨_, rfl, _, _, _, [], _, [], hW', trodAll_mk1 (shut_bool Tryd.underlying4 _), trodAll_mk0, rfl, bel.frame _, fun h => by cases h⟩

theorem over : Rows.nameKnownRow.holds Tryd.pinned (OpenSpec.ofChange Rows.nameKnownSpec) :=
  OpenClaim.holds_of_wide 3 Tryd.f3 rfl rfl rfl rfl rfl rfl rfl ⟨rfl, rfl, rfl, rfl, rfl⟩ rfl rfl rfl rfl rfl (by kernel_rfl) Tryd.func3 (by kernel_rfl)
    (of_decide_eq_true (by kernel_rfl)) (by unfold Func.isWrapper; first | (rw [if_pos (by decide +kernel)]; kernel_rfl) | (rw [if_neg (by decide +kernel)]; exact ⟨rfl, rfl⟩))
    (fun os started H enc _ => lifted os started H enc)

end nameKnown

/-- The statement. -/
theorem nameKnown_holds : Rows.NameKnownCardSaid :=
  Claim7.holds_tied_plain_at .later [] [.data, .pinned] true (true, "2f6212f6c483f1dfb9692a65611a80a7d1f005e09cc4019013308721e6861ca3") false
    nameKnown.over (fun _ h => by cases h) (by kernel_rfl) (fun _ h => by cases h) nameKnown_row_tie rfl ⟨rfl, rfl⟩ (by kernel_rfl) rfl
    (fun f fn hf hfn => by
      obtain rfl : f = 3 := Option.some.inj ((show Tryd.prog.funcNamed "strongbox/strongboxlaw6.NameKnown" = some 3 by kernel_rfl).symm.trans hf) |>.symm
      obtain rfl : fn = Tryd.f3 := (Option.some.inj (Tryd.func3.symm.trans hfn)).symm
      exact ⟨by kernel_rfl, fun j t ht => by
        rw [Tryd.params3] at ht
        have hm : t ∈ [] := by simpa using Array.mem_of_getElem? ht
        have hall : ([].all fun u => !Tryd.prog.wantsStandIn u) = true := by kernel_rfl
        exact (show Tryd.prog.wantsStandIn t = false by simpa using List.all_eq_true.1 hall t hm)⟩)
    (by kernel_rfl)
#print axioms nameKnown_holds
end Go.Proofs.YtighljdeaofanaaDoor
