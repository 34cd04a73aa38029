/-
  The law NameNexts of layer 6 (what begins with a text is not ahead of it, and ahead of the next one; what does not is ahead of it, or not ahead of the next one) answers true for all texts, where the tables of unicode/utf8 are as the program's text and the library lay them.
-/
import Derived.Test.YtighljdeaofanaaDoorRows
import Derived.WalkKit
import Derived.ProofKit
import Derived.OpenShut
import Derived.ShutString
import Derived.ChangeOld
import Derived.Below
import Derived.SizedLaws
import Derived.LaidMore
import Derived.Lay
import Derived.ChangeMaps5
import Derived.Stop.Joined
import Derived.SevenTiedAt
import Derived.Test.YtighljdeaofanaaDoorCards
import Derived.Test.YtighljdeaofanaaDoorTie
import Derived.Test.YtighljdeaofanaaDoorLd
import Derived.Test.YtighljdeaofanaaDoorOp6
namespace Go.Proofs.YtighljdeaofanaaDoor
namespace nameNexts
open Go.ChangeShapes Go.WideShapes Go.ChangeAt Go.RowKit Go.Proofs.YtighljdeaofanaaDoor.Nm
set_option linter.unusedVariables false
attribute [local go_sem ↓] Go.wp_at_zero Go.wp_at_succ

theorem own : ownKnob Tryd.prog.godebug = none := by kernel_rfl
theorem laidOut : laidOutB Tryd.prog = true := by kernel_rfl

theorem emp {s : ByteArray} (h : tx s = []) : s = ⟨#[]⟩ := tx_of h
set_option maxRecDepth 100000 in
set_option maxHeartbeats 1000000 in
theorem core (a p : ByteArray) (w : World) (T : Tabs w) (ha : a.size ≤ maxLen) (hp : p.size ≤ maxLen) :
    Calls Tryd.prog 6 #[.string a, .string p] w fun e w' => e = .returned (.bool true) ∧ Below w.heap.size w w' := by
  have c0 := awake_any w T
  unfold maxLen at ha hp
  by_cases h1 : 1000 < a.size
  · have g1 : (1000 : Int) < (a.size : Int) := by omega
    go_enter Tryd.func6, Tryd.ntmps6
    go_wp2_with (go_at_call 9; refine c0.mono ?_; rintro e w1 ⟨rfl, k1⟩)
    go_ret
    exact ⟨rfl, k1⟩
  by_cases h2 : 1000 < p.size
  · have g1 : decide ((1000 : Int) < (a.size : Int)) = false := decide_eq_false (by omega)
    have g2 : (1000 : Int) < (p.size : Int) := by omega
    go_enter Tryd.func6, Tryd.ntmps6
    go_wp2_with (go_at_call 9; refine c0.mono ?_; rintro e w1 ⟨rfl, k1⟩)
    go_ret
    exact ⟨rfl, k1⟩
  have g1 : decide ((1000 : Int) < (a.size : Int)) = false := decide_eq_false (by omega)
  have g2 : decide ((1000 : Int) < (p.size : Int)) = false := decide_eq_false (by omega)
  have c1 := fun W => next_any p W (by omega)
  have HX : Hid (∀ q : List UInt8, q = nx (tx p) → (!ls (tx a) (tx p) && (decide (q = []) || ls (tx a) q)) = pre (tx a) (tx p)) := fun q e => by rw [e]; exact nx_pre (tx p) (tx a)
  have c2 := fun W => less_any a p W
  have c3 := fun W => prefix_any a p W (by unfold maxLen; omega) (by unfold maxLen; omega)
  obtain ⟨La, hLa⟩ : ∃ La, ls (tx a) (tx p) = La := ⟨_, rfl⟩
  obtain ⟨P, hP⟩ : ∃ P, pre (tx a) (tx p) = P := ⟨_, rfl⟩
  rw [hLa] at c2 HX
  rw [hP] at c3 HX
  clear hLa hP
  go_enter Tryd.func6, Tryd.ntmps6
  go_wp2_with fail
  go_at_call 9
  refine c0.mono ?_
  rintro e w1 ⟨rfl, k1⟩
  go_wp2_with fail
  go_at_call 13
  refine (c1 _).mono ?_
  rintro e w2 ⟨r, rfl, hr, k2⟩
  have k := hop k1 k2
  have hx := HX.out (tx r) hr
  clear k1 k2 c0 c1 HX hr
  cases La with
  | true =>
    obtain rfl : P = false := by simpa using hx.symm
    clear hx
    go_wp2_with fail
    go_at_call 19
    refine (c2 _).mono ?_
    rintro e w3 ⟨rfl, rfl⟩
    go_wp2_with fail
    go_at_call 21
    refine (c3 _).mono ?_
    rintro e w3 ⟨rfl, rfl⟩
    go_wp2
    go_ret
    exact ⟨rfl, k⟩
  | false =>
    by_cases he : tx r = []
    · obtain rfl : P = true := by simpa [he] using hx.symm
      obtain rfl := emp he
      clear hx he
      go_wp2_with fail
      go_at_call 19
      refine (c2 _).mono ?_
      rintro e w3 ⟨rfl, rfl⟩
      go_wp2_with fail
      go_at_call 21
      refine (c3 _).mono ?_
      rintro e w3 ⟨rfl, rfl⟩
      go_wp2
      go_ret
      exact ⟨rfl, k⟩
    · have hne : r.toList.isEmpty = false := empty_of r (by rcases Nat.eq_zero_or_pos r.size with q | q; exact absurd (List.eq_nil_of_length_eq_zero ((tx_length r).trans q)) he; exact q)
      have c4 := fun W => less_any a r W
      obtain ⟨Ln, hLn⟩ : ∃ Ln, ls (tx a) (tx r) = Ln := ⟨_, rfl⟩
      rw [hLn] at c4 hx
      obtain rfl : P = Ln := by simpa [he] using hx.symm
      clear hx he hLn
      go_wp2_with fail
      go_at_call_of 19 (Value.string p)
      refine (c2 _).mono ?_
      rintro e w3 ⟨rfl, rfl⟩
      go_wp2_with fail
      go_at_call 19
      refine (c4 _).mono ?_
      rintro e w3 ⟨rfl, rfl⟩
      go_wp2_with fail
      go_at_call 21
      refine (c3 _).mono ?_
      rintro e w3 ⟨rfl, rfl⟩
      go_wp2
      go_ret
      exact ⟨by simp, k⟩


set_option maxRecDepth 100000 in
theorem lifted (os : Os) (started : os.Started) (H : Type) (enc : TypeId × Value → H) :
    ReturnsInHanded {} Tryd.checked os 6 .any (fun w args => (Rows.nameNextsSpec.pre enc Tryd.prog Tryd.f6 [] false w args ∧ laidMetH Tryd.prog laidAll w) ∧ sizedMet enc Tryd.prog Tryd.f6 (OpenSpec.ofChange Rows.nameNextsSpec) false w args) (Rows.nameNextsSpec.post enc Tryd.prog Tryd.f6 false true false false) := by
  refine returnsInHanded_of_change_and (C := Tryd.checked) (X := fun w _ => laidMetH Tryd.prog laidAll w) (fun _ _ _ hh h => h.of_heap hh) own started (by kernel_rfl) Tryd.func6
    (ChangeSpec.witness_shaped (enc := enc) (C := Tryd.checked) (os := os) (X := fun w _ => laidMetH Tryd.prog laidAll w) false (World.laidAll Tryd.prog os laidAll) #[.string ⟨#[]⟩, .string ⟨#[]⟩] 8 (World.laidAll_os _ _ _) (World.shaped_of_ZipB (by kernel_rfl) (by kernel_rfl)) (by kernel_rfl) (by kernel_rfl) (by kernel_rfl) (door_met os _)) ?_
  intro W base args ds gs before hval0 hW _ hsz0 hL _
  have hval : ∀ (j : Nat) t v, Tryd.f6.params[j]? = some t → args[j]? = some v → Value.okWide Tryd.prog W .any base t v := hval0
  have hW' := hW
  obtain ⟨p, q, hA0, hV, rfl, hfz, hnd⟩ := hW
  have hA : DataW.TrodAll enc Tryd.prog W 0 (fun _ => true) true Tryd.f6.params.toList args.toList ds p := hA0
  rw [Tryd.params6] at hA hval
  have T := tabs_of hL
  obtain ⟨v0, vs0, d0, ds0, p0, q0, hargs, rfl, rfl, h0, r0⟩ := trodAll_cons hA
  obtain ⟨v1, vs1, d1, ds1, p1, q1, rfl, rfl, rfl, h1, r1⟩ := trodAll_cons r0
  obtain ⟨rfl, rfl, rfl⟩ := trodAll_nil r1
  obtain rfl : args = #[v0, v1] := by cases args; simp_all
  obtain ⟨rfl, rfl⟩ := trodVars_none hV
  have k0 := h0
  have lt0 : ∀ x ∈ p0, x.block < W.heap.size := by obtain ⟨m, hm⟩ := k0; exact DataW.trod_lt m _ _ _ hm
  obtain ⟨s0, e0, rfl⟩ := open_str (hval 0 9 v0 rfl rfl) h0
  have k1 := h1
  have lt1 : ∀ x ∈ p1, x.block < W.heap.size := by obtain ⟨m, hm⟩ := k1; exact DataW.trod_lt m _ _ _ hm
  obtain ⟨s1, e1, rfl⟩ := open_str (hval 1 9 v1 rfl rfl) h1
  clear hA0 hval0 hsz0 hL
  refine (core s0 s1 W T e0 e1).mono fun e W' ⟨he, bel⟩ => ?_
  subst he
  exact ⟨_, rfl, _, _, _, [], _, [], hW', trodAll_mk1 (shut_bool Tryd.underlying4 _), (trodAll_cons_mk (Below.trod laidOut (by kernel_rfl) (of_decide_eq_true (by kernel_rfl)) k0 bel lt0) (trodAll_cons_mk (Below.trod laidOut (by kernel_rfl) (of_decide_eq_true (by kernel_rfl)) k1 bel lt1) trodAll_mk0)), rfl, bel.frame _, fun h => by cases h⟩

theorem over : Rows.nameNextsRow.holds Tryd.pinned (OpenSpec.ofChange Rows.nameNextsSpec) :=
  OpenClaim.holds_of_wide 6 Tryd.f6 rfl rfl rfl rfl rfl rfl rfl ⟨rfl, rfl, rfl, rfl, rfl⟩ rfl rfl rfl rfl rfl (by kernel_rfl) Tryd.func6 (by kernel_rfl)
    (of_decide_eq_true (by kernel_rfl)) (by unfold Func.isWrapper; first | (rw [if_pos (by decide +kernel)]; kernel_rfl) | (rw [if_neg (by decide +kernel)]; exact ⟨rfl, rfl⟩))
    (fun os started H enc _ => lifted os started H enc)

end nameNexts

/-- The statement. -/
theorem nameNexts_holds : Rows.NameNextsCardSaid :=
  Claim7.holds_tied_plain_at .later [] [.data, .pinned] true (true, "2f6212f6c483f1dfb9692a65611a80a7d1f005e09cc4019013308721e6861ca3") false
    nameNexts.over (fun _ h => by cases h) (by kernel_rfl) (fun _ h => by cases h) nameNexts_row_tie rfl ⟨rfl, rfl⟩ (by kernel_rfl) rfl
    (fun f fn hf hfn => by
      obtain rfl : f = 6 := Option.some.inj ((show Tryd.prog.funcNamed "strongbox/strongboxlaw6.NameNexts" = some 6 by kernel_rfl).symm.trans hf) |>.symm
      obtain rfl : fn = Tryd.f6 := (Option.some.inj (Tryd.func6.symm.trans hfn)).symm
      exact ⟨by kernel_rfl, fun j t ht => by
        rw [Tryd.params6] at ht
        have hm : t ∈ [9, 9] := by simpa using Array.mem_of_getElem? ht
        have hall : ([9, 9].all fun u => !Tryd.prog.wantsStandIn u) = true := by kernel_rfl
        exact (show Tryd.prog.wantsStandIn t = false by simpa using List.all_eq_true.1 hall t hm)⟩)
    (by kernel_rfl)
#print axioms nameNexts_holds
end Go.Proofs.YtighljdeaofanaaDoor
