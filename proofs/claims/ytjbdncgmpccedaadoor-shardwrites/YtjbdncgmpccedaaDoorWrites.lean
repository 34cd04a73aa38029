/-
  The law ShardWrites of layer 5 (any head, any bytes: the file, or that it may not be; written in pieces the same) answers true for all heads, data and cuts, where crc's table is as the program's text lays it.
-/
import Derived.Test.YtjbdncgmpccedaaDoorRows
import Derived.WalkKit
import Derived.ProofKit
import Derived.OpenShut
import Derived.ShutString
import Derived.ChangeOld
import Derived.Below
import Derived.SizedLaws
import Derived.LaidMore
import Derived.Stop.Joined
import Derived.SevenTiedAt
import Derived.Test.YtjbdncgmpccedaaDoorCards
import Derived.Test.YtjbdncgmpccedaaDoorTie
import Derived.Test.YtjbdncgmpccedaaDoorLaid4
import Derived.Test.YtjbdncgmpccedaaDoorShP
import Derived.Test.YtjbdncgmpccedaaDoorShT
import Derived.Test.YtjbdncgmpccedaaDoorShU
import Derived.Test.YtjbdncgmpccedaaDoorShV
import Derived.Test.YtjbdncgmpccedaaDoorOpn
namespace Go.Proofs.YtjbdncgmpccedaaDoor
namespace shardWrites
open Go.ChangeShapes Go.WideShapes Go.ChangeAt Go.RowKit Crc
set_option linter.unusedVariables false
attribute [local go_sem ↓] Go.wp_at_zero Go.wp_at_succ

theorem own : ownKnob Tryd.prog.godebug = none := by kernel_rfl
theorem laidOut : laidOutB Tryd.prog = true := by kernel_rfl

set_option maxRecDepth 100000 in
set_option maxHeartbeats 4000000 in
/-- Too long, or too many pieces. -/
theorem core_big (K M I B S D : Int) (a : Option Addr) (n c : Nat) (a' : Option Addr) (n' c' : Nat) (w : World) (T : HalfT w) (hn : n ≤ maxLen) (hn' : n' ≤ maxLen) (h : 5000 < n ∨ (n ≤ 5000 ∧ 50 < n')) :
    Calls Tryd.prog 3 #[hv K M I B S D, .slice a n c, .slice a' n' c'] w fun e w' => e = .returned (.bool true) ∧ Below w.heap.size w w' := by
  unfold maxLen at hn hn'
  obtain ⟨W0, hbx, hd0, b0⟩ := box_head w 23 K M I B S D
  have cA := awake_any W0 (T.keep b0)
  have HB0 : Hid (Below w.heap.size w W0) := b0
  clear T b0 hd0
  unfold hv
  rcases h with h | ⟨h, h'⟩
  · have g1 : (5000 : Int) < (n : Int) := by omega
    go_enter Tryd.func3, Tryd.ntmps3
    go_wp2_with fail
    go_at_call 7
    refine cA.mono ?_
    rintro e w1 ⟨rfl, b1⟩
    go_wp2
    go_ret
    exact ⟨rfl, hop HB0.out b1⟩
  · have g1 : decide ((5000 : Int) < (n : Int)) = false := decide_eq_false (by omega)
    have g2 : (50 : Int) < (n' : Int) := by omega
    go_enter Tryd.func3, Tryd.ntmps3
    go_wp2_with fail
    go_at_call 7
    refine cA.mono ?_
    rintro e w1 ⟨rfl, b1⟩
    go_wp2
    go_ret
    exact ⟨rfl, hop HB0.out b1⟩
theorem core (K M I B S D : Int) (a : Option Addr) (n c : Nat) (f : Nat → Nat) (a' : Option Addr) (n' c' : Nat) (f' : Nat → Nat) (w : World) (T : HalfT w) (e : I64 K ∧ I64 M ∧ I64 I ∧ I64 B ∧ I64 S ∧ I64 D)
    (h : Row w a n f) (z : a = none → n = 0 ∧ c = 0) (hn : n ≤ maxLen) (hc : n ≤ c) (h' : Row w a' n' f') (z' : a' = none → n' = 0 ∧ c' = 0) (hn' : n' ≤ maxLen) (hc' : n' ≤ c') :
    Calls Tryd.prog 3 #[.agg #[.int .i64 K, .int .i64 M, .int .i64 I, .int .i64 B, .int .i64 S, .int .i64 D], .slice a n c, .slice a' n' c'] w fun e w' => e = .returned (.bool true) ∧ Below w.heap.size w w' := by
  show Calls Tryd.prog 3 #[hv K M I B S D, .slice a n c, .slice a' n' c'] w fun e w' => e = .returned (.bool true) ∧ Below w.heap.size w w'
  by_cases l1 : 5000 < n
  · exact core_big K M I B S D a n c a' n' c' w T hn hn' (.inl l1)
  by_cases l2 : 50 < n'
  · exact core_big K M I B S D a n c a' n' c' w T hn hn' (.inr ⟨by omega, l2⟩)
  by_cases hM : MayH K M I B S D
  · have hM' := hM
    obtain ⟨m0, m1, m2, m3, m4, m5, m6, m7, m8, m9, m10, m11⟩ := hM
    obtain ⟨K, rfl⟩ := Int.eq_ofNat_of_zero_le (show 0 ≤ K by omega)
    obtain ⟨M, rfl⟩ := Int.eq_ofNat_of_zero_le (show 0 ≤ M by omega)
    obtain ⟨I, rfl⟩ := Int.eq_ofNat_of_zero_le (show 0 ≤ I by omega)
    obtain ⟨B, rfl⟩ := Int.eq_ofNat_of_zero_le (show 0 ≤ B by omega)
    obtain ⟨S, rfl⟩ := Int.eq_ofNat_of_zero_le (show 0 ≤ S by omega)
    obtain ⟨D, rfl⟩ := Int.eq_ofNat_of_zero_le (show 0 ≤ D by omega)
    have hN : MayN K M I B S D := ⟨by omega, by omega, by omega, by omega, by omega, by omega, by omega, by omega⟩
    by_cases hS : n = S
    · subst hS
      exact core_same K M I B D a n c f a' n' c' f' w T h (by omega) hc h' (by omega) hN
    · exact core_other K M I B S D a n c f a' n' c' f' w T h (by omega) hc h' (by omega) hN hS
  · exact core_bad K M I B S D a n c f a' n' c' f' w T e.1 e.2.1 e.2.2.2.2.1 h (by omega) hc h' (by omega) hM


set_option maxRecDepth 100000 in
theorem lifted (os : Os) (started : os.Started) (H : Type) (enc : TypeId × Value → H) :
    ReturnsInHanded {} Tryd.checked os 3 .any (fun w args => (Rows.shardWritesSpec.pre enc Tryd.prog Tryd.f3 [] false w args ∧ laidMetH Tryd.prog laidAll w) ∧ sizedMet enc Tryd.prog Tryd.f3 (OpenSpec.ofChange Rows.shardWritesSpec) false w args) (Rows.shardWritesSpec.post enc Tryd.prog Tryd.f3 false true false false) := by
  refine returnsInHanded_of_change_and (C := Tryd.checked) (X := fun w _ => laidMetH Tryd.prog laidAll w) (fun _ _ _ hh h => h.of_heap hh) own started (by kernel_rfl) Tryd.func3
    (ChangeSpec.witness_shaped (enc := enc) (C := Tryd.checked) (os := os) (X := fun w _ => laidMetH Tryd.prog laidAll w) false (World.doorLaid Tryd.prog 400 os) #[.agg #[.int .i64 0, .int .i64 0, .int .i64 0, .int .i64 0, .int .i64 0, .int .i64 0], .slice none 0 0, .slice none 0 0] 8 rfl (World.shaped_of_RefB (by kernel_rfl) (by kernel_rfl)) (by kernel_rfl) (by kernel_rfl) (by kernel_rfl) (door_met os _)) ?_
  intro W base args ds gs before hval0 hW _ hsz0 hL _
  have hval : ∀ (j : Nat) t v, Tryd.f3.params[j]? = some t → args[j]? = some v → Value.okWide Tryd.prog W .any base t v := hval0
  have hW' := hW
  obtain ⟨p, q, hA0, hV, rfl, hfz, hnd⟩ := hW
  have hA : DataW.TrodAll enc Tryd.prog W 0 (fun _ => true) true Tryd.f3.params.toList args.toList ds p := hA0
  rw [Tryd.params3] at hA hval
  have T := halfT_of hL
  obtain ⟨v0, vs0, d0, ds0, p0, q0, hargs, rfl, rfl, h0, r0⟩ := trodAll_cons hA
  obtain ⟨v1, vs1, d1, ds1, p1, q1, rfl, rfl, rfl, h1, r1⟩ := trodAll_cons r0
  obtain ⟨v2, vs2, d2, ds2, p2, q2, rfl, rfl, rfl, h2, r2⟩ := trodAll_cons r1
  obtain ⟨rfl, rfl, rfl⟩ := trodAll_nil r2
  obtain rfl : args = #[v0, v1, v2] := by cases args; simp_all
  obtain ⟨rfl, rfl⟩ := trodVars_none hV
  have k0 := h0
  have lt0 : ∀ x ∈ p0, x.block < W.heap.size := by obtain ⟨m, hm⟩ := k0; exact DataW.trod_lt m _ _ _ hm
  obtain ⟨K0, M0, I0, B0, S0, D0, e0, rfl⟩ := open_head (hval 0 23 v0 rfl rfl) h0
  obtain ⟨a1, len1, cap1, rfl⟩ := okWide_slice Tryd.underlying24 (hval 1 24 v1 rfl rfl)
  have k1 := h1
  have lt1 : ∀ x ∈ p1, x.block < W.heap.size := by obtain ⟨m, hm⟩ := k1; exact DataW.trod_lt m _ _ _ hm
  obtain ⟨f1, m1, z1, e1, c1⟩ := open_row h1
  obtain ⟨a2, len2, cap2, rfl⟩ := okWide_slice Tryd.underlying24 (hval 2 24 v2 rfl rfl)
  have k2 := h2
  have lt2 : ∀ x ∈ p2, x.block < W.heap.size := by obtain ⟨m, hm⟩ := k2; exact DataW.trod_lt m _ _ _ hm
  obtain ⟨f2, m2, z2, e2, c2⟩ := open_row h2
  clear hA0 hval0 hsz0 hL
  refine (core K0 M0 I0 B0 S0 D0 a1 len1 cap1 f1 a2 len2 cap2 f2 W T e0 m1 z1 e1 c1 m2 z2 e2 c2).mono fun e W' ⟨he, bel⟩ => ?_
  subst he
  exact ⟨_, rfl, _, _, _, [], _, [], hW', trodAll_mk1 (shut_bool Tryd.underlying4 _), (trodAll_cons_mk (Below.trod laidOut (by kernel_rfl) (of_decide_eq_true (by kernel_rfl)) k0 bel lt0) (trodAll_cons_mk (Below.trod laidOut (by kernel_rfl) (of_decide_eq_true (by kernel_rfl)) k1 bel lt1) (trodAll_cons_mk (Below.trod laidOut (by kernel_rfl) (of_decide_eq_true (by kernel_rfl)) k2 bel lt2) trodAll_mk0))), rfl, bel.frame _, fun h => by cases h⟩

theorem over : Rows.shardWritesRow.holds Tryd.pinned (OpenSpec.ofChange Rows.shardWritesSpec) :=
  OpenClaim.holds_of_wide 3 Tryd.f3 rfl rfl rfl rfl rfl rfl rfl ⟨rfl, rfl, rfl, rfl, rfl⟩ rfl rfl rfl rfl rfl (by kernel_rfl) Tryd.func3 (by kernel_rfl)
    (of_decide_eq_true (by kernel_rfl)) (by unfold Func.isWrapper; first | (rw [if_pos (by decide +kernel)]; kernel_rfl) | (rw [if_neg (by decide +kernel)]; exact ⟨rfl, rfl⟩))
    (fun os started H enc _ => lifted os started H enc)

end shardWrites

/-- The statement. -/
theorem shardWrites_holds : Rows.ShardWritesCardSaid :=
  Claim7.holds_tied_plain_at .later [] [.data] true (true, "9b2e8d71bbdfd75aae88c0846095cf4bcf21937ec3a365648ee7d2fc33c80607") false
    shardWrites.over (fun _ h => by cases h) (by kernel_rfl) (fun _ h => by cases h) shardWrites_row_tie rfl ⟨rfl, rfl⟩ (by kernel_rfl) rfl
    (fun f fn hf hfn => by
      obtain rfl : f = 3 := Option.some.inj ((show Tryd.prog.funcNamed "strongbox/strongboxlaw5.ShardWrites" = some 3 by kernel_rfl).symm.trans hf) |>.symm
      obtain rfl : fn = Tryd.f3 := (Option.some.inj (Tryd.func3.symm.trans hfn)).symm
      exact ⟨by kernel_rfl, fun j t ht => by
        rw [Tryd.params3] at ht
        have hm : t ∈ [23, 24, 24] := by simpa using Array.mem_of_getElem? ht
        have hall : ([23, 24, 24].all fun u => !Tryd.prog.wantsStandIn u) = true := by kernel_rfl
        exact (show Tryd.prog.wantsStandIn t = false by simpa using List.all_eq_true.1 hall t hm)⟩)
    (by kernel_rfl)
#print axioms shardWrites_holds
end Go.Proofs.YtjbdncgmpccedaaDoor
