/-
  The law CrcParts of layer 4 (a sum goes on piece by piece, however it is cut; nothing more changes nothing) answers true for all bytes and all cuts, where crc's table is as the program's text lays it.
-/
import Derived.Test.YtkpnhaaniljbgaaDoorRows
import Derived.WalkKit
import Derived.ProofKit
import Derived.OpenShut
import Derived.ShutString
import Derived.ChangeOld
import Derived.Below
import Derived.SizedLaws
import Derived.LaidMore
import Derived.Stop.Joined
import Derived.SevenTiedAt
import Derived.Test.YtkpnhaaniljbgaaDoorCards
import Derived.Test.YtkpnhaaniljbgaaDoorTie
import Derived.Test.YtkpnhaaniljbgaaDoorLaid4
namespace Go.Proofs.YtkpnhaaniljbgaaDoor
namespace crcParts
open Go.ChangeShapes Go.WideShapes Go.ChangeAt Go.RowKit Crc
set_option linter.unusedVariables false
attribute [local go_sem ↓] Go.wp_at_zero Go.wp_at_succ

theorem own : ownKnob Tryd.prog.godebug = none := by kernel_rfl
theorem laidOut : laidOutB Tryd.prog = true := by kernel_rfl

set_option maxRecDepth 100000 in
set_option maxHeartbeats 4000000 in
theorem core (a : Option Addr) (n c : Nat) (f : Nat → Nat) (a' : Option Addr) (n' c' : Nat) (g : Nat → Nat) (w : World) (T : HalfT w) (h : Row w a n f) (z : a = none → n = 0 ∧ c = 0) (hn : n ≤ maxLen) (hc : n ≤ c) (h' : Row w a' n' g) (z' : a' = none → n' = 0 ∧ c' = 0) (hn' : n' ≤ maxLen) (hc' : n' ≤ c') :
    Calls Tryd.prog 6 #[.slice a n c, .slice a' n' c'] w fun e w' => e = .returned (.bool true) ∧ Below w.heap.size w w' := by
  unfold maxLen at hn hn'
  go_enter Tryd.func6, Tryd.ntmps6
  go_wp2_with fail
  go_at_call 7
  refine (awake_any w T).mono ?_
  rintro e w1 ⟨rfl, b1⟩
  have T1 : Hid (HalfT w1) := T.keep b1
  have HR : Hid (Row w1 a n f) := h.keep b1
  have HR' : Hid (Row w1 a' n' g) := h'.keep b1
  have HF : Hid (∀ i, f i < 256) := h.lt
  clear h h' T z z'
  by_cases l1 : 4000 < n
  · have g1 : (4000 : Int) < (n : Int) := by omega
    go_wp2
    go_ret
    exact ⟨rfl, b1⟩
  have g1 : decide ((4000 : Int) < (n : Int)) = false := decide_eq_false (by omega)
  by_cases l2 : 100 < n'
  · have g2 : (100 : Int) < (n' : Int) := by omega
    go_wp2
    go_ret
    exact ⟨rfl, b1⟩
  have g2 : decide ((100 : Int) < (n' : Int)) = false := decide_eq_false (by omega)
  have c0 := sum_any none 0 0 _ w1 T1.out (Row.nil _ _) (by unfold maxLen; omega)
  rw [sum_none] at c0
  go_wp2_with fail
  go_at_call 8
  refine c0.mono ?_
  rintro e w' ⟨rfl, rfl⟩
  clear c0
  go_wp2
  go_loop [5, 6, 7] (fun s x i => ∃ k t : Nat, k ≤ n' ∧ t ≤ n ∧ i = .int .i64 k ∧ x = .int .i64 t ∧ s = .int .u32 (sum t f : Nat)) (fun _ _ i => n' - (intOf i).toNat)
  case atStart => exact ⟨0, 0, by omega, by omega, rfl, rfl, by rw [sum_none]; rfl⟩
  case round =>
    obtain ⟨k, t, hk, ht, rfl, rfl, rfl⟩ := hrel
    have ls : sum t f < 4294967296 := more_lt (by omega) HF.out
    by_cases hlt : k < n'
    · have ik : (k : Int) < (n' : Int) := by omega
      obtain ⟨b', o', rfl, hcc⟩ := HR'.out.lies (by omega)
      have cx := hcc k hlt
      have lx := HR'.out.lt k
      clear hcc HR'
      generalize g k = x at *
      obtain ⟨d, hd⟩ : ∃ d, n = t + d := ⟨n - t, by omega⟩
      have ed : (n : Int) - (t : Int) = (d : Int) := by omega
      have td : t + d ≤ 4000 := by omega
      have HD : Hid (n = t + d) := hd
      clear hd
      by_cases hxd : x ≤ d
      · have hx : (x : Int) ≤ (d : Int) := by omega
        obtain ⟨A, hsl, hA⟩ := cut_lh (c := c) HR.out t x (by have := HD.out; omega) hc
        have cM := more_any (sum t f) A x (c - t) (fun i => f (t + i)) w1 T1.out hA ls (by unfold maxLen; omega)
        rw [show more (sum t f) x (fun i => f (t + i)) = sum (t + x) f from more_more 0 t x f] at cM
        have HS : Hid (t + x ≤ n) := by have := HD.out; unfold Hid; omega
        clear hA
        generalize sum t f = s0 at *
        go_wp2_with fail
        go_at_call 12
        refine cM.mono ?_
        rintro e w' ⟨rfl, rfl⟩
        clear cM hsl
        go_wp2
        go_round
        case rel => exact ⟨k + 1, t + x, by omega, HS.out, by go_num, by go_num, rfl⟩
        case measure => simp [intOf]; omega
      · have hx : (d : Int) < (x : Int) := by omega
        obtain ⟨A, hsl, hA⟩ := cut_lh (c := c) HR.out t d (by have := HD.out; omega) hc
        have cM := more_any (sum t f) A d (c - t) (fun i => f (t + i)) w1 T1.out hA ls (by unfold maxLen; omega)
        rw [show more (sum t f) d (fun i => f (t + i)) = sum (t + d) f from more_more 0 t d f] at cM
        have HS : Hid (t + d ≤ n) := by have := HD.out; unfold Hid; omega
        clear hA
        generalize sum t f = s0 at *
        go_wp2_with fail
        go_at_call 12
        refine cM.mono ?_
        rintro e w' ⟨rfl, rfl⟩
        clear cM hsl
        go_wp2
        go_round
        case rel => exact ⟨k + 1, t + d, by omega, HS.out, by go_num, by go_num, rfl⟩
        case measure => simp [intOf]; omega
    · have : k = n' := by omega
      subst this
      obtain ⟨d, hd⟩ : ∃ d, n = t + d := ⟨n - t, by omega⟩
      obtain ⟨A, hsl, hA⟩ := cut_l (c := c) HR.out t ht hc
      rw [show n - t = d by omega] at hsl hA
      have cM := more_any (sum t f) A d (c - t) (fun i => f (t + i)) w1 T1.out hA ls (by unfold maxLen; omega)
      rw [show more (sum t f) d (fun i => f (t + i)) = sum (t + d) f from more_more 0 t d f, ← hd] at cM
      have cS := sum_any a n c f w1 T1.out HR.out (by unfold maxLen; omega)
      have lz : sum n f < 4294967296 := more_lt (by omega) HF.out
      have cN := more_any (sum n f) none 0 0 _ w1 T1.out (Row.nil _ _) lz (by unfold maxLen; omega)
      rw [more_none] at cN
      generalize sum n f = y at *
      generalize sum t f = s0 at *
      clear hA hd
      go_wp2_with fail
      go_at_call 12
      refine cM.mono ?_
      rintro e w' ⟨rfl, rfl⟩
      clear cM hsl
      go_wp2_with fail
      go_at_call 8
      refine cS.mono ?_
      rintro e w' ⟨rfl, rfl⟩
      clear cS
      go_wp2_with fail
      go_at_call 12
      refine cN.mono ?_
      rintro e w' ⟨rfl, rfl⟩
      go_wp2
      go_ret
      exact ⟨rfl, b1⟩


set_option maxRecDepth 100000 in
theorem lifted (os : Os) (started : os.Started) (H : Type) (enc : TypeId × Value → H) :
    ReturnsInHanded {} Tryd.checked os 6 .any (fun w args => (Rows.crcPartsSpec.pre enc Tryd.prog Tryd.f6 [] false w args ∧ laidMetH Tryd.prog laidAll w) ∧ sizedMet enc Tryd.prog Tryd.f6 (OpenSpec.ofChange Rows.crcPartsSpec) false w args) (Rows.crcPartsSpec.post enc Tryd.prog Tryd.f6 false true false false) := by
  refine returnsInHanded_of_change_and (C := Tryd.checked) (X := fun w _ => laidMetH Tryd.prog laidAll w) (fun _ _ _ hh h => h.of_heap hh) own started (by kernel_rfl) Tryd.func6
    (ChangeSpec.witness_shaped (enc := enc) (C := Tryd.checked) (os := os) (X := fun w _ => laidMetH Tryd.prog laidAll w) false (World.doorLaid Tryd.prog 400 os) #[.slice none 0 0, .slice none 0 0] 8 rfl (World.shaped_of_RefB (by kernel_rfl) (by kernel_rfl)) (by kernel_rfl) (by kernel_rfl) (by kernel_rfl) (door_met os _)) ?_
  intro W base args ds gs before hval0 hW _ hsz0 hL _
  have hval : ∀ (j : Nat) t v, Tryd.f6.params[j]? = some t → args[j]? = some v → Value.okWide Tryd.prog W .any base t v := hval0
  have hW' := hW
  obtain ⟨p, q, hA0, hV, rfl, hfz, hnd⟩ := hW
  have hA : DataW.TrodAll enc Tryd.prog W 0 (fun _ => true) true Tryd.f6.params.toList args.toList ds p := hA0
  rw [Tryd.params6] at hA hval
  have T := halfT_of hL
  obtain ⟨v0, vs0, d0, ds0, p0, q0, hargs, rfl, rfl, h0, r0⟩ := trodAll_cons hA
  obtain ⟨v1, vs1, d1, ds1, p1, q1, rfl, rfl, rfl, h1, r1⟩ := trodAll_cons r0
  obtain ⟨rfl, rfl, rfl⟩ := trodAll_nil r1
  obtain rfl : args = #[v0, v1] := by cases args; simp_all
  obtain ⟨rfl, rfl⟩ := trodVars_none hV
  obtain ⟨a0, len0, cap0, rfl⟩ := okWide_slice Tryd.underlying22 (hval 0 22 v0 rfl rfl)
  have k0 := h0
  have lt0 : ∀ x ∈ p0, x.block < W.heap.size := by obtain ⟨m, hm⟩ := k0; exact DataW.trod_lt m _ _ _ hm
  obtain ⟨f0, m0, z0, e0, c0⟩ := open_row h0
  obtain ⟨a1, len1, cap1, rfl⟩ := okWide_slice Tryd.underlying22 (hval 1 22 v1 rfl rfl)
  have k1 := h1
  have lt1 : ∀ x ∈ p1, x.block < W.heap.size := by obtain ⟨m, hm⟩ := k1; exact DataW.trod_lt m _ _ _ hm
  obtain ⟨f1, m1, z1, e1, c1⟩ := open_row h1
  clear hA0 hval0 hsz0 hL
  refine (core a0 len0 cap0 f0 a1 len1 cap1 f1 W T m0 z0 e0 c0 m1 z1 e1 c1).mono fun e W' ⟨he, bel⟩ => ?_
  subst he
  exact ⟨_, rfl, _, _, _, [], _, [], hW', trodAll_mk1 (shut_bool Tryd.underlying4 _), (trodAll_cons_mk (Below.trod laidOut (by kernel_rfl) (of_decide_eq_true (by kernel_rfl)) k0 bel lt0) (trodAll_cons_mk (Below.trod laidOut (by kernel_rfl) (of_decide_eq_true (by kernel_rfl)) k1 bel lt1) trodAll_mk0)), rfl, bel.frame _, fun h => by cases h⟩

theorem over : Rows.crcPartsRow.holds Tryd.pinned (OpenSpec.ofChange Rows.crcPartsSpec) :=
  OpenClaim.holds_of_wide 6 Tryd.f6 rfl rfl rfl rfl rfl rfl rfl ⟨rfl, rfl, rfl, rfl, rfl⟩ rfl rfl rfl rfl rfl (by kernel_rfl) Tryd.func6 (by kernel_rfl)
    (of_decide_eq_true (by kernel_rfl)) (by unfold Func.isWrapper; first | (rw [if_pos (by decide +kernel)]; kernel_rfl) | (rw [if_neg (by decide +kernel)]; exact ⟨rfl, rfl⟩))
    (fun os started H enc _ => lifted os started H enc)

end crcParts

/-- The statement. -/
theorem crcParts_holds : Rows.CrcPartsCardSaid :=
  Claim7.holds_tied_plain_at .later [] [.data] true (true, "9c843f5f4e7d5bb38c85aad9415cfc489720df02b75967ebda8fa3c2b69d4663") false
    crcParts.over (fun _ h => by cases h) (by kernel_rfl) (fun _ h => by cases h) crcParts_row_tie rfl ⟨rfl, rfl⟩ (by kernel_rfl) rfl
    (fun f fn hf hfn => by
      obtain rfl : f = 6 := Option.some.inj ((show Tryd.prog.funcNamed "strongbox/strongboxlaw4.CrcParts" = some 6 by kernel_rfl).symm.trans hf) |>.symm
      obtain rfl : fn = Tryd.f6 := (Option.some.inj (Tryd.func6.symm.trans hfn)).symm
      exact ⟨by kernel_rfl, fun j t ht => by
        rw [Tryd.params6] at ht
        have hm : t ∈ [22, 22] := by simpa using Array.mem_of_getElem? ht
        have hall : ([22, 22].all fun u => !Tryd.prog.wantsStandIn u) = true := by kernel_rfl
        exact (show Tryd.prog.wantsStandIn t = false by simpa using List.all_eq_true.1 hall t hm)⟩)
    (by kernel_rfl)
#print axioms crcParts_holds
end Go.Proofs.YtkpnhaaniljbgaaDoor
