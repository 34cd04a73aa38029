/-
  The law CrcSums of layer 4 (any bytes, cut anywhere: the sum, part by part the same; as four bytes, and back) answers true for all bytes and all cuts, where crc's table is as the program's text lays it.
-/
import Derived.Test.YtkpnhaaniljbgaaDoorRows
import Derived.WalkKit
import Derived.ProofKit
import Derived.OpenShut
import Derived.ShutString
import Derived.ChangeOld
import Derived.Below
import Derived.SizedLaws
import Derived.LaidMore
import Derived.Stop.Joined
import Derived.SevenTiedAt
import Derived.Test.YtkpnhaaniljbgaaDoorCards
import Derived.Test.YtkpnhaaniljbgaaDoorTie
import Derived.Test.YtkpnhaaniljbgaaDoorLaid4
import Derived.Test.YtkpnhaaniljbgaaDoorCrcRef
namespace Go.Proofs.YtkpnhaaniljbgaaDoor
namespace crcSums
open Go.ChangeShapes Go.WideShapes Go.ChangeAt Go.RowKit Crc
set_option linter.unusedVariables false
attribute [local go_sem ↓] Go.wp_at_zero Go.wp_at_succ

theorem own : ownKnob Tryd.prog.godebug = none := by kernel_rfl
theorem laidOut : laidOutB Tryd.prog = true := by kernel_rfl

set_option maxRecDepth 100000 in
set_option maxHeartbeats 4000000 in
theorem core (a : Option Addr) (n c : Nat) (f : Nat → Nat) (x' : Int) (w : World) (T : HalfT w) (h : Row w a n f) (z : a = none → n = 0 ∧ c = 0) (hn : n ≤ maxLen) (hc : n ≤ c) (x0 : 0 ≤ x') (x1 : x' ≤ 65535) :
    Calls Tryd.prog 3 #[.slice a n c, .int .u16 x'] w fun e w' => e = .returned (.bool true) ∧ Below w.heap.size w w' := by
  unfold maxLen at hn
  obtain ⟨x, rfl⟩ := Int.eq_ofNat_of_zero_le x0
  go_enter Tryd.func3, Tryd.ntmps3
  go_wp2_with fail
  go_at_call 7
  refine (awake_any w T).mono ?_
  rintro e w1 ⟨rfl, b1⟩
  have T1 : Hid (HalfT w1) := T.keep b1
  have HR : Hid (Row w1 a n f) := h.keep b1
  have HF : Hid (∀ i, f i < 256) := h.lt
  clear h T z
  by_cases l1 : 4000 < n
  · have g1 : (4000 : Int) < (n : Int) := by omega
    go_wp2
    go_ret
    exact ⟨rfl, b1⟩
  have g1 : decide ((4000 : Int) < (n : Int)) = false := decide_eq_false (by omega)
  have hm : n ≤ maxLen := by unfold maxLen; omega
  have cS := sum_any a n c f w1 T1.out HR.out hm
  obtain ⟨k, hk⟩ : ∃ k : Nat, (x : Int) % ((n : Int) + 1) = (k : Int) := ⟨((x : Int) % ((n : Int) + 1)).toNat, (Int.toNat_of_nonneg (Int.emod_nonneg _ (by omega))).symm⟩
  have hkn : k ≤ n := by
    have := Int.emod_lt_of_pos (x : Int) (show (0 : Int) < (n : Int) + 1 by omega)
    omega
  have ls : sum n f < 4294967296 := more_lt (by omega) HF.out
  obtain ⟨s, hs⟩ : ∃ s, sum n f = s := ⟨_, rfl⟩
  have HS : Hid (sum n f = s) := hs
  rw [hs] at cS ls
  clear hs
  go_wp2_with fail
  rw [hk]
  clear hk
  go_at_call 8
  refine cS.mono ?_
  rintro e w' ⟨rfl, rfl⟩
  clear cS
  have cB := bytes_any s w1 ls
  go_wp2_with fail
  go_at_call 10
  refine cB.mono ?_
  rintro e w2 ⟨rfl, m2, b2⟩
  clear cB
  have cR := read_any (some ⟨w1.heap.size, 0, none⟩) 4 (by4 s) w2 (m2.row (by4_lt _))
  rw [le4_by4 ls] at cR
  go_wp2_with fail
  go_at_call 9
  refine cR.mono ?_
  rintro e w3 ⟨rfl, b3⟩
  clear cR m2
  have b13 : Below w1.heap.size w1 w3 := hop b2 b3
  have HR3 := HR.out.keep b13
  have T3 := T1.out.keep b13
  have cN : Calls Tryd.prog 9 #[.slice a n c] w3 fun e w' => ∃ q : Nat, e = .returned (.tuple #[.int .u32 (q : Int), .bool (decide (n = 4))]) ∧ Below w3.heap.size w3 w' := by
    by_cases e4 : n = 4
    · subst e4
      refine (read_any a c f w3 HR3).mono ?_
      rintro e w' ⟨rfl, hb⟩
      exact ⟨le4 f, by simp, hb⟩
    · refine (read_no a n c w3 e4).mono ?_
      rintro e w' ⟨rfl, rfl⟩
      exact ⟨0, by simp [e4], Below.refl _ _⟩
  clear b2 b3
  go_wp2_with fail
  go_at_call 9
  refine cN.mono ?_
  rintro e w4 ⟨q, rfl, b34⟩
  clear cN
  have b14 : Below w1.heap.size w1 w4 := hop b13 b34
  have bd : Below w1.heap.size w1 w4.drew := b14.drew
  have Rd := HR.out.keep bd
  have Td := T1.out.keep bd
  have K11 := rsum_any a n c f w4.drew Rd hm
  rw [HS.out] at K11
  obtain ⟨A1, sl1, rA1⟩ := cut_h (c := c) Rd k hkn hc
  have K8 := sum_any A1 k c f w4.drew Td rA1 (by unfold maxLen; omega)
  obtain ⟨A2, sl2, rA2⟩ := cut_l (c := c) Rd k hkn hc
  have K12 := more_any (sum k f) A2 (n - k) (c - k) _ w4.drew Td rA2 (more_lt (by omega) HF.out) (by unfold maxLen; omega)
  rw [show more (sum k f) (n - k) (fun i => f (k + i)) = sum (k + (n - k)) f from more_more 0 k (n - k) f, show k + (n - k) = n by omega, HS.out] at K12
  have K10 : Hid (Calls Tryd.prog 10 #[.int .u32 s] w4.drew fun e w' => ∃ g, e = .returned (.slice (some ⟨g, 0, none⟩) 4 4) ∧ Sem.run Tryd.prog (convert 22 9 (.slice (some ⟨g, 0, none⟩) 4 4)) w' = .ok (.string (str (by4 s) 4)) w' ∧
      Calls Tryd.prog 13 #[.int .u32 s] w' fun e w'' => ∃ v, e = .returned v ∧ Sem.run Tryd.prog (convert 22 9 v) w'' = .ok (.string (str (by4 s) 4)) w'' ∧ Sem.run Tryd.prog (convert 22 9 (.slice (some ⟨g, 0, none⟩) 4 4)) w'' = .ok (.string (str (by4 s) 4)) w'' ∧ Below w1.heap.size w1 w'') := by
    refine (bytes_any s w4.drew ls).mono ?_
    rintro e w5 ⟨rfl, m5, b5⟩
    refine ⟨_, rfl, conv_row (m5.row (by4_lt _)) (fun e => by cases e), (rbytes_any s w5 ls).mono ?_⟩
    rintro e w6 ⟨v, rfl, ho, b6⟩
    obtain ⟨g, c6, rfl, _, _, _, r6⟩ := ho.row (by omega) (by4_lt _)
    exact ⟨_, rfl, conv_row r6 (fun e => by cases e), conv_row ((m5.keep b6).row (by4_lt _)) (fun e => by cases e), hop (hop bd b5) b6⟩
  have hd4 : Hid ((decide (n = 4) == ((n : Int) == 4)) = true) := by
    unfold Hid
    by_cases e : n = 4
    · subst e; rfl
    · rw [decide_eq_false e, show ((n : Int) == 4) = false by simp; omega]; rfl
  generalize sum k f = s1 at *
  generalize str (by4 s) 4 = S at *
  have HB1 : Hid (Below w.heap.size w w1) := b1
  clear Rd Td rA1 rA2 HR HR3 T1 T3 HF HS b13 b14 b34 bd b1
  go_wp2
  go_region_held (fun _ => True) (trivial)
    (first | (go_at_call 11; refine K11.mono ?_; rintro e w' ⟨rfl, rfl⟩) | (go_at_call 8; refine K8.mono ?_; rintro e w' ⟨rfl, rfl⟩) | (go_at_call 12; refine K12.mono ?_; rintro e w' ⟨rfl, rfl⟩) | (go_at_call 10; refine K10.out.mono ?_; rintro e w7 ⟨g7, rfl, y1, y2⟩) | (go_at_call 13; refine y2.mono ?_; rintro e w8 ⟨v8, rfl, y3, y4, y5⟩))
  all_goals
    rw [hd4.out]
    go_wp2
    go_ret
    exact ⟨rfl, hop HB1.out y5⟩


set_option maxRecDepth 100000 in
theorem lifted (os : Os) (started : os.Started) (H : Type) (enc : TypeId × Value → H) :
    ReturnsInHanded {} Tryd.checked os 3 .any (fun w args => (Rows.crcSumsSpec.pre enc Tryd.prog Tryd.f3 [] false w args ∧ laidMetH Tryd.prog laidAll w) ∧ sizedMet enc Tryd.prog Tryd.f3 (OpenSpec.ofChange Rows.crcSumsSpec) false w args) (Rows.crcSumsSpec.post enc Tryd.prog Tryd.f3 false true false false) := by
  refine returnsInHanded_of_change_and (C := Tryd.checked) (X := fun w _ => laidMetH Tryd.prog laidAll w) (fun _ _ _ hh h => h.of_heap hh) own started (by kernel_rfl) Tryd.func3
    (ChangeSpec.witness_shaped (enc := enc) (C := Tryd.checked) (os := os) (X := fun w _ => laidMetH Tryd.prog laidAll w) false (World.doorLaid Tryd.prog 400 os) #[.slice none 0 0, .int .u16 0] 8 rfl (World.shaped_of_RefB (by kernel_rfl) (by kernel_rfl)) (by kernel_rfl) (by kernel_rfl) (by kernel_rfl) (door_met os _)) ?_
  intro W base args ds gs before hval0 hW _ hsz0 hL _
  have hval : ∀ (j : Nat) t v, Tryd.f3.params[j]? = some t → args[j]? = some v → Value.okWide Tryd.prog W .any base t v := hval0
  have hW' := hW
  obtain ⟨p, q, hA0, hV, rfl, hfz, hnd⟩ := hW
  have hA : DataW.TrodAll enc Tryd.prog W 0 (fun _ => true) true Tryd.f3.params.toList args.toList ds p := hA0
  rw [Tryd.params3] at hA hval
  have T := halfT_of hL
  obtain ⟨v0, vs0, d0, ds0, p0, q0, hargs, rfl, rfl, h0, r0⟩ := trodAll_cons hA
  obtain ⟨v1, vs1, d1, ds1, p1, q1, rfl, rfl, rfl, h1, r1⟩ := trodAll_cons r0
  obtain ⟨rfl, rfl, rfl⟩ := trodAll_nil r1
  obtain rfl : args = #[v0, v1] := by cases args; simp_all
  obtain ⟨rfl, rfl⟩ := trodVars_none hV
  obtain ⟨a0, len0, cap0, rfl⟩ := okWide_slice Tryd.underlying22 (hval 0 22 v0 rfl rfl)
  have k0 := h0
  have lt0 : ∀ x ∈ p0, x.block < W.heap.size := by obtain ⟨m, hm⟩ := k0; exact DataW.trod_lt m _ _ _ hm
  obtain ⟨f0, m0, z0, e0, c0⟩ := open_row h0
  have k1 := h1
  have lt1 : ∀ x ∈ p1, x.block < W.heap.size := by obtain ⟨m, hm⟩ := k1; exact DataW.trod_lt m _ _ _ hm
  obtain ⟨x1, rfl, _, _, w1⟩ := open_int Tryd.underlying23 (hval 1 23 v1 rfl rfl) h1
  have e1 : 0 ≤ x1 ∧ x1 ≤ 65535 := by simpa [Lit.wf, IntKind.min, IntKind.max, IntKind.signed, IntKind.bits] using w1
  clear hA0 hval0 hsz0 hL
  refine (core a0 len0 cap0 f0 x1 W T m0 z0 e0 c0 e1.1 e1.2).mono fun e W' ⟨he, bel⟩ => ?_
  subst he
  exact ⟨_, rfl, _, _, _, [], _, [], hW', trodAll_mk1 (shut_bool Tryd.underlying4 _), (trodAll_cons_mk (Below.trod laidOut (by kernel_rfl) (of_decide_eq_true (by kernel_rfl)) k0 bel lt0) (trodAll_cons_mk (Below.trod laidOut (by kernel_rfl) (of_decide_eq_true (by kernel_rfl)) k1 bel lt1) trodAll_mk0)), rfl, bel.frame _, fun h => by cases h⟩

theorem over : Rows.crcSumsRow.holds Tryd.pinned (OpenSpec.ofChange Rows.crcSumsSpec) :=
  OpenClaim.holds_of_wide 3 Tryd.f3 rfl rfl rfl rfl rfl rfl rfl ⟨rfl, rfl, rfl, rfl, rfl⟩ rfl rfl rfl rfl rfl (by kernel_rfl) Tryd.func3 (by kernel_rfl)
    (of_decide_eq_true (by kernel_rfl)) (by unfold Func.isWrapper; first | (rw [if_pos (by decide +kernel)]; kernel_rfl) | (rw [if_neg (by decide +kernel)]; exact ⟨rfl, rfl⟩))
    (fun os started H enc _ => lifted os started H enc)

end crcSums

/-- The statement. -/
theorem crcSums_holds : Rows.CrcSumsCardSaid :=
  Claim7.holds_tied_plain_at .later [] [.data] true (true, "9c843f5f4e7d5bb38c85aad9415cfc489720df02b75967ebda8fa3c2b69d4663") false
    crcSums.over (fun _ h => by cases h) (by kernel_rfl) (fun _ h => by cases h) crcSums_row_tie rfl ⟨rfl, rfl⟩ (by kernel_rfl) rfl
    (fun f fn hf hfn => by
      obtain rfl : f = 3 := Option.some.inj ((show Tryd.prog.funcNamed "strongbox/strongboxlaw4.CrcSums" = some 3 by kernel_rfl).symm.trans hf) |>.symm
      obtain rfl : fn = Tryd.f3 := (Option.some.inj (Tryd.func3.symm.trans hfn)).symm
      exact ⟨by kernel_rfl, fun j t ht => by
        rw [Tryd.params3] at ht
        have hm : t ∈ [22, 23] := by simpa using Array.mem_of_getElem? ht
        have hall : ([22, 23].all fun u => !Tryd.prog.wantsStandIn u) = true := by kernel_rfl
        exact (show Tryd.prog.wantsStandIn t = false by simpa using List.all_eq_true.1 hall t hm)⟩)
    (by kernel_rfl)
#print axioms crcSums_holds
end Go.Proofs.YtkpnhaaniljbgaaDoor
