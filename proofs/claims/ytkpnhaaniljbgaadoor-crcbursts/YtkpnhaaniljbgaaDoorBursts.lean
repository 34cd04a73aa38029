/-
  The law CrcBursts of layer 4 (whatever is changed within 32 bits in a row, of the bytes or of their sum behind them, is told) answers true for all bytes, places and masks, where crc's table is as the program's text lays it.
-/
import Derived.Test.YtkpnhaaniljbgaaDoorRows
import Derived.WalkKit
import Derived.ProofKit
import Derived.OpenShut
import Derived.ShutString
import Derived.ChangeOld
import Derived.Below
import Derived.SizedLaws
import Derived.LaidMore
import Derived.Stop.Joined
import Derived.SevenTiedAt
import Derived.Test.YtkpnhaaniljbgaaDoorCards
import Derived.Test.YtkpnhaaniljbgaaDoorTie
import Derived.Test.YtkpnhaaniljbgaaDoorLaid4
import Derived.Test.YtkpnhaaniljbgaaDoorTurn
namespace Go.Proofs.YtkpnhaaniljbgaaDoor
namespace crcBursts
open Go.ChangeShapes Go.WideShapes Go.ChangeAt Go.RowKit Crc
set_option linter.unusedVariables false
attribute [local go_sem ↓] Go.wp_at_zero Go.wp_at_succ

theorem own : ownKnob Tryd.prog.godebug = none := by kernel_rfl
theorem laidOut : laidOutB Tryd.prog = true := by kernel_rfl

set_option maxRecDepth 100000 in
set_option maxHeartbeats 4000000 in
theorem core (a : Option Addr) (n c : Nat) (f : Nat → Nat) (at' y' : Int) (w : World) (T : HalfT w) (h : Row w a n f) (z : a = none → n = 0 ∧ c = 0) (hn : n ≤ maxLen) (hc : n ≤ c) (x0 : 0 ≤ at') (x1 : at' ≤ 4294967295) (y0 : 0 ≤ y') (y1 : y' ≤ 4294967295) :
    Calls Tryd.prog 4 #[.slice a n c, .int .u32 at', .int .u32 y'] w fun e w' => e = .returned (.bool true) ∧ Below w.heap.size w w' := by
  unfold maxLen at hn
  obtain ⟨x, rfl⟩ := Int.eq_ofNat_of_zero_le x0
  obtain ⟨y, rfl⟩ := Int.eq_ofNat_of_zero_le y0
  go_enter Tryd.func4, Tryd.ntmps4
  go_wp2_with fail
  go_at_call 7
  refine (awake_any w T).mono ?_
  rintro e w1 ⟨rfl, b1⟩
  have T1 : Hid (HalfT w1) := T.keep b1
  have HR : Hid (Row w1 a n f) := h.keep b1
  have HF : Hid (∀ i, f i < 256) := h.lt
  clear h T
  by_cases l1 : 4000 < n
  · have g1 : (4000 : Int) < (n : Int) := by omega
    go_wp2
    go_ret
    exact ⟨rfl, b1⟩
  have g1 : decide ((4000 : Int) < (n : Int)) = false := decide_eq_false (by omega)
  by_cases l2 : y = 0
  · subst l2
    go_wp2
    go_ret
    exact ⟨rfl, b1⟩
  have g2 : ((y : Int) == 0) = false := by simp; omega
  obtain ⟨W0, hW0⟩ : ∃ W, W = w1.alloc (.cells #[] 5) := ⟨_, rfl⟩
  have bW0 : Below w1.heap.size w1 W0 := by rw [hW0]; exact bal _ _
  have own0 : Own W0 w1.heap.size (.slice (some ⟨w1.heap.size, 0, none⟩) 0 0) 0 f := by rw [hW0]; exact World.ownsRow_lit (e := 5) (size := 1) w1 #[] 0 (Nat.le_refl _) (by unfold maxLen; omega) (by simp)
  obtain ⟨v1, W1, hr, own1, bW1⟩ := appendA (c := c) own0 (HR.out.keep bW0) z (by omega) (by have := bW0.size; omega)
  rw [Nat.zero_add] at own1
  replace own1 := own1.congr (g := f) (fun i hi => by unfold cat; rw [if_neg (by omega), Nat.sub_zero])
  have HA : Hid (Sem.run Tryd.prog (Builtin.append_ #[22, 22] 22 #[.slice (some ⟨w1.heap.size, 0, none⟩) 0 0, .slice a n c]) W0 = .ok v1 W1) := hr
  have b01 : Below w1.heap.size w1 W1 := bW0.trans bW1
  have T2 := T1.out.keep b01
  have hm : n ≤ maxLen := by unfold maxLen; omega
  have cS := sum_any a n c f W1 T2 (HR.out.keep b01) hm
  have ls : sum n f < 4294967296 := more_lt (by omega) HF.out
  have cB := bytes_any (sum n f) W1 ls
  have HO : Hid (Own W1 w1.heap.size v1 n f) := own1
  have HB1 : Hid (Below w1.heap.size w1 W1) := b01
  clear own0 own1 hr bW1 b01 bW0 T2
  go_wp2_with (at_builtin; rw [← hW0]; refine wpList_append_ran (by rfl) _ _ 22 (by rfl) _ _ _ _ (by rfl) (by rfl) HA.out ?_)
  go_at_call 8
  refine cS.mono ?_
  rintro e w' ⟨rfl, rfl⟩
  clear cS
  go_wp2_with fail
  go_at_call 10
  refine cB.mono ?_
  rintro e W2 ⟨rfl, m4, b12⟩
  clear cB
  obtain ⟨v2, W3, hr2, own3, b23⟩ := appendA (c := 4) (HO.out.keep b12) (m4.row (by4_lt _)) (fun e => by cases e) (by omega) (by have := HB1.out.size; have := b12.size; omega)
  have b13 : Below w1.heap.size w1 W3 := (HB1.out.trans (b12.mono HB1.out.size)).trans b23
  obtain ⟨gb, cb, rfl, hgb, hncb, hcbm, mB⟩ := own3.made (by omega)
  have HA2 : Hid (Sem.run Tryd.prog (Builtin.append_ #[22, 22] 22 #[v1, .slice (some ⟨W1.heap.size, 0, none⟩) 4 4]) W2 = .ok (.slice (some ⟨gb, 0, none⟩) (n + 4) cb) W3) := hr2
  have HMB : Hid (Made W3 gb (n + 4) (cat n f (by4 (sum n f)))) := mB
  have HB3 : Hid (Below w1.heap.size w1 W3) := b13
  have lc : Hid (∀ i, cat n f (by4 (sum n f)) i < 256) := cat_lt HF.out (by4_lt _)
  clear m4 b12 b13 b23 own3 mB hr2 HO HB1 HA z
  obtain ⟨m, hm⟩ : ∃ m, m = n + 4 := ⟨_, rfl⟩
  rw [← hm] at HA2 HMB hncb
  have hmi : (n : Int) + 4 = (m : Int) := by omega
  obtain ⟨fr, hfr⟩ : ∃ fr : Nat, (x : Int) % (8 * (m : Int) - 31) = (fr : Int) := ⟨((x : Int) % (8 * (m : Int) - 31)).toNat, (Int.toNat_of_nonneg (Int.emod_nonneg _ (by omega))).symm⟩
  have hfl : fr + 32 ≤ 8 * m := by
    have := Int.emod_lt_of_pos (x : Int) (show (0 : Int) < 8 * (m : Int) - 31 by omega)
    omega
  have HM : Hid (m = n + 4) := hm
  have hm4 : m ≤ 4004 := by omega
  have hm5 : 4 ≤ m := by omega
  clear hm
  go_wp2_with (at_builtin; refine wpList_append_ran (by rfl) _ _ 22 (by rfl) _ _ _ _ (by rfl) (by rfl) HA2.out ?_)
  rw [hfr]
  clear hfr HA2
  obtain ⟨F, hF⟩ : ∃ F, F = cat n f (by4 (sum n f)) := ⟨_, rfl⟩
  rw [← hF] at HMB lc
  have HFE : Hid (F = cat n f (by4 (sum n f))) := hF
  clear hF
  go_loopw [9] (fun i wr => ∃ t : Nat, t ≤ 32 ∧ i = .int .i64 t ∧ Made wr gb m (fun j => F j ^^^ bd fr y t j) ∧ Below w1.heap.size w1 wr) (fun i _ => 32 - (intOf i).toNat)
  case atStart => exact ⟨0, by omega, rfl, HMB.out.congr fun j _ => by rw [bd_zero, Nat.xor_zero], HB3.out⟩
  case round =>
    obtain ⟨t, ht, rfl, mB, hb⟩ := hrel
    clear HMB HB3
    by_cases hlt : t < 32
    · have it : (t : Int) < 32 := by omega
      have hbit : bits .and .u32 ((y : Int) / 2 ^ t) 1 = ((y / 2 ^ t % 2 : Nat) : Int) := by
        rw [show (y : Int) / 2 ^ t = ((y / 2 ^ t : Nat) : Int) by simp]
        exact u32_mask (y / 2 ^ t) 1 (Nat.lt_of_le_of_lt (Nat.div_le_self _ _) (by omega)) (by omega)
      by_cases od : y / 2 ^ t % 2 = 1
      · rw [od] at hbit
        have hqn : (fr + t) / 8 < m := by omega
        have hr8 : (fr + t) % 8 < 8 := by omega
        have hu1 : F ((fr + t) / 8) ^^^ bd fr y t ((fr + t) / 8) < 256 := xor_lt8 (lc.out _) (bd_lt _ _ _ _)
        have c1 := mB.cell _ hqn
        have s1 := mB.soft _ hqn
        have xb1 := xor_bit hu1 hr8
        have mB' := mB.turn hqn od
        have hb' : Below w1.heap.size w1 (wr.setCell ⟨gb, (fr + t) / 8, none⟩ (.int .u8 (((F ((fr + t) / 8) ^^^ bd fr y t ((fr + t) / 8)) ^^^ 2 ^ ((fr + t) % 8) : Nat) : Int))) := hb.setCell (p := ⟨gb, _, none⟩) hgb _
        generalize (F ((fr + t) / 8) ^^^ bd fr y t ((fr + t) / 8)) ^^^ 2 ^ ((fr + t) % 8) = z1 at *
        generalize F ((fr + t) / 8) ^^^ bd fr y t ((fr + t) / 8) = u1 at *
        have eq' : ((fr : Int) + (t : Int)) / 8 = (((fr + t) / 8 : Nat) : Int) := by omega
        have er' : ((fr : Int) + (t : Int)) % 8 = (((fr + t) % 8 : Nat) : Int) := by omega
        generalize (fr + t) / 8 = q at *
        generalize (fr + t) % 8 = r at *
        have HB1 : Hid _ := mB'
        have HBW : Hid _ := hb'
        clear mB mB' hb hb' od
        go_wp2
        go_round
        case rel => exact ⟨t + 1, by omega, by go_num, HB1.out, HBW.out⟩
        case measure => simp [intOf]; omega
      · rw [show y / 2 ^ t % 2 = 0 by omega] at hbit
        have HB1 : Hid _ := mB.same (show y / 2 ^ t % 2 = 0 by omega)
        clear mB od
        go_wp2
        go_round
        case rel => exact ⟨t + 1, by omega, by go_num, HB1.out, hb⟩
        case measure => simp [intOf]; omega
    · have : t = 32 := by omega
      subst this
      have hG : ∀ i, F i ^^^ bd fr y 32 i < 256 := fun i => xor_lt8 (lc.out _) (bd_lt _ _ _ _)
      have row := mB.row hG
      obtain ⟨A, hsl, hA⟩ := cut_l (c := cb) row n (by have := HM.out; omega) hncb
      rw [show m - n = 4 by have := HM.out; omega] at hsl hA
      have cR := read_any A (cb - n) _ wr hA
      have hne := tail_told f HF.out (n := n) (fr := fr) (mask := y) (by have := HM.out; omega) (by omega) l2
      have e1 : le4 (fun i => F (n + i) ^^^ bd fr y 32 (n + i)) = le4 (fun i => by4 (sum n f) i ^^^ bd fr y 32 (n + i)) := by
        have e : ∀ i, F (n + i) = by4 (sum n f) i := fun i => by rw [HFE.out]; unfold cat; rw [if_neg (by omega), Nat.add_sub_cancel_left]
        exact congrArg le4 (funext fun i => by rw [e])
      have e2 : sum n (fun j => F j ^^^ bd fr y 32 j) = sum n (fun j => f j ^^^ bd fr y 32 j) := more_congr fun j hj => by rw [HFE.out]; unfold cat; rw [if_pos hj]
      rw [← e1, ← e2] at hne
      have HR3 : Hid (Row wr (some ⟨gb, 0, none⟩) m (fun j => F j ^^^ bd fr y 32 j)) := row
      clear mB hA e1 e2 row hG
      generalize le4 (fun i => F (n + i) ^^^ bd fr y 32 (n + i)) = z1 at *
      go_wp2_with fail
      go_at_call 9
      refine cR.mono ?_
      rintro e w5 ⟨rfl, b5⟩
      clear cR hsl
      have b15 : Below w1.heap.size w1 w5 := hb.trans (b5.mono hb.size)
      obtain ⟨A2, hsl2, hA2⟩ := cut_h (c := cb) (HR3.out.keep b5) n (by have := HM.out; omega) hncb
      have cS := sum_any A2 n cb _ w5 (T1.out.keep b15) hA2 (by unfold maxLen; omega)
      generalize sum n (fun j => F j ^^^ bd fr y 32 j) = z2 at *
      have ne1 : ((z1 : Int) == (z2 : Int)) = false := by simp; omega
      have ne2 : ((z1 : Int) != (z2 : Int)) = true := by simp; omega
      have HBB : Hid (Below w1.heap.size w1 w5) := b15
      clear hA2 b15 b5 hb hne
      go_wp2_with fail
      go_at_call 8
      refine cS.mono ?_
      rintro e w' ⟨rfl, rfl⟩
      go_wp2
      go_ret
      exact ⟨rfl, hop b1 HBB.out⟩


set_option maxRecDepth 100000 in
theorem lifted (os : Os) (started : os.Started) (H : Type) (enc : TypeId × Value → H) :
    ReturnsInHanded {} Tryd.checked os 4 .any (fun w args => (Rows.crcBurstsSpec.pre enc Tryd.prog Tryd.f4 [] false w args ∧ laidMetH Tryd.prog laidAll w) ∧ sizedMet enc Tryd.prog Tryd.f4 (OpenSpec.ofChange Rows.crcBurstsSpec) false w args) (Rows.crcBurstsSpec.post enc Tryd.prog Tryd.f4 false true false false) := by
  refine returnsInHanded_of_change_and (C := Tryd.checked) (X := fun w _ => laidMetH Tryd.prog laidAll w) (fun _ _ _ hh h => h.of_heap hh) own started (by kernel_rfl) Tryd.func4
    (ChangeSpec.witness_shaped (enc := enc) (C := Tryd.checked) (os := os) (X := fun w _ => laidMetH Tryd.prog laidAll w) false (World.doorLaid Tryd.prog 400 os) #[.slice none 0 0, .int .u32 0, .int .u32 0] 8 rfl (World.shaped_of_RefB (by kernel_rfl) (by kernel_rfl)) (by kernel_rfl) (by kernel_rfl) (by kernel_rfl) (door_met os _)) ?_
  intro W base args ds gs before hval0 hW _ hsz0 hL _
  have hval : ∀ (j : Nat) t v, Tryd.f4.params[j]? = some t → args[j]? = some v → Value.okWide Tryd.prog W .any base t v := hval0
  have hW' := hW
  obtain ⟨p, q, hA0, hV, rfl, hfz, hnd⟩ := hW
  have hA : DataW.TrodAll enc Tryd.prog W 0 (fun _ => true) true Tryd.f4.params.toList args.toList ds p := hA0
  rw [Tryd.params4] at hA hval
  have T := halfT_of hL
  obtain ⟨v0, vs0, d0, ds0, p0, q0, hargs, rfl, rfl, h0, r0⟩ := trodAll_cons hA
  obtain ⟨v1, vs1, d1, ds1, p1, q1, rfl, rfl, rfl, h1, r1⟩ := trodAll_cons r0
  obtain ⟨v2, vs2, d2, ds2, p2, q2, rfl, rfl, rfl, h2, r2⟩ := trodAll_cons r1
  obtain ⟨rfl, rfl, rfl⟩ := trodAll_nil r2
  obtain rfl : args = #[v0, v1, v2] := by cases args; simp_all
  obtain ⟨rfl, rfl⟩ := trodVars_none hV
  obtain ⟨a0, len0, cap0, rfl⟩ := okWide_slice Tryd.underlying22 (hval 0 22 v0 rfl rfl)
  have k0 := h0
  have lt0 : ∀ x ∈ p0, x.block < W.heap.size := by obtain ⟨m, hm⟩ := k0; exact DataW.trod_lt m _ _ _ hm
  obtain ⟨f0, m0, z0, e0, c0⟩ := open_row h0
  have k1 := h1
  have lt1 : ∀ x ∈ p1, x.block < W.heap.size := by obtain ⟨m, hm⟩ := k1; exact DataW.trod_lt m _ _ _ hm
  obtain ⟨x1, rfl, _, _, w1⟩ := open_int Tryd.underlying25 (hval 1 25 v1 rfl rfl) h1
  have e1 : 0 ≤ x1 ∧ x1 ≤ 4294967295 := by simpa [Lit.wf, IntKind.min, IntKind.max, IntKind.signed, IntKind.bits] using w1
  have k2 := h2
  have lt2 : ∀ x ∈ p2, x.block < W.heap.size := by obtain ⟨m, hm⟩ := k2; exact DataW.trod_lt m _ _ _ hm
  obtain ⟨x2, rfl, _, _, w2⟩ := open_int Tryd.underlying25 (hval 2 25 v2 rfl rfl) h2
  have e2 : 0 ≤ x2 ∧ x2 ≤ 4294967295 := by simpa [Lit.wf, IntKind.min, IntKind.max, IntKind.signed, IntKind.bits] using w2
  clear hA0 hval0 hsz0 hL
  refine (core a0 len0 cap0 f0 x1 x2 W T m0 z0 e0 c0 e1.1 e1.2 e2.1 e2.2).mono fun e W' ⟨he, bel⟩ => ?_
  subst he
  exact ⟨_, rfl, _, _, _, [], _, [], hW', trodAll_mk1 (shut_bool Tryd.underlying4 _), (trodAll_cons_mk (Below.trod laidOut (by kernel_rfl) (of_decide_eq_true (by kernel_rfl)) k0 bel lt0) (trodAll_cons_mk (Below.trod laidOut (by kernel_rfl) (of_decide_eq_true (by kernel_rfl)) k1 bel lt1) (trodAll_cons_mk (Below.trod laidOut (by kernel_rfl) (of_decide_eq_true (by kernel_rfl)) k2 bel lt2) trodAll_mk0))), rfl, bel.frame _, fun h => by cases h⟩

theorem over : Rows.crcBurstsRow.holds Tryd.pinned (OpenSpec.ofChange Rows.crcBurstsSpec) :=
  OpenClaim.holds_of_wide 4 Tryd.f4 rfl rfl rfl rfl rfl rfl rfl ⟨rfl, rfl, rfl, rfl, rfl⟩ rfl rfl rfl rfl rfl (by kernel_rfl) Tryd.func4 (by kernel_rfl)
    (of_decide_eq_true (by kernel_rfl)) (by unfold Func.isWrapper; first | (rw [if_pos (by decide +kernel)]; kernel_rfl) | (rw [if_neg (by decide +kernel)]; exact ⟨rfl, rfl⟩))
    (fun os started H enc _ => lifted os started H enc)

end crcBursts

/-- The statement. -/
theorem crcBursts_holds : Rows.CrcBurstsCardSaid :=
  Claim7.holds_tied_plain_at .later [] [.data] true (true, "9c843f5f4e7d5bb38c85aad9415cfc489720df02b75967ebda8fa3c2b69d4663") false
    crcBursts.over (fun _ h => by cases h) (by kernel_rfl) (fun _ h => by cases h) crcBursts_row_tie rfl ⟨rfl, rfl⟩ (by kernel_rfl) rfl
    (fun f fn hf hfn => by
      obtain rfl : f = 4 := Option.some.inj ((show Tryd.prog.funcNamed "strongbox/strongboxlaw4.CrcBursts" = some 4 by kernel_rfl).symm.trans hf) |>.symm
      obtain rfl : fn = Tryd.f4 := (Option.some.inj (Tryd.func4.symm.trans hfn)).symm
      exact ⟨by kernel_rfl, fun j t ht => by
        rw [Tryd.params4] at ht
        have hm : t ∈ [22, 25, 25] := by simpa using Array.mem_of_getElem? ht
        have hall : ([22, 25, 25].all fun u => !Tryd.prog.wantsStandIn u) = true := by kernel_rfl
        exact (show Tryd.prog.wantsStandIn t = false by simpa using List.all_eq_true.1 hall t hm)⟩)
    (by kernel_rfl)
#print axioms crcBursts_holds
end Go.Proofs.YtkpnhaaniljbgaaDoor
