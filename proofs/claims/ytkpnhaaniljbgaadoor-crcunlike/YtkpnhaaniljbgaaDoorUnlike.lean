/-
  The law CrcUnlike of layer 4 (two rows of one length that are unlike only within 32 bits have unlike sums; the sum of what is put together by exclusive or goes the same way) answers true for all bytes, places and masks, where crc's table is as the program's text lays it.
-/
import Derived.Test.YtkpnhaaniljbgaaDoorRows
import Derived.WalkKit
import Derived.ProofKit
import Derived.OpenShut
import Derived.ShutString
import Derived.ChangeOld
import Derived.Below
import Derived.SizedLaws
import Derived.LaidMore
import Derived.Stop.Joined
import Derived.SevenTiedAt
import Derived.Test.YtkpnhaaniljbgaaDoorCards
import Derived.Test.YtkpnhaaniljbgaaDoorTie
import Derived.Test.YtkpnhaaniljbgaaDoorLaid4
import Derived.Test.YtkpnhaaniljbgaaDoorTurn
namespace Go.Proofs.YtkpnhaaniljbgaaDoor
namespace crcUnlike
open Go.ChangeShapes Go.WideShapes Go.ChangeAt Go.RowKit Crc
set_option linter.unusedVariables false
attribute [local go_sem ↓] Go.wp_at_zero Go.wp_at_succ

theorem own : ownKnob Tryd.prog.godebug = none := by kernel_rfl
theorem laidOut : laidOutB Tryd.prog = true := by kernel_rfl

set_option maxRecDepth 100000 in
set_option maxHeartbeats 4000000 in
theorem core (a : Option Addr) (n c : Nat) (f : Nat → Nat) (at' y' : Int) (w : World) (T : HalfT w) (h : Row w a n f) (z : a = none → n = 0 ∧ c = 0) (hn : n ≤ maxLen) (hc : n ≤ c) (x0 : 0 ≤ at') (x1 : at' ≤ 4294967295) (y0 : 0 ≤ y') (y1 : y' ≤ 4294967295) :
    Calls Tryd.prog 5 #[.slice a n c, .int .u32 at', .int .u32 y'] w fun e w' => e = .returned (.bool true) ∧ Below w.heap.size w w' := by
  unfold maxLen at hn
  obtain ⟨x, rfl⟩ := Int.eq_ofNat_of_zero_le x0
  obtain ⟨y, rfl⟩ := Int.eq_ofNat_of_zero_le y0
  go_enter Tryd.func5, Tryd.ntmps5
  go_wp2_with fail
  go_at_call 7
  refine (awake_any w T).mono ?_
  rintro e w1 ⟨rfl, b1⟩
  have T1 : Hid (HalfT w1) := T.keep b1
  have HR : Hid (Row w1 a n f) := h.keep b1
  have HF : Hid (∀ i, f i < 256) := h.lt
  clear h T z
  by_cases l0 : n < 4
  · have g1 : (n : Int) < 4 := by omega
    go_wp2
    go_ret
    exact ⟨rfl, b1⟩
  have g0 : decide ((n : Int) < 4) = false := decide_eq_false (by omega)
  by_cases l1 : 4000 < n
  · have g1 : (4000 : Int) < (n : Int) := by omega
    go_wp2
    go_ret
    exact ⟨rfl, b1⟩
  have g1 : decide ((4000 : Int) < (n : Int)) = false := decide_eq_false (by omega)
  by_cases l2 : y = 0
  · subst l2
    go_wp2
    go_ret
    exact ⟨rfl, b1⟩
  have g2 : ((y : Int) == 0) = false := by simp; omega
  obtain ⟨W0, hW0⟩ : ∃ W, W = w1.alloc (.cells #[] 5) := ⟨_, rfl⟩
  have bW0 : Below w1.heap.size w1 W0 := by rw [hW0]; exact bal _ _
  have own0 : Own W0 w1.heap.size (.slice (some ⟨w1.heap.size, 0, none⟩) 0 0) 0 f := by rw [hW0]; exact World.ownsRow_lit (e := 5) (size := 1) w1 #[] 0 (Nat.le_refl _) (by unfold maxLen; omega) (by simp)
  obtain ⟨v, W1, hr, own1, _, bW1⟩ := appendB (c := c) own0 (HR.out.keep bW0) (by omega) (by omega) (by have := bW0.size; omega)
  rw [Nat.zero_add] at own1
  obtain ⟨gb, cb, rfl, hgb, hncb, hcbm, mB⟩ := (own1.congr (g := f) (fun i hi => by unfold cat; rw [if_neg (by omega), Nat.sub_zero])).made (by omega)
  have b01 : Below w1.heap.size w1 W1 := bW0.trans bW1
  have HA : Hid (Sem.run Tryd.prog (Builtin.append_ #[22, 22] 22 #[.slice (some ⟨w1.heap.size, 0, none⟩) 0 0, .slice a n c]) W0 = .ok (.slice (some ⟨gb, 0, none⟩) n cb) W1) := hr
  have mk := run_make_row' (P := Tryd.prog) 22 5 (.int .u8 0) 1 Tryd.underlying22 info5 rfl .i64 .i64 n (by omega) (by omega)
  obtain ⟨W2, hW2⟩ : ∃ W, W = W1.alloc (.cells (madeCells #[.int .u8 0] n) 5) := ⟨_, rfl⟩
  have mkr : Sem.run Tryd.prog (Instr.makeSlice 22 (.int .i64 (n : Int)) (.int .i64 (n : Int))) W1 = .ok (.slice (some ⟨W1.heap.size, 0, none⟩) n n) W2 := by rw [hW2]; exact mk W1
  have b12 : Below W1.heap.size W1 W2 := by rw [hW2]; exact bal _ _
  have mD : Made W2 W1.heap.size n (fun _ => 0) := by rw [hW2]; exact Made.start W1 n
  have mB2 : Made W2 gb n f := mB.keep b12
  have hgd : gb < W1.heap.size := block_lt_of_cell (mB.cell 0 (by omega))
  obtain ⟨gd, hgde⟩ : ∃ gd, W1.heap.size = gd := ⟨_, rfl⟩
  rw [hgde] at mD mkr hgd
  have b02 : Below w1.heap.size w1 W2 := b01.trans (b12.mono b01.size)
  have hgd0 : w1.heap.size ≤ gd := by rw [← hgde]; exact b01.size
  have HMB : Hid (Made W2 gb n f) := mB2
  have HMD : Hid (Made W2 gd n (fun _ => 0)) := mD
  have HB2 : Hid (Below w1.heap.size w1 W2) := b02
  clear own0 own1 hr mB mB2 mD mk bW1 b01 b12 hgde hW2 b02 bW0
  obtain ⟨fr, hfr⟩ : ∃ fr : Nat, (x : Int) % (8 * (n : Int) - 31) = (fr : Int) := ⟨((x : Int) % (8 * (n : Int) - 31)).toNat, (Int.toNat_of_nonneg (Int.emod_nonneg _ (by omega))).symm⟩
  have hfl : fr + 32 ≤ 8 * n := by
    have := Int.emod_lt_of_pos (x : Int) (show (0 : Int) < 8 * (n : Int) - 31 by omega)
    omega
  go_wp2_with (at_builtin; rw [← hW0]; refine wpList_append_ran (by rfl) _ _ 22 (by rfl) _ _ _ _ (by rfl) (by rfl) HA.out ?_)
  rw [hfr]
  clear mkr hfr
  go_loopw [10] (fun i wr => ∃ t : Nat, t ≤ 32 ∧ i = .int .i64 t ∧ Made wr gb n (fun j => f j ^^^ bd fr y t j) ∧ Made wr gd n (fun j => 0 ^^^ bd fr y t j) ∧ Below w1.heap.size w1 wr) (fun i _ => 32 - (intOf i).toNat)
  case atStart => exact ⟨0, by omega, rfl, HMB.out.congr fun j _ => by rw [bd_zero, Nat.xor_zero], HMD.out.congr fun j _ => by rw [bd_zero, Nat.xor_zero], HB2.out⟩
  case round =>
    obtain ⟨t, ht, rfl, mB, mD, hb⟩ := hrel
    clear HMB HMD HB2
    by_cases hlt : t < 32
    · have it : (t : Int) < 32 := by omega
      have hbit : bits .and .u32 ((y : Int) / 2 ^ t) 1 = ((y / 2 ^ t % 2 : Nat) : Int) := by
        rw [show (y : Int) / 2 ^ t = ((y / 2 ^ t : Nat) : Int) by simp]
        exact u32_mask (y / 2 ^ t) 1 (Nat.lt_of_le_of_lt (Nat.div_le_self _ _) (by omega)) (by omega)
      by_cases od : y / 2 ^ t % 2 = 1
      · rw [od] at hbit
        have hqn : (fr + t) / 8 < n := by omega
        have hr8 : (fr + t) % 8 < 8 := by omega
        have hu1 : f ((fr + t) / 8) ^^^ bd fr y t ((fr + t) / 8) < 256 := xor_lt8 (HF.out _) (bd_lt _ _ _ _)
        have hu2 : 0 ^^^ bd fr y t ((fr + t) / 8) < 256 := xor_lt8 (by omega) (bd_lt _ _ _ _)
        have c1 := mB.cell _ hqn
        have s1 := mB.soft _ hqn
        have c2 := mD.cell _ hqn
        have s2 := mD.soft _ hqn
        have xb1 := xor_bit hu1 hr8
        have xb2 := xor_bit hu2 hr8
        have mB' := (mB.turn hqn od).other (k := (fr + t) / 8) (v := .int .u8 (((0 ^^^ bd fr y t ((fr + t) / 8)) ^^^ 2 ^ ((fr + t) % 8) : Nat) : Int)) (show gb ≠ gd by omega)
        have mD' := Made.turn (f := fun _ => 0) (mD.other (k := (fr + t) / 8) (v := .int .u8 (((f ((fr + t) / 8) ^^^ bd fr y t ((fr + t) / 8)) ^^^ 2 ^ ((fr + t) % 8) : Nat) : Int)) (show gd ≠ gb by omega)) hqn od
        have hb' : Below w1.heap.size w1 ((wr.setCell ⟨gb, (fr + t) / 8, none⟩ (.int .u8 (((f ((fr + t) / 8) ^^^ bd fr y t ((fr + t) / 8)) ^^^ 2 ^ ((fr + t) % 8) : Nat) : Int))).setCell ⟨gd, (fr + t) / 8, none⟩ (.int .u8 (((0 ^^^ bd fr y t ((fr + t) / 8)) ^^^ 2 ^ ((fr + t) % 8) : Nat) : Int))) := (hb.setCell (p := ⟨gb, _, none⟩) hgb _).setCell (p := ⟨gd, _, none⟩) hgd0 _
        generalize (f ((fr + t) / 8) ^^^ bd fr y t ((fr + t) / 8)) ^^^ 2 ^ ((fr + t) % 8) = z1 at *
        generalize (0 ^^^ bd fr y t ((fr + t) / 8)) ^^^ 2 ^ ((fr + t) % 8) = z2 at *
        generalize f ((fr + t) / 8) ^^^ bd fr y t ((fr + t) / 8) = u1 at *
        generalize 0 ^^^ bd fr y t ((fr + t) / 8) = u2 at *
        have eq' : ((fr : Int) + (t : Int)) / 8 = (((fr + t) / 8 : Nat) : Int) := by omega
        have er' : ((fr : Int) + (t : Int)) % 8 = (((fr + t) % 8 : Nat) : Int) := by omega
        generalize (fr + t) / 8 = q at *
        generalize (fr + t) % 8 = r at *
        have HB1 : Hid _ := mB'
        have HD1 : Hid _ := mD'
        have HBW : Hid _ := hb'
        clear mB mD mB' mD' hb hb' od
        go_wp2
        go_round
        case rel => exact ⟨t + 1, by omega, by go_num, HB1.out, HD1.out, HBW.out⟩
        case measure => simp [intOf]; omega
      · rw [show y / 2 ^ t % 2 = 0 by omega] at hbit
        have HB1 : Hid _ := mB.same (show y / 2 ^ t % 2 = 0 by omega)
        have HD1 : Hid _ := Made.same (f := fun _ => 0) mD (show y / 2 ^ t % 2 = 0 by omega)
        clear mB mD od
        go_wp2
        go_round
        case rel => exact ⟨t + 1, by omega, by go_num, HB1.out, HD1.out, hb⟩
        case measure => simp [intOf]; omega
    · have : t = 32 := by omega
      subst this
      obtain ⟨W3, hW3⟩ : ∃ W, W = wr.alloc (.cells (madeCells #[.int .u8 0] n) 5) := ⟨_, rfl⟩
      have mkr : Sem.run Tryd.prog (Instr.makeSlice 22 (.int .i64 (n : Int)) (.int .i64 (n : Int))) wr = .ok (.slice (some ⟨wr.heap.size, 0, none⟩) n n) W3 := by
        rw [hW3]; exact run_make_row' (P := Tryd.prog) 22 5 (.int .u8 0) 1 Tryd.underlying22 info5 rfl .i64 .i64 n (by omega) (by omega) wr
      have b23 : Below wr.heap.size wr W3 := by rw [hW3]; exact bal _ _
      have b13 : Below w1.heap.size w1 W3 := hb.trans (b23.mono hb.size)
      have T3 := T1.out.keep b13
      have hm : n ≤ maxLen := by unfold maxLen; omega
      have cZ := sum_any (some ⟨wr.heap.size, 0, none⟩) n n (fun _ => 0) W3 T3 ((show Made W3 wr.heap.size n (fun _ => 0) by rw [hW3]; exact Made.start wr n).row (fun _ => by omega)) hm
      have cA := sum_any a n c f W3 T3 (HR.out.keep b13) hm
      have cB := sum_any (some ⟨gb, 0, none⟩) n cb (fun j => f j ^^^ bd fr y 32 j) W3 T3 ((mB.keep b23).row (fun i => xor_lt8 (HF.out _) (bd_lt _ _ _ _))) hm
      have cD := sum_any (some ⟨gd, 0, none⟩) n n (fun j => 0 ^^^ bd fr y 32 j) W3 T3 ((mD.keep b23).row (fun i => xor_lt8 (by omega) (bd_lt _ _ _ _))) hm
      have hne := sum_told f hfl (show y < 4294967296 by omega) l2
      have hxx : sum n f ^^^ sum n (fun j => f j ^^^ bd fr y 32 j) = sum n (fun j => 0 ^^^ bd fr y 32 j) ^^^ sum n (fun _ => 0) := by
        rw [sum_xor, sum_xor]
        exact rb_congr n (fun i _ => by rw [← Nat.xor_assoc, Nat.xor_self, Nat.zero_xor, Nat.xor_zero])
      have la : sum n f < 4294967296 := more_lt (by omega) HF.out
      have lb : sum n (fun j => f j ^^^ bd fr y 32 j) < 4294967296 := more_lt (by omega) (fun i => xor_lt8 (HF.out _) (bd_lt _ _ _ _))
      have ld : sum n (fun j => 0 ^^^ bd fr y 32 j) < 4294967296 := more_lt (by omega) (fun i => xor_lt8 (by omega) (bd_lt _ _ _ _))
      have lz : sum n (fun _ => 0) < 4294967296 := more_lt (by omega) (fun i => by omega)
      generalize sum n f = sa at *
      generalize sum n (fun j => f j ^^^ bd fr y 32 j) = sb at *
      generalize sum n (fun j => 0 ^^^ bd fr y 32 j) = sd at *
      generalize sum n (fun _ => 0) = sz at *
      have ne1 : ((sa : Int) == (sb : Int)) = false := by simp; omega
      have ne2 : ((sa : Int) != (sb : Int)) = true := by simp; omega
      have e1 := u32_xor sa sb la lb
      have e2 := u32_xor sd sz ld lz
      rw [hxx] at e1
      generalize sd ^^^ sz = sx at *
      have HBB : Hid (Below w1.heap.size w1 W3) := b13
      clear mB mD hb hW3 b23 b13 T3 hxx hne
      go_wp2_with fail
      go_at_call 8
      refine cZ.mono ?_
      rintro e w' ⟨rfl, rfl⟩
      clear cZ
      go_wp2_with fail
      go_at_call 8
      refine cA.mono ?_
      rintro e w' ⟨rfl, rfl⟩
      go_wp2_with fail
      go_at_call 8
      refine cB.mono ?_
      rintro e w' ⟨rfl, rfl⟩
      go_wp2_with fail
      go_at_call 8
      refine cA.mono ?_
      rintro e w' ⟨rfl, rfl⟩
      go_wp2_with fail
      go_at_call 8
      refine cB.mono ?_
      rintro e w' ⟨rfl, rfl⟩
      go_wp2_with fail
      go_at_call 8
      refine cD.mono ?_
      rintro e w' ⟨rfl, rfl⟩
      go_wp2
      go_ret
      exact ⟨rfl, hop b1 HBB.out⟩


set_option maxRecDepth 100000 in
theorem lifted (os : Os) (started : os.Started) (H : Type) (enc : TypeId × Value → H) :
    ReturnsInHanded {} Tryd.checked os 5 .any (fun w args => (Rows.crcUnlikeSpec.pre enc Tryd.prog Tryd.f5 [] false w args ∧ laidMetH Tryd.prog laidAll w) ∧ sizedMet enc Tryd.prog Tryd.f5 (OpenSpec.ofChange Rows.crcUnlikeSpec) false w args) (Rows.crcUnlikeSpec.post enc Tryd.prog Tryd.f5 false true false false) := by
  refine returnsInHanded_of_change_and (C := Tryd.checked) (X := fun w _ => laidMetH Tryd.prog laidAll w) (fun _ _ _ hh h => h.of_heap hh) own started (by kernel_rfl) Tryd.func5
    (ChangeSpec.witness_shaped (enc := enc) (C := Tryd.checked) (os := os) (X := fun w _ => laidMetH Tryd.prog laidAll w) false (World.doorLaid Tryd.prog 400 os) #[.slice none 0 0, .int .u32 0, .int .u32 0] 8 rfl (World.shaped_of_RefB (by kernel_rfl) (by kernel_rfl)) (by kernel_rfl) (by kernel_rfl) (by kernel_rfl) (door_met os _)) ?_
  intro W base args ds gs before hval0 hW _ hsz0 hL _
  have hval : ∀ (j : Nat) t v, Tryd.f5.params[j]? = some t → args[j]? = some v → Value.okWide Tryd.prog W .any base t v := hval0
  have hW' := hW
  obtain ⟨p, q, hA0, hV, rfl, hfz, hnd⟩ := hW
  have hA : DataW.TrodAll enc Tryd.prog W 0 (fun _ => true) true Tryd.f5.params.toList args.toList ds p := hA0
  rw [Tryd.params5] at hA hval
  have T := halfT_of hL
  obtain ⟨v0, vs0, d0, ds0, p0, q0, hargs, rfl, rfl, h0, r0⟩ := trodAll_cons hA
  obtain ⟨v1, vs1, d1, ds1, p1, q1, rfl, rfl, rfl, h1, r1⟩ := trodAll_cons r0
  obtain ⟨v2, vs2, d2, ds2, p2, q2, rfl, rfl, rfl, h2, r2⟩ := trodAll_cons r1
  obtain ⟨rfl, rfl, rfl⟩ := trodAll_nil r2
  obtain rfl : args = #[v0, v1, v2] := by cases args; simp_all
  obtain ⟨rfl, rfl⟩ := trodVars_none hV
  obtain ⟨a0, len0, cap0, rfl⟩ := okWide_slice Tryd.underlying22 (hval 0 22 v0 rfl rfl)
  have k0 := h0
  have lt0 : ∀ x ∈ p0, x.block < W.heap.size := by obtain ⟨m, hm⟩ := k0; exact DataW.trod_lt m _ _ _ hm
  obtain ⟨f0, m0, z0, e0, c0⟩ := open_row h0
  have k1 := h1
  have lt1 : ∀ x ∈ p1, x.block < W.heap.size := by obtain ⟨m, hm⟩ := k1; exact DataW.trod_lt m _ _ _ hm
  obtain ⟨x1, rfl, _, _, w1⟩ := open_int Tryd.underlying25 (hval 1 25 v1 rfl rfl) h1
  have e1 : 0 ≤ x1 ∧ x1 ≤ 4294967295 := by simpa [Lit.wf, IntKind.min, IntKind.max, IntKind.signed, IntKind.bits] using w1
  have k2 := h2
  have lt2 : ∀ x ∈ p2, x.block < W.heap.size := by obtain ⟨m, hm⟩ := k2; exact DataW.trod_lt m _ _ _ hm
  obtain ⟨x2, rfl, _, _, w2⟩ := open_int Tryd.underlying25 (hval 2 25 v2 rfl rfl) h2
  have e2 : 0 ≤ x2 ∧ x2 ≤ 4294967295 := by simpa [Lit.wf, IntKind.min, IntKind.max, IntKind.signed, IntKind.bits] using w2
  clear hA0 hval0 hsz0 hL
  refine (core a0 len0 cap0 f0 x1 x2 W T m0 z0 e0 c0 e1.1 e1.2 e2.1 e2.2).mono fun e W' ⟨he, bel⟩ => ?_
  subst he
  exact ⟨_, rfl, _, _, _, [], _, [], hW', trodAll_mk1 (shut_bool Tryd.underlying4 _), (trodAll_cons_mk (Below.trod laidOut (by kernel_rfl) (of_decide_eq_true (by kernel_rfl)) k0 bel lt0) (trodAll_cons_mk (Below.trod laidOut (by kernel_rfl) (of_decide_eq_true (by kernel_rfl)) k1 bel lt1) (trodAll_cons_mk (Below.trod laidOut (by kernel_rfl) (of_decide_eq_true (by kernel_rfl)) k2 bel lt2) trodAll_mk0))), rfl, bel.frame _, fun h => by cases h⟩

theorem over : Rows.crcUnlikeRow.holds Tryd.pinned (OpenSpec.ofChange Rows.crcUnlikeSpec) :=
  OpenClaim.holds_of_wide 5 Tryd.f5 rfl rfl rfl rfl rfl rfl rfl ⟨rfl, rfl, rfl, rfl, rfl⟩ rfl rfl rfl rfl rfl (by kernel_rfl) Tryd.func5 (by kernel_rfl)
    (of_decide_eq_true (by kernel_rfl)) (by unfold Func.isWrapper; first | (rw [if_pos (by decide +kernel)]; kernel_rfl) | (rw [if_neg (by decide +kernel)]; exact ⟨rfl, rfl⟩))
    (fun os started H enc _ => lifted os started H enc)

end crcUnlike

/-- The statement. -/
theorem crcUnlike_holds : Rows.CrcUnlikeCardSaid :=
  Claim7.holds_tied_plain_at .later [] [.data] true (true, "9c843f5f4e7d5bb38c85aad9415cfc489720df02b75967ebda8fa3c2b69d4663") false
    crcUnlike.over (fun _ h => by cases h) (by kernel_rfl) (fun _ h => by cases h) crcUnlike_row_tie rfl ⟨rfl, rfl⟩ (by kernel_rfl) rfl
    (fun f fn hf hfn => by
      obtain rfl : f = 5 := Option.some.inj ((show Tryd.prog.funcNamed "strongbox/strongboxlaw4.CrcUnlike" = some 5 by kernel_rfl).symm.trans hf) |>.symm
      obtain rfl : fn = Tryd.f5 := (Option.some.inj (Tryd.func5.symm.trans hfn)).symm
      exact ⟨by kernel_rfl, fun j t ht => by
        rw [Tryd.params5] at ht
        have hm : t ∈ [22, 25, 25] := by simpa using Array.mem_of_getElem? ht
        have hall : ([22, 25, 25].all fun u => !Tryd.prog.wantsStandIn u) = true := by kernel_rfl
        exact (show Tryd.prog.wantsStandIn t = false by simpa using List.all_eq_true.1 hall t hm)⟩)
    (by kernel_rfl)
#print axioms crcUnlike_holds
end Go.Proofs.YtkpnhaaniljbgaaDoor
