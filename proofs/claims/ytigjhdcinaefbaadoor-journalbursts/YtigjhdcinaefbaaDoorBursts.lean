/-
  The law JournalBursts of layer 7 (whatever is changed within 32 bits of a journal's bytes: no journal is read from them) answers true for all journals, places and masks, where crc's table is as the program's text lays it.
-/
import Derived.Test.YtigjhdcinaefbaaDoorRows
import Derived.WalkKit
import Derived.ProofKit
import Derived.OpenShut
import Derived.ShutString
import Derived.ChangeOld
import Derived.Below
import Derived.SizedLaws
import Derived.LaidMore
import Derived.Stop.Joined
import Derived.SevenTiedAt
import Derived.Test.YtigjhdcinaefbaaDoorCards
import Derived.Test.YtigjhdcinaefbaaDoorTie
import Derived.Test.YtigjhdcinaefbaaDoorJnX
import Derived.Test.YtigjhdcinaefbaaDoorJnL
import Derived.Test.YtigjhdcinaefbaaDoorJnRm
import Derived.Test.YtigjhdcinaefbaaDoorLaid4
import Derived.Test.YtigjhdcinaefbaaDoorTurn
import Derived.Test.YtigjhdcinaefbaaDoorOp7
namespace Go.Proofs.YtigjhdcinaefbaaDoor
namespace journalBursts
open Go.ChangeShapes Go.WideShapes Go.ChangeAt Go.RowKit Crc
set_option linter.unusedVariables false
attribute [local go_sem ↓] Go.wp_at_zero Go.wp_at_succ

theorem own : ownKnob Tryd.prog.godebug = none := by kernel_rfl
theorem laidOut : laidOutB Tryd.prog = true := by kernel_rfl


theorem unfit {t N n fr mask : Nat} {nm : Nat → Nat} {F : Nat → Ver} (hnm : ∀ i, nm i < 256) (hn : fr + 32 ≤ 8 * (jl N n + 4)) (hm : mask < 4294967296) (h0 : mask ≠ 0) : ¬ fit (jl N n + 4) (fun j => jf t N nm n F j ^^^ bd fr mask 32 j) := fun h => by
  have ht := tail_told (n := jl N n) (fr := fr) (mask := mask) (jb t N nm n F) (jb_lt hnm) hn hm h0
  unfold fit at h
  rw [Nat.add_sub_cancel] at h
  apply ht
  rw [le4_cg (h := fun i => by4 (sum (jl N n) (jb t N nm n F)) i ^^^ bd fr mask 32 (jl N n + i)) (fun i hi => by
    show jf t N nm n F (jl N n + i) ^^^ bd fr mask 32 (jl N n + i) = _
    unfold jf
    rw [if_neg (by omega), Nat.add_sub_cancel_left])] at h
  rw [h]
  exact more_congr fun j hj => by
    unfold jf
    rw [if_pos hj]
set_option maxRecDepth 100000 in
set_option maxHeartbeats 4000000 in
theorem core (t : Int) (s : ByteArray) (a : Option Addr) (n c : Nat) (F : Nat → Ver) (xa xm : Int) (w : World) (T : HalfT w) (_ : -9223372036854775808 ≤ t ∧ t ≤ 9223372036854775807) (hs : s.size ≤ maxLen) (hF : Vs w a n F) (z : a = none → n = 0 ∧ c = 0) (hn : n ≤ maxLen) (hc : n ≤ c) (ha0 : 0 ≤ xa) (ha1 : xa ≤ 4294967295) (hm0 : 0 ≤ xm) (hm1 : xm ≤ 4294967295) :
    Calls Tryd.prog 7 #[.agg #[.int .i64 t, .string s, .slice a n c], .int .u32 xa, .int .u32 xm] w fun e w' => e = .returned (.bool true) ∧ Below w.heap.size w w' := by
  obtain ⟨u, rfl⟩ : ∃ u : Nat, xa = (u : Int) := ⟨xa.toNat, by omega⟩
  obtain ⟨y, rfl⟩ : ∃ y : Nat, xm = (y : Int) := ⟨xm.toNat, by omega⟩
  obtain ⟨W, hbx, hj, hb⟩ := box_jn w 24 t s (.slice a n c)
  have cA := awake_any W (T.keep hb)
  have T0 : Hid (HalfT W) := T.keep hb
  have J0 : Hid (JAt W w.heap.size t s (.slice a n c)) := hj
  have V0 : Hid (Vs W a n F) := hF.keep hb
  have HB0 : Hid (Below w.heap.size w W) := hb
  clear T hj hF hb
  go_enter Tryd.func7, Tryd.ntmps7
  go_wp2_with fail
  go_at_call 9
  refine cA.mono ?_
  rintro e w1 ⟨rfl, b1⟩
  clear cA
  obtain ⟨c0, c1, c2⟩ := J0.out.keep b1
  have cR := room_any t s a n c w1 hs hn
  have T1 : Hid (HalfT w1) := T0.out.keep b1
  have J1 : Hid (JAt w1 w.heap.size t s (.slice a n c)) := J0.out.keep b1
  have V1 : Hid (Vs w1 a n F) := V0.out.keep b1
  have HB1 : Hid (Below w.heap.size w w1) := hop HB0.out b1
  clear T0 J0 V0 HB0 b1
  unfold jv at cR
  go_wp2_with fail
  go_at_call 10
  refine cR.mono ?_
  rintro e w2 ⟨rfl, b2⟩
  clear cR c0 c1 c2
  by_cases hR : s.size ≤ 1000 ∧ n ≤ 100
  rotate_left
  · rw [decide_eq_false hR]
    clear hR
    go_wp2
    go_ret
    exact ⟨rfl, hop HB1.out b2⟩
  rw [decide_eq_true hR]
  obtain ⟨hs2, hn2⟩ := hR
  obtain ⟨c0, c1, c2⟩ := J1.out.keep b2
  have cM := rmay_any t s a n c F w2 (V1.out.keep b2) hs hn
  have T2 : Hid (HalfT w2) := T1.out.keep b2
  have J2 : Hid (JAt w2 w.heap.size t s (.slice a n c)) := J1.out.keep b2
  have V2 : Hid (Vs w2 a n F) := V1.out.keep b2
  have HB2 : Hid (Below w.heap.size w w2) := hop HB1.out b2
  clear T1 J1 V1 HB1 b2
  unfold jv at cM
  go_wp2_with fail
  go_at_call 15
  refine cM.mono ?_
  rintro e w3 ⟨rfl, b3⟩
  clear cM c0 c1 c2
  cases hm : mayJ t s.size n F with
  | false =>
    go_wp2
    go_ret
    exact ⟨rfl, hop HB2.out b3⟩
  | true =>
  by_cases l2 : y = 0
  · subst l2
    go_wp2
    go_ret
    exact ⟨rfl, hop HB2.out b3⟩
  have g2 : ((y : Int) == 0) = false := by simp; omega
  have ht := (mayJ_iff.1 hm)
  obtain ⟨tn, rfl⟩ : ∃ tn : Nat, t = (tn : Int) := ⟨t.toNat, by omega⟩
  obtain ⟨c0, c1, c2⟩ := J2.out.keep b3
  have cJ := journal_any tn s a n c F w3 (V2.out.keep b3) z (by omega)
  have T3 : Hid (HalfT w3) := T2.out.keep b3
  have HB3 : Hid (Below w.heap.size w w3) := hop HB2.out b3
  have HM : Hid (mayJ tn s.size n F = true) := hm
  have hN : s.size ≤ 600 := ht.2.2.1
  have hn6 : n ≤ 64 := ht.2.2.2.1
  clear T2 J2 V2 HB2 b3 hm ht z
  unfold jv at cJ
  go_wp2_with fail
  go_at_call 12
  refine cJ.mono ?_
  rintro e w4 ⟨v4, rfl, ⟨a4, k4, rfl, hv4, z4, hc4⟩, b4⟩
  clear cJ c0 c1 c2
  have cE := encode_ok tn s a4 n k4 F w4 (T3.out.keep b4) hv4 HM.out
  have T4 : Hid (HalfT w4) := T3.out.keep b4
  have HB4 : Hid (Below w.heap.size w w4) := hop HB3.out b4
  clear T3 HB3 b4 hv4 z4 hc4
  unfold jv at *
  go_wp2_with fail
  go_at_call 11
  refine cE.mono ?_
  rintro e w5 ⟨v5, rfl, ho5, b5⟩
  clear cE
  obtain ⟨L, hL⟩ : ∃ L, jl s.size n + 4 = L := ⟨_, rfl⟩
  have hL1 : 15 ≤ L := by rw [← hL]; unfold jl; omega
  have hL2 : L ≤ 2000 := by rw [← hL]; unfold jl; omega
  rw [hL] at ho5
  obtain ⟨gb, cb, rfl, hgb, hncb, q3, mB⟩ := ho5.made (by omega)
  obtain ⟨Fj, hFj⟩ : ∃ Fj, Fj = jf tn s.size (sb s) n F := ⟨_, rfl⟩
  rw [← hFj] at mB
  have lc : Hid (∀ i, Fj i < 256) := by rw [hFj]; exact jf_lt (sb_lt s)
  have HFJ : Hid (Fj = jf tn s.size (sb s) n F) := hFj
  have HL : Hid (jl s.size n + 4 = L) := hL
  have T5 : Hid (HalfT w5) := T4.out.keep b5
  have HB5 : Hid (Below w.heap.size w w5) := hop HB4.out b5
  have hw0 : w.heap.size ≤ gb := Nat.le_trans HB4.out.size hgb
  have hhl : 0 < w4.heap.size := T4.out.lt
  have HM5 : Hid (Made w5 gb L Fj) := mB
  clear ho5 q3 mB hFj hL
  have g3 : decide ((L : Int) < 15) = false := decide_eq_false (by omega)
  obtain ⟨fr, hfr⟩ : ∃ fr : Nat, (u : Int) % (8 * (L : Int) - 31) = (fr : Int) := ⟨((u : Int) % (8 * (L : Int) - 31)).toNat, (Int.toNat_of_nonneg (Int.emod_nonneg _ (by omega))).symm⟩
  have hfl : fr + 32 ≤ 8 * L := by
    have := Int.emod_lt_of_pos (u : Int) (show (0 : Int) < 8 * (L : Int) - 31 by omega)
    omega
  have B5 : Hid (Below w4.heap.size w4 w5) := b5
  clear b5
  go_wp2_with fail
  rw [hfr]
  clear hfr
  go_loopw [10] (fun i wr => ∃ k : Nat, k ≤ 32 ∧ i = .int .i64 k ∧ Made wr gb L (fun j => Fj j ^^^ bd fr y k j) ∧ Below w4.heap.size w4 wr) (fun i _ => 32 - (intOf i).toNat)
  case atStart => exact ⟨0, by omega, rfl, HM5.out.congr fun j _ => by rw [bd_zero, Nat.xor_zero], B5.out⟩
  case round =>
    obtain ⟨k, hk, rfl, mB, hb⟩ := hrel
    clear HM5 B5
    by_cases hlt : k < 32
    · have it : (k : Int) < 32 := by omega
      have hbit : bits .and .u32 ((y : Int) / 2 ^ k) 1 = ((y / 2 ^ k % 2 : Nat) : Int) := by
        rw [show (y : Int) / 2 ^ k = ((y / 2 ^ k : Nat) : Int) by simp]
        exact u32_mask (y / 2 ^ k) 1 (Nat.lt_of_le_of_lt (Nat.div_le_self _ _) (by omega)) (by omega)
      by_cases od : y / 2 ^ k % 2 = 1
      · rw [od] at hbit
        have hqn : (fr + k) / 8 < L := by omega
        have hr8 : (fr + k) % 8 < 8 := by omega
        have hu1 : Fj ((fr + k) / 8) ^^^ bd fr y k ((fr + k) / 8) < 256 := xor_lt8 (lc.out _) (bd_lt _ _ _ _)
        have c1 := mB.cell _ hqn
        have s1 := mB.soft _ hqn
        have xb1 := xor_bit hu1 hr8
        have mB' := mB.turn hqn od
        have hb' : Below w4.heap.size w4 (wr.setCell ⟨gb, (fr + k) / 8, none⟩ (.int .u8 (((Fj ((fr + k) / 8) ^^^ bd fr y k ((fr + k) / 8)) ^^^ 2 ^ ((fr + k) % 8) : Nat) : Int))) := hb.setCell (p := ⟨gb, _, none⟩) hgb _
        generalize (Fj ((fr + k) / 8) ^^^ bd fr y k ((fr + k) / 8)) ^^^ 2 ^ ((fr + k) % 8) = z1 at *
        generalize Fj ((fr + k) / 8) ^^^ bd fr y k ((fr + k) / 8) = u1 at *
        have eq' : ((fr : Int) + (k : Int)) / 8 = (((fr + k) / 8 : Nat) : Int) := by omega
        have er' : ((fr : Int) + (k : Int)) % 8 = (((fr + k) % 8 : Nat) : Int) := by omega
        generalize (fr + k) / 8 = q at *
        generalize (fr + k) % 8 = r at *
        have HB1' : Hid _ := mB'
        have HBW : Hid _ := hb'
        clear mB mB' hb hb' od
        go_wp2
        go_round
        case rel => exact ⟨k + 1, by omega, by go_num, HB1'.out, HBW.out⟩
        case measure => simp [intOf]; omega
      · rw [show y / 2 ^ k % 2 = 0 by omega] at hbit
        have HB1' : Hid _ := mB.same (show y / 2 ^ k % 2 = 0 by omega)
        clear mB od
        go_wp2
        go_round
        case rel => exact ⟨k + 1, by omega, by go_num, HB1'.out, hb⟩
        case measure => simp [intOf]; omega
    · have : k = 32 := by omega
      subst this
      have row := mB.row (fun i => xor_lt8 (lc.out i) (bd_lt _ _ _ _))
      have cD : Calls Tryd.prog 16 #[.slice (some ⟨gb, 0, none⟩) L cb] wr fun e w' => e = .returned (.tuple #[nojn, .int .i64 5]) ∧ Below wr.heap.size wr w' := by
        refine (decode_any (some ⟨gb, 0, none⟩) L cb _ wr (T4.out.keep hb) row (by unfold maxLen; omega) hncb).mono ?_
        intro e w' hd
        have hnf : ¬ fit L (fun j => Fj j ^^^ bd fr y 32 j) := by
          rw [← HL.out, HFJ.out]
          exact unfit (sb_lt s) (by rw [HL.out]; exact hfl) (by omega) l2
        obtain ⟨hb', ⟨hg, _⟩ | ⟨c', hc', rfl⟩⟩ := hd
        · exact absurd hg.ft hnf
        · rcases hc' with ⟨_, q⟩ | ⟨_, q⟩ | ⟨rfl, _⟩ | ⟨_, _, _, q, _⟩ | ⟨_, _, _, q, _⟩ | ⟨_, _, _, q, _⟩
          · omega
          · omega
          · exact ⟨rfl, hb'⟩
          · exact absurd q hnf
          · exact absurd q hnf
          · exact absurd q hnf
      have HBr : Hid (Below w.heap.size w wr) := hop HB4.out hb
      clear mB row hb
      go_wp2_with fail
      go_at_call 16
      refine cD.mono ?_
      rintro e w6 ⟨rfl, b6⟩
      clear cD
      obtain ⟨X, hX, _, bX⟩ := box_jn w6 31 0 noS (.slice none 0 0)
      have hjX : JB X w6.heap.size 0 noS (.slice none 0 0) 31 := by rw [← hX]; exact heap_alloc_new _ _
      obtain ⟨q0, q1, q2⟩ := hjX.at
      have fX : ∀ j, X.frozen? ⟨w6.heap.size, j, none⟩ = false := hjX.soft
      have HBX : Hid (Below w.heap.size w (((X.setCell ⟨w6.heap.size, 0, none⟩ (.int .i64 0)).setCell ⟨w6.heap.size, 1, none⟩ (.string noS)).setCell ⟨w6.heap.size, 2, none⟩ (.slice none 0 0))) := below3 (hop HBr.out (hop b6 bX)) (Nat.le_trans HBr.out.size b6.size) _ _ _
      clear b6 bX hjX
      unfold nojn jv noS at *
      go_wp2
      go_ret
      exact ⟨rfl, HBX.out⟩


set_option maxRecDepth 100000 in
theorem lifted (os : Os) (started : os.Started) (H : Type) (enc : TypeId × Value → H) :
    ReturnsInHanded {} Tryd.checked os 7 .any (fun w args => (Rows.journalBurstsSpec.pre enc Tryd.prog Tryd.f7 [] false w args ∧ laidMetH Tryd.prog laidAll w) ∧ sizedMet enc Tryd.prog Tryd.f7 (OpenSpec.ofChange Rows.journalBurstsSpec) false w args) (Rows.journalBurstsSpec.post enc Tryd.prog Tryd.f7 false true false false) := by
  refine returnsInHanded_of_change_and (C := Tryd.checked) (X := fun w _ => laidMetH Tryd.prog laidAll w) (fun _ _ _ hh h => h.of_heap hh) own started (by kernel_rfl) Tryd.func7
    (ChangeSpec.witness_shaped (enc := enc) (C := Tryd.checked) (os := os) (X := fun w _ => laidMetH Tryd.prog laidAll w) false (World.doorLaid Tryd.prog 400 os) #[.agg #[.int .i64 0, .string { data := #[] }, .slice none 0 0], .int .u32 0, .int .u32 0] 8 rfl (World.shaped_of_RefB (by kernel_rfl) (by kernel_rfl)) (by kernel_rfl) (by kernel_rfl) (by kernel_rfl) (door_met os _)) ?_
  intro W base args ds gs before hval0 hW _ hsz0 hL _
  have hval : ∀ (j : Nat) t v, Tryd.f7.params[j]? = some t → args[j]? = some v → Value.okWide Tryd.prog W .any base t v := hval0
  have hW' := hW
  obtain ⟨p, q, hA0, hV, rfl, hfz, hnd⟩ := hW
  have hA : DataW.TrodAll enc Tryd.prog W 0 (fun _ => true) true Tryd.f7.params.toList args.toList ds p := hA0
  rw [Tryd.params7] at hA hval
  have T := halfT_of hL
  obtain ⟨v0, vs0, d0, ds0, p0, q0, hargs, rfl, rfl, h0, r0⟩ := trodAll_cons hA
  obtain ⟨v1, vs1, d1, ds1, p1, q1, rfl, rfl, rfl, h1, r1⟩ := trodAll_cons r0
  obtain ⟨v2, vs2, d2, ds2, p2, q2, rfl, rfl, rfl, h2, r2⟩ := trodAll_cons r1
  obtain ⟨rfl, rfl, rfl⟩ := trodAll_nil r2
  obtain rfl : args = #[v0, v1, v2] := by cases args; simp_all
  obtain ⟨rfl, rfl⟩ := trodVars_none hV
  have k0 := h0
  have lt0 : ∀ x ∈ p0, x.block < W.heap.size := by obtain ⟨m, hm⟩ := k0; exact DataW.trod_lt m _ _ _ hm
  obtain ⟨t0, s0, a0, n0, c0, F0, rfl, e0, g0, m0, z0, l0, b0⟩ := open_jn (hval 0 24 v0 rfl rfl) h0
  have k1 := h1
  have lt1 : ∀ x ∈ p1, x.block < W.heap.size := by obtain ⟨m, hm⟩ := k1; exact DataW.trod_lt m _ _ _ hm
  obtain ⟨x1, rfl, _, _, w1⟩ := open_int Tryd.underlying44 (hval 1 44 v1 rfl rfl) h1
  have e1 : 0 ≤ x1 ∧ x1 ≤ 4294967295 := by simpa [Lit.wf, IntKind.min, IntKind.max, IntKind.signed, IntKind.bits] using w1
  have k2 := h2
  have lt2 : ∀ x ∈ p2, x.block < W.heap.size := by obtain ⟨m, hm⟩ := k2; exact DataW.trod_lt m _ _ _ hm
  obtain ⟨x2, rfl, _, _, w2⟩ := open_int Tryd.underlying44 (hval 2 44 v2 rfl rfl) h2
  have e2 : 0 ≤ x2 ∧ x2 ≤ 4294967295 := by simpa [Lit.wf, IntKind.min, IntKind.max, IntKind.signed, IntKind.bits] using w2
  clear hA0 hval0 hsz0 hL
  refine (core t0 s0 a0 n0 c0 F0 x1 x2 W T e0 g0 m0 z0 l0 b0 e1.1 e1.2 e2.1 e2.2).mono fun e W' ⟨he, bel⟩ => ?_
  subst he
  exact ⟨_, rfl, _, _, _, [], _, [], hW', trodAll_mk1 (shut_bool Tryd.underlying4 _), (trodAll_cons_mk (Below.trod laidOut (by kernel_rfl) (of_decide_eq_true (by kernel_rfl)) k0 bel lt0) (trodAll_cons_mk (Below.trod laidOut (by kernel_rfl) (of_decide_eq_true (by kernel_rfl)) k1 bel lt1) (trodAll_cons_mk (Below.trod laidOut (by kernel_rfl) (of_decide_eq_true (by kernel_rfl)) k2 bel lt2) trodAll_mk0))), rfl, bel.frame _, fun h => by cases h⟩

theorem over : Rows.journalBurstsRow.holds Tryd.pinned (OpenSpec.ofChange Rows.journalBurstsSpec) :=
  OpenClaim.holds_of_wide 7 Tryd.f7 rfl rfl rfl rfl rfl rfl rfl ⟨rfl, rfl, rfl, rfl, rfl⟩ rfl rfl rfl rfl rfl (by kernel_rfl) Tryd.func7 (by kernel_rfl)
    (of_decide_eq_true (by kernel_rfl)) (by unfold Func.isWrapper; first | (rw [if_pos (by decide +kernel)]; kernel_rfl) | (rw [if_neg (by decide +kernel)]; exact ⟨rfl, rfl⟩))
    (fun os started H enc _ => lifted os started H enc)

end journalBursts

/-- The statement. -/
theorem journalBursts_holds : Rows.JournalBurstsCardSaid :=
  Claim7.holds_tied_plain_at .later [] [.data] true (true, "b01ff8a6c8b92320785ce916cd8b28e8ad0e0f9566158e0aa5de0e22eeab96d7") false
    journalBursts.over (fun _ h => by cases h) (by kernel_rfl) (fun _ h => by cases h) journalBursts_row_tie rfl ⟨rfl, rfl⟩ (by kernel_rfl) rfl
    (fun f fn hf hfn => by
      obtain rfl : f = 7 := Option.some.inj ((show Tryd.prog.funcNamed "strongbox/strongboxlaw7.JournalBursts" = some 7 by kernel_rfl).symm.trans hf) |>.symm
      obtain rfl : fn = Tryd.f7 := (Option.some.inj (Tryd.func7.symm.trans hfn)).symm
      exact ⟨by kernel_rfl, fun j t ht => by
        rw [Tryd.params7] at ht
        have hm : t ∈ [24, 44, 44] := by simpa using Array.mem_of_getElem? ht
        have hall : ([24, 44, 44].all fun u => !Tryd.prog.wantsStandIn u) = true := by kernel_rfl
        exact (show Tryd.prog.wantsStandIn t = false by simpa using List.all_eq_true.1 hall t hm)⟩)
    (by kernel_rfl)
#print axioms journalBursts_holds
end Go.Proofs.YtigjhdcinaefbaaDoor
