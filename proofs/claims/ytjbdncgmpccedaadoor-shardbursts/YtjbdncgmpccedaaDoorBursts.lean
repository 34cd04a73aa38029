/-
  The law ShardBursts of layer 5 (whatever is changed within 32 bits of a file: no data is read from it) answers true for all data, block lengths, places and masks, where crc's table is as the program's text lays it.
-/
import Derived.Test.YtjbdncgmpccedaaDoorRows
import Derived.WalkKit
import Derived.ProofKit
import Derived.OpenShut
import Derived.ShutString
import Derived.ChangeOld
import Derived.Below
import Derived.SizedLaws
import Derived.LaidMore
import Derived.Stop.Joined
import Derived.SevenTiedAt
import Derived.Test.YtjbdncgmpccedaaDoorCards
import Derived.Test.YtjbdncgmpccedaaDoorTie
import Derived.Test.YtjbdncgmpccedaaDoorLaid4
import Derived.Test.YtjbdncgmpccedaaDoorShP
import Derived.Test.YtjbdncgmpccedaaDoorShQ
import Derived.Test.YtjbdncgmpccedaaDoorTurn
import Derived.Test.YtjbdncgmpccedaaDoorOpn
namespace Go.Proofs.YtjbdncgmpccedaaDoor
namespace shardBursts
open Go.ChangeShapes Go.WideShapes Go.ChangeAt Go.RowKit Crc
set_option linter.unusedVariables false
attribute [local go_sem ↓] Go.wp_at_zero Go.wp_at_succ

theorem own : ownKnob Tryd.prog.godebug = none := by kernel_rfl
theorem laidOut : laidOutB Tryd.prog = true := by kernel_rfl

set_option maxRecDepth 100000 in
set_option maxHeartbeats 4000000 in
theorem core (a : Option Addr) (n c : Nat) (f : Nat → Nat) (x u y : Nat) (w : World) (T : HalfT w) (h : Row w a n f) (z : a = none → n = 0 ∧ c = 0) (hn : n ≤ maxLen) (hc : n ≤ c) (hx : x < 256) (hu : u < 4294967296) (hy : y < 4294967296) :
    Calls Tryd.prog 4 #[.slice a n c, .int .u8 (x : Int), .agg #[.int .u32 (u : Int), .int .u32 (y : Int)]] w fun e w' => e = .returned (.bool true) ∧ Below w.heap.size w w' := by
  unfold maxLen at hn
  obtain ⟨W0, hbx⟩ : ∃ W, w.alloc (.cells #[.int .u32 (u : Int), .int .u32 (y : Int)] 41) = W := ⟨_, rfl⟩
  have b0 : Below w.heap.size w W0 := by rw [← hbx]; exact bal _ _
  have p0 : W0.cell? ⟨w.heap.size, 0, none⟩ = some (.int .u32 (u : Int)) := by rw [← hbx, World.cell?_alloc_new]; rfl
  have p1 : W0.cell? ⟨w.heap.size, 1, none⟩ = some (.int .u32 (y : Int)) := by rw [← hbx, World.cell?_alloc_new]; rfl
  have hpl : w.heap.size < W0.heap.size := block_lt_of_cell p0
  have cA := awake_any W0 (T.keep b0)
  have T0 : Hid (HalfT W0) := T.keep b0
  have R0 : Hid (Row W0 a n f) := h.keep b0
  have HF : Hid (∀ i, f i < 256) := h.lt
  have HB0 : Hid (Below w.heap.size w W0) := b0
  have HP : Hid (W0.cell? ⟨w.heap.size, 0, none⟩ = some (.int .u32 (u : Int)) ∧ W0.cell? ⟨w.heap.size, 1, none⟩ = some (.int .u32 (y : Int))) := ⟨p0, p1⟩
  clear T h b0 p0 p1 z
  go_enter Tryd.func4, Tryd.ntmps4
  go_wp2_with fail
  go_at_call 7
  refine cA.mono ?_
  rintro e w1 ⟨rfl, b1⟩
  clear cA
  have T1 : Hid (HalfT w1) := T0.out.keep b1
  have HR : Hid (Row w1 a n f) := R0.out.keep b1
  have HB1 : Hid (Below w.heap.size w w1) := hop HB0.out b1
  obtain ⟨pb, hpb⟩ : ∃ pb, w.heap.size = pb := ⟨_, rfl⟩
  have hp1 : pb < w1.heap.size := by have := b1.size; omega
  have q0 : w1.cell? ⟨pb, 0, none⟩ = some (.int .u32 (u : Int)) := by rw [← hpb]; exact (b1.cell (p := ⟨w.heap.size, 0, none⟩) hpl).trans HP.out.1
  have q1 : w1.cell? ⟨pb, 1, none⟩ = some (.int .u32 (y : Int)) := by rw [← hpb]; exact (b1.cell (p := ⟨w.heap.size, 1, none⟩) hpl).trans HP.out.2
  have HPB : Hid (w.heap.size = pb) := hpb
  rw [hpb]
  clear T0 R0 HB0 HP hpl b1 hbx hpb
  by_cases l1 : 4000 < n
  · have g1 : (4000 : Int) < (n : Int) := by omega
    go_wp2
    go_ret
    exact ⟨rfl, HB1.out⟩
  have g1 : decide ((4000 : Int) < (n : Int)) = false := decide_eq_false (by omega)
  by_cases l2 : y = 0
  · subst l2
    go_wp2
    go_ret
    exact ⟨rfl, HB1.out⟩
  have g2 : ((y : Int) == 0) = false := by simp; omega
  have hm : n ≤ maxLen := by unfold maxLen; omega
  have cO := one_any n x w1 hm hx
  have hN := one_may n x (by omega) hx
  have HN : Hid (MayN 2 1 1 (16 + x) n 65537) := hN
  have hB0 : 0 < 16 + x := by omega
  clear hN
  unfold hv at cO
  go_wp2_with fail
  go_at_call 16
  refine cO.mono ?_
  rintro e w2 ⟨rfl, b2⟩
  clear cO
  obtain ⟨W2, hW2⟩ : ∃ W, w2.alloc (.cells #[.int .i64 2, .int .i64 1, .int .i64 1, .int .i64 (16 + (x : Int)), .int .i64 (n : Int), .int .i64 65537] 23) = W := ⟨_, rfl⟩
  have hh2 : HdB W2 w2.heap.size 2 1 1 (16 + (x : Int)) (n : Int) 65537 23 := by rw [← hW2]; exact heap_alloc_new _ _
  have b12 : Below w1.heap.size w1 W2 := by rw [← hW2]; exact hop b2 (bal _ _)
  have cH := head_any 2 1 1 (16 + (x : Int)) (n : Int) 65537 W2
  obtain ⟨x0, x1, x2, x3, x4, x5⟩ := hh2.at
  have HB2 : Hid (Below w1.heap.size w1 W2) := b12
  clear b2 b12 hh2
  unfold hv at cH
  go_wp2_with fail
  go_at_call 9
  refine cH.mono ?_
  rintro e w3 ⟨rfl, b3⟩
  clear cH hW2
  have b13 : Below w1.heap.size w1 w3 := hop HB2.out b3
  have cW := write_ok w3 2 1 1 (16 + x) 65537 n c a f (T1.out.keep b13) HN.out (HR.out.keep b13) hc
  have HB3 : Hid (Below w1.heap.size w1 w3) := b13
  clear b3 b13 HB2 x0 x1 x2 x3 x4 x5
  unfold hv at cW
  go_wp2_with fail
  go_at_call 8
  refine cW.mono ?_
  rintro e w4 ⟨v4, rfl, ho4, b4⟩
  clear cW
  obtain ⟨gb, cb, rfl, hgb, hncb, q3, mB⟩ := ho4.made (by have := wl_24 n (16 + x) n; omega)
  have b14 : Below w1.heap.size w1 w4 := hop HB3.out b4
  have hl1 := wl_24 n (16 + x) n
  have hl2 := wl_le (S := n) (B := 16 + x) (t := n) (by omega) (Nat.le_refl _)
  have hgb1 : w1.heap.size ≤ gb := Nat.le_trans HB3.out.size hgb
  have HB4 : Hid (Below w1.heap.size w1 w4) := b14
  have HM4 : Hid (Made w4 gb (wl n (16 + x) n) (file 2 1 1 (16 + x) n 65537 f)) := mB
  clear b4 b14 q3 mB ho4 HB3 hgb
  obtain ⟨L, hL⟩ : ∃ L, wl n (16 + x) n = L := ⟨_, rfl⟩
  have HL : Hid (wl n (16 + x) n = L) := hL
  rw [hL] at HM4 hncb hl1 hl2 ⊢
  clear hL
  have g3 : decide ((L : Int) < 24) = false := decide_eq_false (by omega)
  obtain ⟨fr, hfr⟩ : ∃ fr : Nat, (u : Int) % (8 * (L : Int) - 31) = (fr : Int) := ⟨((u : Int) % (8 * (L : Int) - 31)).toNat, (Int.toNat_of_nonneg (Int.emod_nonneg _ (by omega))).symm⟩
  have hfl : fr + 32 ≤ 8 * L := by
    have := Int.emod_lt_of_pos (u : Int) (show (0 : Int) < 8 * (L : Int) - 31 by omega)
    omega
  obtain ⟨F, hF⟩ : ∃ F, F = file 2 1 1 (16 + x) n 65537 f := ⟨_, rfl⟩
  rw [← hF] at HM4
  have lc : Hid (∀ i, F i < 256) := by rw [hF]; exact file_lt HF.out
  have HFE : Hid (F = file 2 1 1 (16 + x) n 65537 f) := hF
  clear hF
  have r0 : w4.cell? ⟨pb, 0, none⟩ = some (.int .u32 (u : Int)) := (HB4.out.cell (p := ⟨pb, 0, none⟩) hp1).trans q0
  have Q1 : Hid (w1.cell? ⟨pb, 1, none⟩ = some (.int .u32 (y : Int))) := q1
  clear q0 q1
  go_wp2_with fail
  rw [hfr]
  clear hfr r0
  go_loopw [11] (fun i wr => ∃ t : Nat, t ≤ 32 ∧ i = .int .i64 t ∧ Made wr gb L (fun j => F j ^^^ bd fr y t j) ∧ Below w1.heap.size w1 wr) (fun i _ => 32 - (intOf i).toNat)
  case atStart => exact ⟨0, by omega, rfl, HM4.out.congr fun j _ => by rw [bd_zero, Nat.xor_zero], HB4.out⟩
  case round =>
    obtain ⟨t, ht, rfl, mB, hb⟩ := hrel
    clear HM4 HB4
    have p1 : wr.cell? ⟨pb, 1, none⟩ = some (.int .u32 (y : Int)) := (hb.cell (p := ⟨pb, 1, none⟩) hp1).trans Q1.out
    by_cases hlt : t < 32
    · have it : (t : Int) < 32 := by omega
      have hbit : bits .and .u32 ((y : Int) / 2 ^ t) 1 = ((y / 2 ^ t % 2 : Nat) : Int) := by
        rw [show (y : Int) / 2 ^ t = ((y / 2 ^ t : Nat) : Int) by simp]
        exact u32_mask (y / 2 ^ t) 1 (Nat.lt_of_le_of_lt (Nat.div_le_self _ _) (by omega)) (by omega)
      by_cases od : y / 2 ^ t % 2 = 1
      · rw [od] at hbit
        have hqn : (fr + t) / 8 < L := by omega
        have hr8 : (fr + t) % 8 < 8 := by omega
        have hu1 : F ((fr + t) / 8) ^^^ bd fr y t ((fr + t) / 8) < 256 := xor_lt8 (lc.out _) (bd_lt _ _ _ _)
        have c1 := mB.cell _ hqn
        have s1 := mB.soft _ hqn
        have xb1 := xor_bit hu1 hr8
        have mB' := mB.turn hqn od
        have hb' : Below w1.heap.size w1 (wr.setCell ⟨gb, (fr + t) / 8, none⟩ (.int .u8 (((F ((fr + t) / 8) ^^^ bd fr y t ((fr + t) / 8)) ^^^ 2 ^ ((fr + t) % 8) : Nat) : Int))) := hb.setCell (p := ⟨gb, _, none⟩) hgb1 _
        generalize (F ((fr + t) / 8) ^^^ bd fr y t ((fr + t) / 8)) ^^^ 2 ^ ((fr + t) % 8) = z1 at *
        generalize F ((fr + t) / 8) ^^^ bd fr y t ((fr + t) / 8) = u1 at *
        have eq' : ((fr : Int) + (t : Int)) / 8 = (((fr + t) / 8 : Nat) : Int) := by omega
        have er' : ((fr : Int) + (t : Int)) % 8 = (((fr + t) % 8 : Nat) : Int) := by omega
        generalize (fr + t) / 8 = q at *
        generalize (fr + t) % 8 = r at *
        have HB1' : Hid _ := mB'
        have HBW : Hid _ := hb'
        clear mB mB' hb hb' od
        go_wp2
        go_round
        case rel => exact ⟨t + 1, by omega, by go_num, HB1'.out, HBW.out⟩
        case measure => simp [intOf]; omega
      · rw [show y / 2 ^ t % 2 = 0 by omega] at hbit
        have HB1' : Hid _ := mB.same (show y / 2 ^ t % 2 = 0 by omega)
        clear mB od
        go_wp2
        go_round
        case rel => exact ⟨t + 1, by omega, by go_num, HB1'.out, hb⟩
        case measure => simp [intOf]; omega
    · have : t = 32 := by omega
      subst this
      have hG : ∀ i, F i ^^^ bd fr y 32 i < 256 := fun i => xor_lt8 (lc.out _) (bd_lt _ _ _ _)
      have row := mB.row hG
      have cR : Calls Tryd.prog 17 #[.slice (some ⟨gb, 0, none⟩) L cb] wr fun e w' => ∃ u y', e = .returned (.tuple #[u, .slice none 0 0, .int .i64 y']) ∧ (∃ p q r s t o, u = hv p q r s t o) ∧ y' ≠ 0 ∧ Below wr.heap.size wr w' := by
        have hL' : L = plen n (16 + x) (nb n (16 + x)) := by rw [← HL.out]; exact wl_plen hB0
        have hfe : (fun i => F i ^^^ bd fr y 32 i) = fun i => file 2 1 1 (16 + x) n 65537 f i ^^^ bd fr y 32 i := by rw [HFE.out]
        rw [hfe] at row
        rcases burst_told (K := 2) (M := 1) (I := 1) (B := 16 + x) (S := n) (D := 65537) (f := f) (fr := fr) (mask := y) hB0 HF.out (by rw [← hL']; exact hfl) (by omega) l2 with ht | ⟨hz, k, hk, hnf⟩
        · refine (readF_bad wr L cb (some ⟨gb, 0, none⟩) (fun _ => True) (by omega) (fun W hW => (readHead_bad (some ⟨gb, 0, none⟩) L cb _ W (T1.out.keep (hop hb hW)) (row.keep hW) hl1 hncb (by unfold maxLen; omega) (head_told ht)).mono ?_)).mono ?_
          · rintro e w' ⟨x', y', hy', rfl, hb'⟩
            exact ⟨hb', x', y', rfl, by rcases hy' with rfl | rfl <;> decide, trivial⟩
          · rintro e w' ⟨hb', y', rfl, hy', _⟩
            exact ⟨_, y', rfl, ⟨0, 0, 0, 0, 0, 0, rfl⟩, hy', hb'⟩
        · refine (readF_good wr L cb 2 1 1 (16 + x) n 65537 (some ⟨gb, 0, none⟩) _ f (T1.out.keep hb) row hl1 (by omega) hncb HN.out (fun i hi => by rw [hz i hi, Nat.xor_zero])).mono ?_
          rintro e w' ⟨hb', ⟨y', rfl, hbad⟩ | ⟨v, rfl, _, hfit, _⟩⟩
          · exact ⟨_, y', rfl, ⟨0, 0, 0, 0, 0, 0, rfl⟩, hbad.ne, hb'⟩
          · exact absurd (hfit k hk) hnf
      clear mB row hG
      go_wp2_with fail
      go_at_call 17
      refine cR.mono ?_
      rintro e w5 ⟨u', y', rfl, ⟨p1', p2, p3, p4, p5, p6, rfl⟩, hy', b5⟩
      clear cR
      have hyb : (y' == 0) = false := by simp [hy']
      have hyn : (y' != 0) = true := by simp [hy']
      have HBB : Hid (Below w1.heap.size w1 w5) := hop hb b5
      clear b5 hb hy'
      unfold hv
      go_wp2
      go_ret
      exact ⟨rfl, hop (hop HB1.out HBB.out) (bal _ _)⟩


set_option maxRecDepth 100000 in
theorem lifted (os : Os) (started : os.Started) (H : Type) (enc : TypeId × Value → H) :
    ReturnsInHanded {} Tryd.checked os 4 .any (fun w args => (Rows.shardBurstsSpec.pre enc Tryd.prog Tryd.f4 [] false w args ∧ laidMetH Tryd.prog laidAll w) ∧ sizedMet enc Tryd.prog Tryd.f4 (OpenSpec.ofChange Rows.shardBurstsSpec) false w args) (Rows.shardBurstsSpec.post enc Tryd.prog Tryd.f4 false true false false) := by
  refine returnsInHanded_of_change_and (C := Tryd.checked) (X := fun w _ => laidMetH Tryd.prog laidAll w) (fun _ _ _ hh h => h.of_heap hh) own started (by kernel_rfl) Tryd.func4
    (ChangeSpec.witness_shaped (enc := enc) (C := Tryd.checked) (os := os) (X := fun w _ => laidMetH Tryd.prog laidAll w) false (World.doorLaid Tryd.prog 400 os) #[.slice none 0 0, .int .u8 0, .agg #[.int .u32 0, .int .u32 0]] 8 rfl (World.shaped_of_RefB (by kernel_rfl) (by kernel_rfl)) (by kernel_rfl) (by kernel_rfl) (by kernel_rfl) (door_met os _)) ?_
  intro W base args ds gs before hval0 hW _ hsz0 hL _
  have hval : ∀ (j : Nat) t v, Tryd.f4.params[j]? = some t → args[j]? = some v → Value.okWide Tryd.prog W .any base t v := hval0
  have hW' := hW
  obtain ⟨p, q, hA0, hV, rfl, hfz, hnd⟩ := hW
  have hA : DataW.TrodAll enc Tryd.prog W 0 (fun _ => true) true Tryd.f4.params.toList args.toList ds p := hA0
  rw [Tryd.params4] at hA hval
  have T := halfT_of hL
  obtain ⟨v0, vs0, d0, ds0, p0, q0, hargs, rfl, rfl, h0, r0⟩ := trodAll_cons hA
  obtain ⟨v1, vs1, d1, ds1, p1, q1, rfl, rfl, rfl, h1, r1⟩ := trodAll_cons r0
  obtain ⟨v2, vs2, d2, ds2, p2, q2, rfl, rfl, rfl, h2, r2⟩ := trodAll_cons r1
  obtain ⟨rfl, rfl, rfl⟩ := trodAll_nil r2
  obtain rfl : args = #[v0, v1, v2] := by cases args; simp_all
  obtain ⟨rfl, rfl⟩ := trodVars_none hV
  obtain ⟨a0, len0, cap0, rfl⟩ := okWide_slice Tryd.underlying24 (hval 0 24 v0 rfl rfl)
  have k0 := h0
  have lt0 : ∀ x ∈ p0, x.block < W.heap.size := by obtain ⟨m, hm⟩ := k0; exact DataW.trod_lt m _ _ _ hm
  obtain ⟨f0, m0, z0, e0, c0⟩ := open_row h0
  have k1 := h1
  have lt1 : ∀ x ∈ p1, x.block < W.heap.size := by obtain ⟨m, hm⟩ := k1; exact DataW.trod_lt m _ _ _ hm
  obtain ⟨x1, e1, rfl⟩ := open_u8 (hval 1 5 v1 rfl rfl) h1
  have k2 := h2
  have lt2 : ∀ x ∈ p2, x.block < W.heap.size := by obtain ⟨m, hm⟩ := k2; exact DataW.trod_lt m _ _ _ hm
  obtain ⟨x2, y2, e2, g2, rfl⟩ := open_pair32 (hval 2 41 v2 rfl rfl) h2
  clear hA0 hval0 hsz0 hL
  refine (core a0 len0 cap0 f0 x1 x2 y2 W T m0 z0 e0 c0 e1 e2 g2).mono fun e W' ⟨he, bel⟩ => ?_
  subst he
  exact ⟨_, rfl, _, _, _, [], _, [], hW', trodAll_mk1 (shut_bool Tryd.underlying4 _), (trodAll_cons_mk (Below.trod laidOut (by kernel_rfl) (of_decide_eq_true (by kernel_rfl)) k0 bel lt0) (trodAll_cons_mk (Below.trod laidOut (by kernel_rfl) (of_decide_eq_true (by kernel_rfl)) k1 bel lt1) (trodAll_cons_mk (Below.trod laidOut (by kernel_rfl) (of_decide_eq_true (by kernel_rfl)) k2 bel lt2) trodAll_mk0))), rfl, bel.frame _, fun h => by cases h⟩

theorem over : Rows.shardBurstsRow.holds Tryd.pinned (OpenSpec.ofChange Rows.shardBurstsSpec) :=
  OpenClaim.holds_of_wide 4 Tryd.f4 rfl rfl rfl rfl rfl rfl rfl ⟨rfl, rfl, rfl, rfl, rfl⟩ rfl rfl rfl rfl rfl (by kernel_rfl) Tryd.func4 (by kernel_rfl)
    (of_decide_eq_true (by kernel_rfl)) (by unfold Func.isWrapper; first | (rw [if_pos (by decide +kernel)]; kernel_rfl) | (rw [if_neg (by decide +kernel)]; exact ⟨rfl, rfl⟩))
    (fun os started H enc _ => lifted os started H enc)

end shardBursts

/-- The statement. -/
theorem shardBursts_holds : Rows.ShardBurstsCardSaid :=
  Claim7.holds_tied_plain_at .later [] [.data] true (true, "9b2e8d71bbdfd75aae88c0846095cf4bcf21937ec3a365648ee7d2fc33c80607") false
    shardBursts.over (fun _ h => by cases h) (by kernel_rfl) (fun _ h => by cases h) shardBursts_row_tie rfl ⟨rfl, rfl⟩ (by kernel_rfl) rfl
    (fun f fn hf hfn => by
      obtain rfl : f = 4 := Option.some.inj ((show Tryd.prog.funcNamed "strongbox/strongboxlaw5.ShardBursts" = some 4 by kernel_rfl).symm.trans hf) |>.symm
      obtain rfl : fn = Tryd.f4 := (Option.some.inj (Tryd.func4.symm.trans hfn)).symm
      exact ⟨by kernel_rfl, fun j t ht => by
        rw [Tryd.params4] at ht
        have hm : t ∈ [24, 5, 41] := by simpa using Array.mem_of_getElem? ht
        have hall : ([24, 5, 41].all fun u => !Tryd.prog.wantsStandIn u) = true := by kernel_rfl
        exact (show Tryd.prog.wantsStandIn t = false by simpa using List.all_eq_true.1 hall t hm)⟩)
    (by kernel_rfl)
#print axioms shardBursts_holds
end Go.Proofs.YtjbdncgmpccedaaDoor
