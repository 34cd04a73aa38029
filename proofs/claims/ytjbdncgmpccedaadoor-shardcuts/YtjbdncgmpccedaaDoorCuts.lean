/-
  The law ShardCuts of layer 5 (a file that is cut anywhere, or has bytes behind, is none) answers true for all data, block lengths and cuts, where crc's table is as the program's text lays it.
-/
import Derived.Test.YtjbdncgmpccedaaDoorRows
import Derived.WalkKit
import Derived.ProofKit
import Derived.OpenShut
import Derived.ShutString
import Derived.ChangeOld
import Derived.Below
import Derived.SizedLaws
import Derived.LaidMore
import Derived.Stop.Joined
import Derived.SevenTiedAt
import Derived.Test.YtjbdncgmpccedaaDoorCards
import Derived.Test.YtjbdncgmpccedaaDoorTie
import Derived.Test.YtjbdncgmpccedaaDoorLaid4
import Derived.Test.YtjbdncgmpccedaaDoorShP
namespace Go.Proofs.YtjbdncgmpccedaaDoor
namespace shardCuts
open Go.ChangeShapes Go.WideShapes Go.ChangeAt Go.RowKit Crc
set_option linter.unusedVariables false
attribute [local go_sem ↓] Go.wp_at_zero Go.wp_at_succ

theorem own : ownKnob Tryd.prog.godebug = none := by kernel_rfl
theorem laidOut : laidOutB Tryd.prog = true := by kernel_rfl

set_option maxRecDepth 100000 in
set_option maxHeartbeats 4000000 in
theorem core (a : Option Addr) (n c : Nat) (f : Nat → Nat) (x : Nat) (y' : Int) (w : World) (T : HalfT w) (h : Row w a n f) (z : a = none → n = 0 ∧ c = 0) (hn : n ≤ maxLen) (hc : n ≤ c) (hx : x < 256) (x0 : 0 ≤ y') (x1 : y' ≤ 65535) :
    Calls Tryd.prog 5 #[.slice a n c, .int .u8 (x : Int), .int .u16 y'] w fun e w' => e = .returned (.bool true) ∧ Below w.heap.size w w' := by
  unfold maxLen at hn
  obtain ⟨y, rfl⟩ := Int.eq_ofNat_of_zero_le x0
  go_enter Tryd.func5, Tryd.ntmps5
  go_wp2_with fail
  go_at_call 7
  refine (awake_any w T).mono ?_
  rintro e w1 ⟨rfl, b1⟩
  have T1 : Hid (HalfT w1) := T.keep b1
  have HR : Hid (Row w1 a n f) := h.keep b1
  have HF : Hid (∀ i, f i < 256) := h.lt
  have HB1 : Hid (Below w.heap.size w w1) := b1
  clear h T z
  by_cases l1 : 4000 < n
  · have g1 : (4000 : Int) < (n : Int) := by omega
    go_wp2
    go_ret
    exact ⟨rfl, b1⟩
  have g1 : decide ((4000 : Int) < (n : Int)) = false := decide_eq_false (by omega)
  have hm : n ≤ maxLen := by unfold maxLen; omega
  have cO := one_any n x w1 hm hx
  have hN := one_may n x (by omega) hx
  have HN : Hid (MayN 2 1 1 (16 + x) n 65537) := hN
  have hB0 : 0 < 16 + x := by omega
  clear b1 hN
  unfold hv at cO
  go_wp2_with fail
  go_at_call 16
  refine cO.mono ?_
  rintro e w2 ⟨rfl, b2⟩
  clear cO
  have cH := head_any ((2 : Nat) : Int) ((1 : Nat) : Int) ((1 : Nat) : Int) ((16 + x : Nat) : Int) (n : Int) ((65537 : Nat) : Int) w2
  have HB2 : Hid (Below w1.heap.size w1 w2) := b2
  clear b2
  unfold hv at cH
  go_wp2_with fail
  go_at_call 9
  refine cH.mono ?_
  rintro e w3 ⟨rfl, b3⟩
  clear cH
  have b13 : Below w1.heap.size w1 w3 := hop HB2.out b3
  have cW := write_ok w3 2 1 1 (16 + x) 65537 n c a f (T1.out.keep b13) HN.out (HR.out.keep b13) hc
  have HB3 : Hid (Below w1.heap.size w1 w3) := b13
  clear b3 b13 HB2
  unfold hv at cW
  go_wp2_with fail
  go_at_call 8
  refine cW.mono ?_
  rintro e w4 ⟨v4, rfl, ho4, b4⟩
  clear cW
  obtain ⟨g4, c4, rfl, q1, hc4, q3, r4⟩ := ho4.row (by have := wl_24 n (16 + x) n; omega) (file_lt HF.out)
  have b14 : Below w1.heap.size w1 w4 := hop HB3.out b4
  have hl1 := wl_24 n (16 + x) n
  have hl2 := wl_le (S := n) (B := 16 + x) (t := n) (by omega) (Nat.le_refl _)
  have HB4 : Hid (Below w1.heap.size w1 w4) := b14
  have HR4 : Hid (Row w4 (some ⟨g4, 0, none⟩) (wl n (16 + x) n) (file 2 1 1 (16 + x) n 65537 f)) := r4
  have HO4 : Hid (wl n (16 + x) n ≤ c4) := hc4
  clear b4 b14 q1 q3 r4 ho4 HB3 hc4
  obtain ⟨L, hL⟩ : ∃ L, wl n (16 + x) n = L := ⟨_, rfl⟩
  have HL : Hid (wl n (16 + x) n = L) := hL
  rw [hL] at HR4 HO4 hl1 hl2 ⊢
  clear hL
  have g2 : decide ((L : Int) < 24) = false := decide_eq_false (by omega)
  obtain ⟨k, hk⟩ : ∃ k : Nat, (y : Int) % (L : Int) = (k : Int) := ⟨((y : Int) % (L : Int)).toNat, (Int.toNat_of_nonneg (Int.emod_nonneg _ (by omega))).symm⟩
  have hkL : k < L := by
    have := Int.emod_lt_of_pos (y : Int) (show (0 : Int) < (L : Int) by omega)
    omega
  obtain ⟨A, hs, hA⟩ := cut_h (c := c4) HR4.out k (by omega) HO4.out
  have cR : Calls Tryd.prog 17 #[.slice A k c4] w4 fun e w' => ∃ u v, e = .returned (.tuple #[u, v, .int .i64 2]) ∧ (∃ p q r s t o, u = hv p q r s t o) ∧ (v = .slice none 0 0) ∧ Below w4.heap.size w4 w' := by
    by_cases h24 : k < 24
    · refine (readF_bad w4 k c4 A (fun y => y = 2) (by omega) (fun W hW => (readHead_short A k c4 W h24).mono ?_)).mono ?_
      · rintro e w' ⟨rfl, hb⟩
        exact ⟨hb, 0, 2, rfl, by decide, rfl⟩
      · rintro e w' ⟨hb, y, rfl, _, rfl⟩
        exact ⟨_, _, rfl, ⟨0, 0, 0, 0, 0, 0, rfl⟩, rfl, hb⟩
    · refine (readF_good w4 k c4 2 1 1 (16 + x) n 65537 A _ f (T1.out.keep HB4.out) hA (by omega) (by omega) (by have := HO4.out; omega) HN.out (fun i _ => rfl)).mono ?_
      rintro e w' ⟨hb, ⟨y, rfl, hbad⟩ | ⟨v, rfl, hgood, _⟩⟩
      · have := cut_bad hB0 HF.out (by rw [HL.out]; exact hkL) hbad
        subst this
        exact ⟨_, _, rfl, ⟨0, 0, 0, 0, 0, 0, rfl⟩, rfl, hb⟩
      · rw [← wl_plen hB0, HL.out] at hgood
        omega
  clear hA
  go_wp2_with fail
  rw [hk]
  clear hk
  go_at_call 17
  refine cR.mono ?_
  rintro e w5 ⟨u, v, rfl, ⟨p1, p2, p3, p4, p5, p6, rfl⟩, rfl, b5⟩
  clear cR hs
  obtain ⟨W6, hW6⟩ : ∃ W, w5.alloc (.cells #[.int .i64 p1, .int .i64 p2, .int .i64 p3, .int .i64 p4, .int .i64 p5, .int .i64 p6] 29) = W := ⟨_, rfl⟩
  have b6 : Below w4.heap.size w4 W6 := by rw [← hW6]; exact hop b5 (bal _ _)
  have b16 : Below w1.heap.size w1 W6 := hop HB4.out b6
  have b7 : Below W6.heap.size W6 (W6.alloc (.cells #[] 5)) := bal _ _
  obtain ⟨v7, W7, hr7, own7, bW7, _⟩ := appendG (c := c4) (Own.lit0 W6 (fun _ => 0)) (HR4.out.keep (hop b6 b7)) (fun e => by cases e) (by omega) b7.size
  rw [Nat.zero_add] at own7
  have b67 : Below W6.heap.size W6 W7 := b7.trans bW7
  obtain ⟨yb, hyb, hyl⟩ : ∃ yb : Nat, (y : Int) % 256 = (yb : Int) ∧ yb < 256 := ⟨y % 256, by omega, by omega⟩
  obtain ⟨G, hG⟩ : ∃ G, G = cat L (file 2 1 1 (16 + x) n 65537 f) (fun _ => yb) := ⟨_, rfl⟩
  have hGl : ∀ i, G i < 256 := fun i => by rw [hG]; exact cat_lt (file_lt HF.out) (fun _ => hyl) i
  have own7' : Own W7 W6.heap.size v7 L G := own7.congr fun i hi => by
    rw [hG]; unfold cat; rw [if_neg (by omega), Nat.sub_zero, if_pos hi]
  obtain ⟨v8, W8, hr8, own8, bW8⟩ := push1 own7' hyl (by omega) b67.size (by rw [hG]; unfold cat; rw [if_neg (by omega)])
  obtain ⟨g8, c8, rfl, q1, hc8, q3, r8⟩ := own8.row (by omega) hGl
  have b68 : Below W6.heap.size W6 W8 := b67.trans bW8
  have b18 : Below w1.heap.size w1 W8 := hop b16 b68
  have cR2 : Calls Tryd.prog 17 #[.slice (some ⟨g8, 0, none⟩) (L + 1) c8] W8 fun e w' => ∃ u v, e = .returned (.tuple #[u, v, .int .i64 4]) ∧ (∃ p q r s t o, u = hv p q r s t o) ∧ (v = .slice none 0 0) ∧ Below W8.heap.size W8 w' := by
    have hGf : ∀ i, i < L → G i = file 2 1 1 (16 + x) n 65537 f i := fun i hi => by rw [hG]; unfold cat; rw [if_pos hi]
    refine (readF_good W8 (L + 1) c8 2 1 1 (16 + x) n 65537 (some ⟨g8, 0, none⟩) G f (T1.out.keep b18) r8 (by omega) (by omega) hc8 HN.out (fun i hi => hGf i (by omega))).mono ?_
    rintro e w' ⟨hb, ⟨y, rfl, hbad⟩ | ⟨v, rfl, hgood, _⟩⟩
    · rw [← HL.out] at hbad
      have := more_bad hB0 HF.out (fun i hi => hGf i (by rw [← HL.out]; exact hi)) hbad
      subst this
      exact ⟨_, _, rfl, ⟨0, 0, 0, 0, 0, 0, rfl⟩, rfl, hb⟩
    · rw [← wl_plen hB0, HL.out] at hgood
      omega
  have HA7 : Hid (Sem.run Tryd.prog (Builtin.append_ #[24, 24] 24 #[.slice (some ⟨W6.heap.size, 0, none⟩) 0 0, .slice (some ⟨g4, 0, none⟩) L c4]) (W6.alloc (.cells #[] 5)) = .ok v7 W7) := hr7
  have HA8 : Hid (Sem.run Tryd.prog (Builtin.append_ #[24, 24] 24 #[v7, .slice (some ⟨W7.heap.size, 0, none⟩) 1 1]) (W7.alloc (.cells #[.int .u8 (yb : Int)] 5)) = .ok (.slice (some ⟨g8, 0, none⟩) (L + 1) c8) W8) := hr8
  have HB18 : Hid (Below w1.heap.size w1 W8) := b18
  clear b5 b6 b16 b7 hr7 own7 bW7 b67 own7' hr8 own8 bW8 q1 q3 r8 b68 b18 HR4 hG hGl
  unfold hv
  go_wp2_with (at_builtin; first | refine wpList_append_ran (by rfl) _ _ 24 (by rfl) _ _ _ _ (by rfl) (by rfl) HA7.out ?_ | refine wpList_append_ran (by rfl) _ _ 24 (by rfl) _ _ _ _ (by rfl) (by rfl) HA8.out ?_)
  go_at_call 17
  refine cR2.mono ?_
  rintro e w9 ⟨u, v, rfl, ⟨r1, r2, r3, r4, r5, r6, rfl⟩, rfl, b9⟩
  clear cR2 HA7 HA8
  unfold hv
  go_wp2
  go_ret
  exact ⟨rfl, hop (hop HB1.out (hop HB18.out b9)) (bal _ _)⟩


set_option maxRecDepth 100000 in
theorem lifted (os : Os) (started : os.Started) (H : Type) (enc : TypeId × Value → H) :
    ReturnsInHanded {} Tryd.checked os 5 .any (fun w args => (Rows.shardCutsSpec.pre enc Tryd.prog Tryd.f5 [] false w args ∧ laidMetH Tryd.prog laidAll w) ∧ sizedMet enc Tryd.prog Tryd.f5 (OpenSpec.ofChange Rows.shardCutsSpec) false w args) (Rows.shardCutsSpec.post enc Tryd.prog Tryd.f5 false true false false) := by
  refine returnsInHanded_of_change_and (C := Tryd.checked) (X := fun w _ => laidMetH Tryd.prog laidAll w) (fun _ _ _ hh h => h.of_heap hh) own started (by kernel_rfl) Tryd.func5
    (ChangeSpec.witness_shaped (enc := enc) (C := Tryd.checked) (os := os) (X := fun w _ => laidMetH Tryd.prog laidAll w) false (World.doorLaid Tryd.prog 400 os) #[.slice none 0 0, .int .u8 0, .int .u16 0] 8 rfl (World.shaped_of_RefB (by kernel_rfl) (by kernel_rfl)) (by kernel_rfl) (by kernel_rfl) (by kernel_rfl) (door_met os _)) ?_
  intro W base args ds gs before hval0 hW _ hsz0 hL _
  have hval : ∀ (j : Nat) t v, Tryd.f5.params[j]? = some t → args[j]? = some v → Value.okWide Tryd.prog W .any base t v := hval0
  have hW' := hW
  obtain ⟨p, q, hA0, hV, rfl, hfz, hnd⟩ := hW
  have hA : DataW.TrodAll enc Tryd.prog W 0 (fun _ => true) true Tryd.f5.params.toList args.toList ds p := hA0
  rw [Tryd.params5] at hA hval
  have T := halfT_of hL
  obtain ⟨v0, vs0, d0, ds0, p0, q0, hargs, rfl, rfl, h0, r0⟩ := trodAll_cons hA
  obtain ⟨v1, vs1, d1, ds1, p1, q1, rfl, rfl, rfl, h1, r1⟩ := trodAll_cons r0
  obtain ⟨v2, vs2, d2, ds2, p2, q2, rfl, rfl, rfl, h2, r2⟩ := trodAll_cons r1
  obtain ⟨rfl, rfl, rfl⟩ := trodAll_nil r2
  obtain rfl : args = #[v0, v1, v2] := by cases args; simp_all
  obtain ⟨rfl, rfl⟩ := trodVars_none hV
  obtain ⟨a0, len0, cap0, rfl⟩ := okWide_slice Tryd.underlying24 (hval 0 24 v0 rfl rfl)
  have k0 := h0
  have lt0 : ∀ x ∈ p0, x.block < W.heap.size := by obtain ⟨m, hm⟩ := k0; exact DataW.trod_lt m _ _ _ hm
  obtain ⟨f0, m0, z0, e0, c0⟩ := open_row h0
  have k1 := h1
  have lt1 : ∀ x ∈ p1, x.block < W.heap.size := by obtain ⟨m, hm⟩ := k1; exact DataW.trod_lt m _ _ _ hm
  obtain ⟨x1, e1, rfl⟩ := open_u8 (hval 1 5 v1 rfl rfl) h1
  have k2 := h2
  have lt2 : ∀ x ∈ p2, x.block < W.heap.size := by obtain ⟨m, hm⟩ := k2; exact DataW.trod_lt m _ _ _ hm
  obtain ⟨x2, rfl, _, _, w2⟩ := open_int Tryd.underlying47 (hval 2 47 v2 rfl rfl) h2
  have e2 : 0 ≤ x2 ∧ x2 ≤ 65535 := by simpa [Lit.wf, IntKind.min, IntKind.max, IntKind.signed, IntKind.bits] using w2
  clear hA0 hval0 hsz0 hL
  refine (core a0 len0 cap0 f0 x1 x2 W T m0 z0 e0 c0 e1 e2.1 e2.2).mono fun e W' ⟨he, bel⟩ => ?_
  subst he
  exact ⟨_, rfl, _, _, _, [], _, [], hW', trodAll_mk1 (shut_bool Tryd.underlying4 _), (trodAll_cons_mk (Below.trod laidOut (by kernel_rfl) (of_decide_eq_true (by kernel_rfl)) k0 bel lt0) (trodAll_cons_mk (Below.trod laidOut (by kernel_rfl) (of_decide_eq_true (by kernel_rfl)) k1 bel lt1) (trodAll_cons_mk (Below.trod laidOut (by kernel_rfl) (of_decide_eq_true (by kernel_rfl)) k2 bel lt2) trodAll_mk0))), rfl, bel.frame _, fun h => by cases h⟩

theorem over : Rows.shardCutsRow.holds Tryd.pinned (OpenSpec.ofChange Rows.shardCutsSpec) :=
  OpenClaim.holds_of_wide 5 Tryd.f5 rfl rfl rfl rfl rfl rfl rfl ⟨rfl, rfl, rfl, rfl, rfl⟩ rfl rfl rfl rfl rfl (by kernel_rfl) Tryd.func5 (by kernel_rfl)
    (of_decide_eq_true (by kernel_rfl)) (by unfold Func.isWrapper; first | (rw [if_pos (by decide +kernel)]; kernel_rfl) | (rw [if_neg (by decide +kernel)]; exact ⟨rfl, rfl⟩))
    (fun os started H enc _ => lifted os started H enc)

end shardCuts

/-- The statement. -/
theorem shardCuts_holds : Rows.ShardCutsCardSaid :=
  Claim7.holds_tied_plain_at .later [] [.data] true (true, "9b2e8d71bbdfd75aae88c0846095cf4bcf21937ec3a365648ee7d2fc33c80607") false
    shardCuts.over (fun _ h => by cases h) (by kernel_rfl) (fun _ h => by cases h) shardCuts_row_tie rfl ⟨rfl, rfl⟩ (by kernel_rfl) rfl
    (fun f fn hf hfn => by
      obtain rfl : f = 5 := Option.some.inj ((show Tryd.prog.funcNamed "strongbox/strongboxlaw5.ShardCuts" = some 5 by kernel_rfl).symm.trans hf) |>.symm
      obtain rfl : fn = Tryd.f5 := (Option.some.inj (Tryd.func5.symm.trans hfn)).symm
      exact ⟨by kernel_rfl, fun j t ht => by
        rw [Tryd.params5] at ht
        have hm : t ∈ [24, 5, 47] := by simpa using Array.mem_of_getElem? ht
        have hall : ([24, 5, 47].all fun u => !Tryd.prog.wantsStandIn u) = true := by kernel_rfl
        exact (show Tryd.prog.wantsStandIn t = false by simpa using List.all_eq_true.1 hall t hm)⟩)
    (by kernel_rfl)
#print axioms shardCuts_holds
end Go.Proofs.YtjbdncgmpccedaaDoor
