/-
  What was cut is joined again, and each row has the length that it should: for every row of bytes, number of rows and block that the law's arguments give, and without further condition.
-/
import Derived.Test.YtfifcghjbdooeaaRows
import Derived.WalkKit
import Derived.ProofKit
import Derived.OpenShut
import Derived.ShutString
import Derived.ChangeOld
import Derived.Below
import Derived.SizedLaws
import Derived.ChangeSame
import Derived.ChangeMaps5
import Derived.Test.YtfifcghjbdooeaaSpO
set_option maxRecDepth 100000
namespace Go.Proofs.Ytfifcghjbdooeaa
namespace stripeBack
open Go.ChangeShapes Go.WideShapes Go.ChangeAt Go.RowKit
set_option linter.unusedVariables false
attribute [local go_sem ↓] Go.wp_at_zero Go.wp_at_succ

theorem own : ownKnob Try.prog.godebug = none := by kernel_rfl
theorem laidOut : laidOutB Try.prog = true := by kernel_rfl

set_option maxHeartbeats 2000000 in
theorem core (a : Option Addr) (n c : Nat) (f : Nat → Nat) (x y : Nat) (w : World) (hr : Row w a n f) (hnil : a = none → n = 0 ∧ c = 0) (hn : n ≤ maxLen) (hc : n ≤ c) (hx : x ≤ 255) (hy : y ≤ 255) :
    Calls Try.prog 4 #[.slice a n c, .int .u8 x, .int .u8 y] w fun e w' => e = .returned (.bool true) ∧ Below w.heap.size w w' := by
  unfold maxLen at hn
  obtain ⟨k, hk⟩ : ∃ k, x % 20 + 1 = k := ⟨_, rfl⟩
  obtain ⟨b, hb⟩ : ∃ b, y % 60 + 1 = b := ⟨_, rfl⟩
  have ek : (1 : Int) + (x : Int) % 20 = (k : Int) := by omega
  have eb : (1 : Int) + (y : Int) % 60 = (b : Int) := by omega
  have hk1 : 1 ≤ k ∧ k ≤ 20 := by omega
  have hb1 : 1 ≤ b ∧ b ≤ 60 := by omega
  clear hk hb
  have HR : Hid (Row w a n f) := hr
  have HZ : Hid (a = none → n = 0) := fun e => (hnil e).1
  have aw := awake_any w
  clear hr hnil
  go_enter Try.func4, Try.ntmps4
  go_wp2_with fail
  go_at_call 8
  refine aw.mono ?_
  rintro e w1 ⟨rfl, b1⟩
  have HB1 : Hid (Below w.heap.size w w1) := b1
  clear aw b1
  by_cases hbig : 5000 < n
  · have hbi : (5000 : Int) < (n : Int) := by omega
    go_wp2
    go_ret
    exact ⟨rfl, HB1.out⟩
  · have hbi : ¬ (5000 : Int) < (n : Int) := by omega
    have hm : MayN n k b := by unfold MayN; omega
    have HM : Hid (MayN n k b) := hm
    have cS := split_yes a n c k b f w1 (HR.out.keep HB1.out) HZ.out hc hm
    clear hbig
    go_wp2_with fail
    go_at_call 9
    refine cS.mono ?_
    rintro e w2 ⟨h, rfl, hh, g2, b2⟩
    have HB2 : Hid (Below w.heap.size w w2) := hop HB1.out b2
    have cL := length_yes n k b w2 hm
    obtain ⟨l, hle⟩ : ∃ l, ln n k b = l := ⟨_, rfl⟩
    have HLN : Hid (ln n k b = l) := hle
    have HG : Hid (Grid w2 h k l (spq f n k b n)) := by rw [← hle]; exact g2
    have HKL : Hid (n ≤ k * l ∧ k * l < n + k) := by rw [← hle]; exact ln_mul n hk1.1 hb1.1
    have hl : l ≤ n := by rw [← hle]; exact ln_le n hk1.1 hb1.1
    rw [hle] at cL
    clear cS HB1 g2 b2 hle hm
    go_wp2_with fail
    go_at_call 14
    refine cL.mono ?_
    rintro e w3 ⟨rfl, q, rfl⟩
    have HB3 : Hid (Below w.heap.size w (w2.drewN q)) := hop HB2.out (bdn _ _)
    have HG3 : Hid (Grid (w2.drewN q) h k l (spq f n k b n)) := HG.out.keep (bdn _ _)
    clear cL HB2 HG
    generalize w2.drewN q = w3 at *
    go_wp2
    go_loopw [12, 13] (fun v12 v13 wr => ∃ i t, i ≤ k ∧ v13 = .int .i64 ((i : Nat) : Int) ∧ v12 = .int .i64 ((t : Nat) : Int) ∧ Hid (t = i * l) ∧ t ≤ i * 5000 ∧ wr = w3) (fun _ v _ => k - (intOf v).toNat)
    case atStart => exact ⟨0, 0, by omega, rfl, rfl, by show 0 = 0 * l; omega, by omega, rfl⟩
    case round =>
    obtain ⟨i, t, hi, rfl, rfl, HT, ht, rfl⟩ := hrel
    by_cases hik : i < k
    · have ik : (i : Int) < (k : Int) := by omega
      have ck := HG3.out.hdr i hik
      have HT2 : Hid (t + l = (i + 1) * l) := by show t + l = (i + 1) * l; rw [Nat.add_mul, Nat.one_mul, HT.out]
      have ht2 : t + l ≤ (i + 1) * 5000 := by omega
      clear HG3 HT
      go_wp2
      go_round
      case rel => exact ⟨i + 1, t + l, by omega, by go_num, by go_num, HT2, ht2, by trivial⟩
      case measure => simp [intOf]; omega
    · have hik' : i = k := by omega
      have htk : t = k * l := by rw [HT.out, hik']
      have hn1 : (n : Int) ≤ (t : Int) := by have := HKL.out; omega
      have hn2 : (t : Int) < (n : Int) + (k : Int) := by have := HKL.out; omega
      have hF : B (spq f n k b n) := fun _ _ => spq_lt HR.out.lt _ _ _ _ _ _
      have cJ := join_yes (some ⟨h, 0, none⟩) n k k b _ _ _ _ wr (HG3.out.mat (by omega) hF) HM.out (fun _ _ => HLN.out.symm) (fun _ _ => Nat.le_refl _)
      clear HT htk hi hik
      have hik2 : ¬ (i : Int) < (k : Int) := by omega
      clear hik'
      go_wp2_with fail
      go_at_call 11
      refine cJ.mono ?_
      rintro e w5 ⟨rfl, m5, b5⟩
      have HB5 : Hid (Below w.heap.size w w5) := hop HB3.out b5
      have q1 := conv_row (c := n) (m5.row (fun i => jn_lt hF _ _ _ _)) (fun e => by cases e)
      have q2 := conv_row (c := c) (HR.out.keep HB5.out) HZ.out
      rw [str_congr (fun i hi => jn_spq (f := f) hk1.1 hb1.1 hi)] at q1
      clear m5 b5 cJ hF HB3 HG3
      generalize str f n = S at *
      go_wp2
      go_ret
      exact ⟨rfl, HB5.out⟩


set_option maxRecDepth 100000 in
theorem lifted (os : Os) (started : os.Started) (H : Type) (enc : TypeId × Value → H) :
    ReturnsInHanded {} Try.checked os 4 .any (Rows.stripeBackSpec.pre6 enc Try.prog Try.f4 Rows.stripeBackRow.domain false) (Rows.stripeBackSpec.post enc Try.prog Try.f4 false true false false) := by
  refine returnsInHanded_of_change_sized (C := Try.checked) own started (by kernel_rfl) Try.func4
    (ChangeSpec.witness6 (enc := enc) (C := Try.checked) false ⟨#[], #[.slice none 0 0, .int .u8 0, .int .u8 0], []⟩ 8 (by kernel_rfl) (by kernel_rfl) (by kernel_rfl) (by kernel_rfl)) ?_
  intro W base args ds gs before hval0 hW hcnd hsz0 _
  have hval : ∀ (j : Nat) t v, Try.f4.params[j]? = some t → args[j]? = some v → Value.okWide Try.prog W .any base t v := hval0
  have hsz : (DataW.weightsEach Try.prog (Try.f4.params.toList ++ Rows.stripeBackSpec.plain.varTypes Try.prog) (ds ++ gs)).all (· ≤ reachBytes) = true := hsz0
  have hW' := hW
  obtain ⟨p, q, hA0, hV, rfl, hfz, hnd⟩ := hW
  have hA : DataW.TrodAll enc Try.prog W 0 (fun _ => true) true Try.f4.params.toList args.toList ds p := hA0
  rw [Try.params4] at hA hval hsz
  obtain ⟨v0, vs0, d0, ds0, p0, q0, hargs, rfl, rfl, h0, r0⟩ := trodAll_cons hA
  obtain ⟨v1, vs1, d1, ds1, p1, q1, rfl, rfl, rfl, h1, r1⟩ := trodAll_cons r0
  obtain ⟨v2, vs2, d2, ds2, p2, q2, rfl, rfl, rfl, h2, r2⟩ := trodAll_cons r1
  obtain ⟨rfl, rfl, rfl⟩ := trodAll_nil r2
  obtain rfl : args = #[v0, v1, v2] := by cases args; simp_all
  obtain ⟨rfl, rfl⟩ := trodVars_none hV
  obtain ⟨a0, len0, cap0, rfl⟩ := okWide_slice Try.underlying22 (hval 0 22 v0 rfl rfl)
  have k0 := h0
  have lt0 : ∀ x ∈ p0, x.block < W.heap.size := by obtain ⟨m, hm⟩ := k0; exact DataW.trod_lt m _ _ _ hm
  obtain ⟨f0, m0, z0, e0, g0⟩ := open_row h0
  have k1 := h1
  have lt1 : ∀ x ∈ p1, x.block < W.heap.size := by obtain ⟨m, hm⟩ := k1; exact DataW.trod_lt m _ _ _ hm
  obtain ⟨y1, rfl, _, _, w1⟩ := open_int Try.underlying5 (hval 1 5 v1 rfl rfl) h1
  have e1 : 0 ≤ y1 ∧ y1 ≤ 255 := by simpa [Lit.wf, IntKind.min, IntKind.max, IntKind.signed, IntKind.bits] using w1
  obtain ⟨x1, rfl⟩ : ∃ x : Nat, y1 = (x : Int) := ⟨y1.toNat, by omega⟩
  have k2 := h2
  have lt2 : ∀ x ∈ p2, x.block < W.heap.size := by obtain ⟨m, hm⟩ := k2; exact DataW.trod_lt m _ _ _ hm
  obtain ⟨y2, rfl, _, _, w2⟩ := open_int Try.underlying5 (hval 2 5 v2 rfl rfl) h2
  have e2 : 0 ≤ y2 ∧ y2 ≤ 255 := by simpa [Lit.wf, IntKind.min, IntKind.max, IntKind.signed, IntKind.bits] using w2
  obtain ⟨x2, rfl⟩ : ∃ x : Nat, y2 = (x : Int) := ⟨y2.toNat, by omega⟩
  clear hA0 hval0 hsz0
  refine (core a0 len0 cap0 f0 x1 x2 W m0 z0 e0 g0 (by omega) (by omega)).mono fun e W' ⟨he, bel⟩ => ?_
  subst he
  exact ⟨_, rfl, _, _, _, [], _, [], hW', trodAll_mk1 (shut_bool Try.underlying4 _), (trodAll_cons_mk (Below.trod laidOut (by kernel_rfl) (of_decide_eq_true (by kernel_rfl)) k0 bel lt0) (trodAll_cons_mk (Below.trod laidOut (by kernel_rfl) (of_decide_eq_true (by kernel_rfl)) k1 bel lt1) (trodAll_cons_mk (Below.trod laidOut (by kernel_rfl) (of_decide_eq_true (by kernel_rfl)) k2 bel lt2) trodAll_mk0))), rfl, bel.frame _, fun h => by cases h⟩

theorem over : Rows.stripeBackRow.holds Try.pinned (OpenSpec.ofChange Rows.stripeBackSpec) :=
  OpenClaim.holds_of_wide 4 Try.f4 rfl rfl rfl rfl rfl rfl rfl ⟨rfl, rfl, rfl, rfl, rfl⟩ rfl rfl rfl rfl rfl (by kernel_rfl) Try.func4 (by kernel_rfl)
    (of_decide_eq_true (by kernel_rfl)) (by unfold Func.isWrapper; first | (rw [if_pos (by decide +kernel)]; kernel_rfl) | (rw [if_neg (by decide +kernel)]; exact ⟨rfl, rfl⟩))
    (fun os started H enc _ => lifted os started H enc)

end stripeBack

/-- The statement. -/
theorem stripeBack_holds : Rows.StripeBackSaid := stripeBack.over
#print axioms stripeBack_holds
end Go.Proofs.Ytfifcghjbdooeaa
