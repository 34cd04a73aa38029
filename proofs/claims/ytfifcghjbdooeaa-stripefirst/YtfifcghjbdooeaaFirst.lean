/-
  Row by row, stripe by stripe, all bytes stand in order, and what is beyond is noughts: for every row of bytes, number of rows and block that the law's arguments give, and without further condition.
-/
import Derived.Test.YtfifcghjbdooeaaRows
import Derived.WalkKit
import Derived.ProofKit
import Derived.OpenShut
import Derived.ShutString
import Derived.ChangeOld
import Derived.Below
import Derived.SizedLaws
import Derived.ChangeSame
import Derived.ChangeMaps5
import Derived.Test.YtfifcghjbdooeaaSpO
import Derived.Test.YtfifcghjbdooeaaSpF
set_option maxRecDepth 100000
namespace Go.Proofs.Ytfifcghjbdooeaa
namespace stripeFirst
open Go.ChangeShapes Go.WideShapes Go.ChangeAt Go.RowKit
set_option linter.unusedVariables false
attribute [local go_sem ↓] Go.wp_at_zero Go.wp_at_succ

theorem own : ownKnob Try.prog.godebug = none := by kernel_rfl
theorem laidOut : laidOutB Try.prog = true := by kernel_rfl

set_option maxHeartbeats 4000000 in
theorem core (a : Option Addr) (n c : Nat) (f : Nat → Nat) (x y : Nat) (w : World) (hr : Row w a n f) (hnil : a = none → n = 0 ∧ c = 0) (hn : n ≤ maxLen) (hc : n ≤ c) (hx : x ≤ 255) (hy : y ≤ 255) :
    Calls Try.prog 5 #[.slice a n c, .int .u8 x, .int .u8 y] w fun e w' => e = .returned (.bool true) ∧ Below w.heap.size w w' := by
  unfold maxLen at hn
  obtain ⟨k, hk⟩ : ∃ k, x % 9 + 1 = k := ⟨_, rfl⟩
  obtain ⟨b, hb⟩ : ∃ b, y % 20 + 1 = b := ⟨_, rfl⟩
  have ek : (1 : Int) + (x : Int) % 9 = (k : Int) := by omega
  have eb : (1 : Int) + (y : Int) % 20 = (b : Int) := by omega
  have hk1 : 1 ≤ k ∧ k ≤ 9 := by omega
  have hb1 : 1 ≤ b ∧ b ≤ 20 := by omega
  clear hk hb
  have HR : Hid (Row w a n f) := hr
  have HZ : Hid (a = none → n = 0) := fun e => (hnil e).1
  have aw := awake_any w
  clear hr hnil
  go_enter Try.func5, Try.ntmps5
  go_wp2_with fail
  go_at_call 8
  refine aw.mono ?_
  rintro e w1 ⟨rfl, b1⟩
  have HB1 : Hid (Below w.heap.size w w1) := b1
  clear aw b1
  by_cases hbig : 3000 < n
  · have hbi : (3000 : Int) < (n : Int) := by omega
    go_wp2
    go_ret
    exact ⟨rfl, HB1.out⟩
  · have hbi : ¬ (3000 : Int) < (n : Int) := by omega
    have hm : MayN n k b := by unfold MayN; omega
    have cS := split_yes a n c k b f w1 (HR.out.keep HB1.out) HZ.out hc hm
    clear hbig
    go_wp2_with fail
    go_at_call 9
    refine cS.mono ?_
    rintro e w2 ⟨h, rfl, hh, g2, b2⟩
    have HB2 : Hid (Below w.heap.size w w2) := hop HB1.out b2
    obtain ⟨l, hle⟩ : ∃ l, ln n k b = l := ⟨_, rfl⟩
    have HLN : Hid (ln n k b = l) := hle
    have HG : Hid (Grid w2 h k l (spq f n k b n)) := by rw [← hle]; exact g2
    have HKL : Hid (n ≤ k * l ∧ k * l < n + k) := by rw [← hle]; exact ln_mul n hk1.1 hb1.1
    have hl : l ≤ n := by rw [← hle]; exact ln_le n hk1.1 hb1.1
    have d0 := HG.out.hdr 0 (by omega)
    have HRW : Hid (Row w2 a n f) := HR.out.keep HB2.out
    have ik0 : (0 : Int) < (k : Int) := by omega
    clear cS HB1 g2 b2 hle hm hh
    go_wp2
    clear d0
    -- stripe by stripe
    go_loopg [11, 13] l (fun kx v11 v13 wr => ∃ s t, Hid (s * b = t) ∧ t ≤ 4000 ∧ v13 = .int .i64 ((t : Nat) : Int) ∧ (∃ p, v11 = .int .i64 ((p : Nat) : Int) ∧ Hid (p = k * min l t) ∧ p ≤ 40000) ∧ l - t ≤ kx ∧ wr = w2)
    case atStart => exact ⟨0, 0, by show 0 * b = 0; omega, by omega, by simp, ⟨0, rfl, by show 0 = k * min l 0; rw [Nat.min_eq_right (by omega), Nat.mul_zero], by omega⟩, by omega, rfl⟩
    case round =>
    obtain ⟨s, t, HT, ht, rfl, ⟨p, rfl, HP, hp⟩, hkx, rfl⟩ := hrel
    obtain ⟨g0, hg0⟩ : ∃ g0, g0 = gk := ⟨_, rfl⟩
    rw [← hg0] at hkx
    have HG00 : Hid (g0 = gk) := hg0
    clear hg0
    by_cases hlt : t < l
    · have htl : (t : Int) < (l : Int) := by omega
      have HX : Hid (∃ x, x = min b (l - t) ∧ x = wd (n - s * (k * b)) k b ∧ 1 ≤ x ∧ t + x ≤ l ∧ s * (k * b) = k * t ∧ s * (k * b) < n) := by
        have q1 : s * (k * b) < n := by
          rcases Nat.lt_or_ge (s * (k * b)) n with e | e
          · exact e
          · have := ln_done hk1.1 hb1.1 e
            rw [HLN.out, HT.out] at this; omega
        have q2 := wd_ln hk1.1 hb1.1 (Nat.le_of_lt q1)
        rw [HLN.out, HT.out] at q2
        have q3 := wd_pos (r := n - s * (k * b)) hk1.1 hb1.1 (by omega)
        exact ⟨min b (l - t), rfl, q2.symm, by omega, by omega, by rw [← HT.out, mul3], q1⟩
      obtain ⟨x1, hx1, hx2, hx3, hx4, hx5, hx6⟩ := HX.out
      have HX5 : Hid (s * (k * b) = k * t) := hx5
      have HX2 : Hid (x1 = wd (n - s * (k * b)) k b) := hx2
      have HX1 : Hid (x1 = min b (l - t)) := hx1
      have hmin : (if (l : Int) - (t : Int) < (b : Int) then (l : Int) - (t : Int) else (b : Int)) = (x1 : Int) := by split <;> omega
      have HP2 : Hid (p = k * t + 0 * x1) := by
        have := HP.out
        rw [Nat.min_eq_right (by omega)] at this
        show p = k * t + 0 * x1
        omega
      have hx20 : x1 ≤ 20 := by omega
      clear HX hx1 hx2 hx5 hx6 HP
      have HKX1 : Hid (k * t + k * x1 ≤ 3009) := by
        have q : k * (t + x1) ≤ k * l := Nat.mul_le_mul_left k hx4
        rw [Nat.mul_add] at q
        have := HKL.out
        show k * t + k * x1 ≤ 3009
        omega
      go_wp2
      -- row by row
      go_loopg [11, 15] k (fun kx v11 v15 wo => ∃ i, i ≤ k ∧ k - i ≤ kx ∧ v15 = .int .i64 ((i : Nat) : Int) ∧ (∃ p, v11 = .int .i64 ((p : Nat) : Int) ∧ Hid (p = k * t + i * x1) ∧ p ≤ 40000) ∧ wo = wr)
      case atStart => exact ⟨0, by omega, by omega, by simp, ⟨p, rfl, HP2, hp⟩, rfl⟩
      case round =>
      obtain ⟨i, hi, hkx2, rfl, ⟨p2, rfl, HP3, hp3⟩, rfl⟩ := hrel
      obtain ⟨g1, hg1⟩ : ∃ g1, g1 = gk := ⟨_, rfl⟩
      have HG11 : Hid (g1 = gk) := hg1
      rw [← hg1] at hkx2
      clear hg1 HP2 hp
      by_cases hik : i < k
      · have ik : (i : Int) < (k : Int) := by omega
        have HIX : Hid (k * t + (i + 1) * x1 ≤ 3009) := by
          have q : (i + 1) * x1 ≤ k * x1 := Nat.mul_le_mul_right x1 hik
          have := HKX1.out
          show k * t + (i + 1) * x1 ≤ 3009
          omega
        have HP4 : Hid (p2 = k * t + i * x1 + 0) := by show p2 = k * t + i * x1 + 0; exact HP3.out
        go_wp2
        rename World => wo
        -- byte by byte
        go_loopg [11, 16] x1 (fun kx v11 v16 wz => ∃ o, o ≤ x1 ∧ x1 - o ≤ kx ∧ v16 = .int .i64 ((t + o : Nat) : Int) ∧ (∃ p, v11 = .int .i64 ((p : Nat) : Int) ∧ Hid (p = k * t + i * x1 + o) ∧ p ≤ 40000) ∧ wz = wo)
        case atStart => exact ⟨0, by omega, by omega, by simp, ⟨p2, rfl, HP4, hp3⟩, rfl⟩
        case round =>
        obtain ⟨o, ho, hkx3, rfl, ⟨p4, rfl, HP5, hp5⟩, rfl⟩ := hrel
        clear HP4 HP3 hp3
        obtain ⟨jj, hjj⟩ : ∃ jj, t + o = jj := ⟨_, rfl⟩
        have HJ : Hid (t + o = jj) := hjj
        rw [hjj]
        by_cases hox : o < x1
        · have hjt : (jj : Int) < (t : Int) + (x1 : Int) := by omega
          have hjl : (jj : Int) < (l : Int) := by omega
          have ck := HG.out.hdr i hik
          have cj := HG.out.cell i hik jj (by omega)
          have hp40 : p4 ≤ 3009 := by
            have := HIX.out
            rw [Nat.add_mul, Nat.one_mul] at this
            have := HP5.out
            omega
          have HP6 : Hid (p4 + 1 = k * t + i * x1 + (o + 1)) := by have := HP5.out; show p4 + 1 = k * t + i * x1 + (o + 1); omega
          have hpos : spq f n k b n i jj = if p4 < n then f p4 else 0 := by
            have e := pos_at (n := n) (k := k) (B := b) (s := s) (i := i) (o := o) (by have := HX1.out; omega)
            rw [← HX2.out, HX5.out, HT.out, HJ.out, ← HP5.out] at e
            unfold spq
            rw [e]
          by_cases hpn : p4 < n
          · have hpn' : (p4 : Int) < (n : Int) := by omega
            rw [if_pos hpn] at hpos
            rw [hpos] at cj
            obtain ⟨db, dof, rfl, hd⟩ := HRW.out.lies (by omega)
            have dk := hd p4 hpn
            have hf8 := HRW.out.lt p4
            clear hd hpos
            generalize f p4 = fv at *
            go_wp2
            go_roundg (x1 - (o + 1))
            case measure => omega
            case rel => exact ⟨o + 1, by omega, by omega, by rw [← hjj]; go_num, ⟨p4 + 1, by go_num, HP6, by omega⟩, rfl⟩
          · have hpn' : ¬ (p4 : Int) < (n : Int) := by omega
            rw [if_neg hpn] at hpos
            rw [hpos] at cj
            clear hpos
            go_wp2
            go_roundg (x1 - (o + 1))
            case measure => omega
            case rel => exact ⟨o + 1, by omega, by omega, by rw [← hjj]; go_num, ⟨p4 + 1, by go_num, HP6, by omega⟩, rfl⟩
        · have hjt : ¬ (jj : Int) < (t : Int) + (x1 : Int) := by omega
          have HP7 : Hid (p4 = k * t + (i + 1) * x1) := by
            have e : o = x1 := by omega
            have := HP5.out
            rw [e] at this
            show p4 = k * t + (i + 1) * x1
            rw [Nat.add_mul, Nat.one_mul]; omega
          clear HP5 hp5 hox ho hkx3
          have hp7 : p4 ≤ 40000 := by have := HP7.out; have := HIX.out; omega
          go_wp2
          go_roundg (k - (i + 1))
          case measure => have := HG11.out; omega
          case rel => exact ⟨i + 1, by omega, by omega, by go_num, ⟨p4, rfl, HP7, hp7⟩, rfl⟩
      · have ik : ¬ (i : Int) < (k : Int) := by omega
        have HP8 : Hid (p2 = k * min l (t + b)) := by
          have e : i = k := by omega
          have := HP3.out
          have := HX1.out
          rw [e, ← Nat.mul_add] at *
          show p2 = k * min l (t + b)
          have e2 : min l (t + b) = t + x1 := by omega
          rw [e2]; assumption
        have HS8 : Hid ((s + 1) * b = t + b) := by show (s + 1) * b = t + b; rw [Nat.add_mul, Nat.one_mul, HT.out]
        clear HP3 hi hkx2 hik
        go_wp2
        go_roundg (g0 - 1)
        case measure => have := HG00.out; omega
        case rel => exact ⟨s + 1, t + b, HS8, by omega, by go_num, ⟨p2, rfl, HP8, hp3⟩, by omega, rfl⟩
    · have htl : ¬ (t : Int) < (l : Int) := by omega
      have hge : (n : Int) ≤ (p : Int) := by
        have := HP.out
        rw [Nat.min_eq_left (by omega)] at this
        have := HKL.out
        omega
      clear HP
      go_wp2
      go_ret
      exact ⟨rfl, HB2.out⟩


set_option maxRecDepth 100000 in
theorem lifted (os : Os) (started : os.Started) (H : Type) (enc : TypeId × Value → H) :
    ReturnsInHanded {} Try.checked os 5 .any (Rows.stripeFirstSpec.pre6 enc Try.prog Try.f5 Rows.stripeFirstRow.domain false) (Rows.stripeFirstSpec.post enc Try.prog Try.f5 false true false false) := by
  refine returnsInHanded_of_change_sized (C := Try.checked) own started (by kernel_rfl) Try.func5
    (ChangeSpec.witness6 (enc := enc) (C := Try.checked) false ⟨#[], #[.slice none 0 0, .int .u8 0, .int .u8 0], []⟩ 8 (by kernel_rfl) (by kernel_rfl) (by kernel_rfl) (by kernel_rfl)) ?_
  intro W base args ds gs before hval0 hW hcnd hsz0 _
  have hval : ∀ (j : Nat) t v, Try.f5.params[j]? = some t → args[j]? = some v → Value.okWide Try.prog W .any base t v := hval0
  have hsz : (DataW.weightsEach Try.prog (Try.f5.params.toList ++ Rows.stripeFirstSpec.plain.varTypes Try.prog) (ds ++ gs)).all (· ≤ reachBytes) = true := hsz0
  have hW' := hW
  obtain ⟨p, q, hA0, hV, rfl, hfz, hnd⟩ := hW
  have hA : DataW.TrodAll enc Try.prog W 0 (fun _ => true) true Try.f5.params.toList args.toList ds p := hA0
  rw [Try.params5] at hA hval hsz
  obtain ⟨v0, vs0, d0, ds0, p0, q0, hargs, rfl, rfl, h0, r0⟩ := trodAll_cons hA
  obtain ⟨v1, vs1, d1, ds1, p1, q1, rfl, rfl, rfl, h1, r1⟩ := trodAll_cons r0
  obtain ⟨v2, vs2, d2, ds2, p2, q2, rfl, rfl, rfl, h2, r2⟩ := trodAll_cons r1
  obtain ⟨rfl, rfl, rfl⟩ := trodAll_nil r2
  obtain rfl : args = #[v0, v1, v2] := by cases args; simp_all
  obtain ⟨rfl, rfl⟩ := trodVars_none hV
  obtain ⟨a0, len0, cap0, rfl⟩ := okWide_slice Try.underlying22 (hval 0 22 v0 rfl rfl)
  have k0 := h0
  have lt0 : ∀ x ∈ p0, x.block < W.heap.size := by obtain ⟨m, hm⟩ := k0; exact DataW.trod_lt m _ _ _ hm
  obtain ⟨f0, m0, z0, e0, g0⟩ := open_row h0
  have k1 := h1
  have lt1 : ∀ x ∈ p1, x.block < W.heap.size := by obtain ⟨m, hm⟩ := k1; exact DataW.trod_lt m _ _ _ hm
  obtain ⟨y1, rfl, _, _, w1⟩ := open_int Try.underlying5 (hval 1 5 v1 rfl rfl) h1
  have e1 : 0 ≤ y1 ∧ y1 ≤ 255 := by simpa [Lit.wf, IntKind.min, IntKind.max, IntKind.signed, IntKind.bits] using w1
  obtain ⟨x1, rfl⟩ : ∃ x : Nat, y1 = (x : Int) := ⟨y1.toNat, by omega⟩
  have k2 := h2
  have lt2 : ∀ x ∈ p2, x.block < W.heap.size := by obtain ⟨m, hm⟩ := k2; exact DataW.trod_lt m _ _ _ hm
  obtain ⟨y2, rfl, _, _, w2⟩ := open_int Try.underlying5 (hval 2 5 v2 rfl rfl) h2
  have e2 : 0 ≤ y2 ∧ y2 ≤ 255 := by simpa [Lit.wf, IntKind.min, IntKind.max, IntKind.signed, IntKind.bits] using w2
  obtain ⟨x2, rfl⟩ : ∃ x : Nat, y2 = (x : Int) := ⟨y2.toNat, by omega⟩
  clear hA0 hval0 hsz0
  refine (core a0 len0 cap0 f0 x1 x2 W m0 z0 e0 g0 (by omega) (by omega)).mono fun e W' ⟨he, bel⟩ => ?_
  subst he
  exact ⟨_, rfl, _, _, _, [], _, [], hW', trodAll_mk1 (shut_bool Try.underlying4 _), (trodAll_cons_mk (Below.trod laidOut (by kernel_rfl) (of_decide_eq_true (by kernel_rfl)) k0 bel lt0) (trodAll_cons_mk (Below.trod laidOut (by kernel_rfl) (of_decide_eq_true (by kernel_rfl)) k1 bel lt1) (trodAll_cons_mk (Below.trod laidOut (by kernel_rfl) (of_decide_eq_true (by kernel_rfl)) k2 bel lt2) trodAll_mk0))), rfl, bel.frame _, fun h => by cases h⟩

theorem over : Rows.stripeFirstRow.holds Try.pinned (OpenSpec.ofChange Rows.stripeFirstSpec) :=
  OpenClaim.holds_of_wide 5 Try.f5 rfl rfl rfl rfl rfl rfl rfl ⟨rfl, rfl, rfl, rfl, rfl⟩ rfl rfl rfl rfl rfl (by kernel_rfl) Try.func5 (by kernel_rfl)
    (of_decide_eq_true (by kernel_rfl)) (by unfold Func.isWrapper; first | (rw [if_pos (by decide +kernel)]; kernel_rfl) | (rw [if_neg (by decide +kernel)]; exact ⟨rfl, rfl⟩))
    (fun os started H enc _ => lifted os started H enc)

end stripeFirst

/-- The statement. -/
theorem stripeFirst_holds : Rows.StripeFirstSaid := stripeFirst.over
#print axioms stripeFirst_holds
end Go.Proofs.Ytfifcghjbdooeaa
