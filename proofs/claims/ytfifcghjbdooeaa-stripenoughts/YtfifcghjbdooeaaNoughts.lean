/-
  What stands where noughts were is not looked at: for every row of bytes, every pair of numbers and every byte behind it that the law's arguments give, and without further condition.
-/
import Derived.Test.YtfifcghjbdooeaaRows
import Derived.WalkKit
import Derived.ProofKit
import Derived.OpenShut
import Derived.ShutString
import Derived.ChangeOld
import Derived.Below
import Derived.SizedLaws
import Derived.ChangeSame
import Derived.ChangeMaps5
import Derived.Test.YtfifcghjbdooeaaSpO
set_option maxRecDepth 100000
namespace Go.Proofs.Ytfifcghjbdooeaa
namespace stripeNoughts
open Go.ChangeShapes Go.WideShapes Go.ChangeAt Go.RowKit
set_option linter.unusedVariables false
attribute [local go_sem ↓] Go.wp_at_zero Go.wp_at_succ

theorem own : ownKnob Try.prog.godebug = none := by kernel_rfl
theorem laidOut : laidOutB Try.prog = true := by kernel_rfl

/-- A byte more at the end. -/
def more (f : Nat → Nat) (n z : Nat) : Nat → Nat := fun i => if i < n then f i else z
theorem more_lt {f : Nat → Nat} {n z : Nat} (hf : ∀ i, f i < 256) (hz : z < 256) (i : Nat) : more f n z i < 256 := by unfold more; split; exact hf _; exact hz

set_option maxHeartbeats 2000000 in
theorem core (a : Option Addr) (n c : Nat) (f : Nat → Nat) (x y z : Nat) (w : World) (hr : Row w a n f) (hnil : a = none → n = 0 ∧ c = 0) (hn : n ≤ maxLen) (hc : n ≤ c) (hx : x < 256) (hy : y < 256) (hz : z ≤ 255) :
    Calls Try.prog 6 #[.slice a n c, .agg #[.int .u8 x, .int .u8 y], .int .u8 z] w fun e w' => e = .returned (.bool true) ∧ Below w.heap.size w w' := by
  unfold maxLen at hn
  obtain ⟨k, hk⟩ : ∃ k, x % 9 + 1 = k := ⟨_, rfl⟩
  obtain ⟨b, hb⟩ : ∃ b, y % 20 + 1 = b := ⟨_, rfl⟩
  have ek : (1 : Int) + (x : Int) % 9 = (k : Int) := by omega
  have eb : (1 : Int) + (y : Int) % 20 = (b : Int) := by omega
  have hk1 : 1 ≤ k ∧ k ≤ 9 := by omega
  have hb1 : 1 ≤ b ∧ b ≤ 20 := by omega
  clear hk hb
  have HR : Hid (Row w a n f) := hr
  have HZ : Hid (a = none → n = 0 ∧ c = 0) := hnil
  clear hr hnil
  obtain ⟨W0, hW0⟩ : ∃ W0, w.alloc (.cells #[.int .u8 (x : Int), .int .u8 (y : Int)] 34) = W0 := ⟨_, rfl⟩
  have b0 : Below w.heap.size w W0 := by rw [← hW0]; exact bal _ _
  have x0 : W0.cell? ⟨w.heap.size, 0, none⟩ = some (.int .u8 (x : Int)) := by rw [← hW0, World.cell?_alloc_new]; rfl
  have x1 : W0.cell? ⟨w.heap.size, 1, none⟩ = some (.int .u8 (y : Int)) := by rw [← hW0, World.cell?_alloc_new]; rfl
  have aw := awake_any W0
  have HB0 : Hid (Below w.heap.size w W0) := b0
  have hs0 : w.heap.size < W0.heap.size := block_lt_of_cell x0
  clear b0
  go_enter Try.func6, Try.ntmps6
  go_wp2_with fail
  clear hW0
  go_at_call 8
  refine aw.mono ?_
  rintro e w1 ⟨rfl, b1⟩
  have HB1 : Hid (Below w.heap.size w w1) := hop HB0.out b1
  have y0 := (b1.cell (p := ⟨w.heap.size, 0, none⟩) hs0).trans x0
  have y1 := (b1.cell (p := ⟨w.heap.size, 1, none⟩) hs0).trans x1
  clear aw b1 x0 x1 HB0 hs0
  by_cases hbig : 3000 < n
  · have hbi : (3000 : Int) < (n : Int) := by omega
    go_wp2
    go_ret
    exact ⟨rfl, HB1.out⟩
  · have hbi : ¬ (3000 : Int) < (n : Int) := by omega
    clear hbig
    go_wp2
    go_quiet (fail)
    have HB2 : Hid (Below w.heap.size w (w1.drewN nq)) := hop HB1.out (bdn _ _)
    clear HB1 y0 y1
    generalize w1.drewN nq = w2 at *
    have hm : MayN n k b := by unfold MayN; omega
    have hm1 : MayN ((n + 1 : Nat) : Int) k b := by unfold MayN; omega
    have HM : Hid (MayN n k b) := hm
    have cS := split_yes a n c k b f w2 (HR.out.keep HB2.out) (fun e => (HZ.out e).1) hc hm
    go_wp2_with fail
    go_at_call 9
    refine cS.mono ?_
    rintro e w3 ⟨h, rfl, hh, g3, b3⟩
    have HB3 : Hid (Below w.heap.size w w3) := hop HB2.out b3
    have HG3 : Hid (Grid w3 h k (ln n k b) (spq f n k b n)) := g3
    clear cS HB2 g3 b3 hh
    have bl : Below w3.heap.size w3 (w3.alloc (.cells #[] 5)) := bal _ _
    obtain ⟨v5, w5, hr5, o5, b5⟩ := appendA (c := c) (Own.lit0 w3 f) ((HR.out.keep HB3.out).keep bl) HZ.out (by omega) (by have := bl.size; omega)
    rw [Nat.zero_add] at o5
    have o5' : Own w5 w3.heap.size v5 n (more f n z) := o5.congr fun i hi => by unfold cat more; rw [if_neg (by omega), if_pos hi]; rfl
    have hs5 := b5.size
    have hsl := bl.size
    obtain ⟨v6, w6, hr6, o6, b6⟩ := push1 (x := z) o5' (by omega) (by omega) (by omega) (by unfold more; rw [if_neg (by omega)])
    obtain ⟨g, c6, rfl, hg, hc6, hm6, r6⟩ := o6.row (by omega) (more_lt HR.out.lt (by omega))
    have HB6 : Hid (Below w3.heap.size w3 w6) := (bl.trans b5).trans b6
    have cT := split_yes (some ⟨g, 0, none⟩) (n + 1) c6 k b (more f n z) w6 r6 (fun e => by cases e) hc6 hm1
    have HA1 : Hid (Sem.run Try.prog (Builtin.append_ #[22, 22] 22 #[.slice (some ⟨w3.heap.size, 0, none⟩) 0 0, .slice a n c]) (w3.alloc (.cells #[] 5)) = .ok v5 w5) := hr5
    have HA2 : Hid (Sem.run Try.prog (Builtin.append_ #[22, 22] 22 #[v5, .slice (some ⟨w5.heap.size, 0, none⟩) 1 1]) (w5.alloc (.cells #[.int .u8 (z : Int)] 5)) = .ok (.slice (some ⟨g, 0, none⟩) (n + 1) c6) w6) := hr6
    clear hr5 hr6 o5 o5' o6 r6 hg bl b5 b6 hs5 hsl
    go_wp2_with (first
      | (at_builtin; refine wpList_append_ran (by rfl) _ _ 22 (by rfl) _ _ _ _ (by rfl) (by rfl) HA1.out ?_)
      | (at_builtin; refine wpList_append_ran (by rfl) _ _ 22 (by rfl) _ _ _ _ (by rfl) (by rfl) HA2.out ?_))
    go_at_call 9
    refine cT.mono ?_
    rintro e w7 ⟨h7, rfl, hh7, g7, b7⟩
    have HB7 : Hid (Below w.heap.size w w7) := hop HB3.out (hop HB6.out b7)
    have HG7 : Hid (Grid w7 h7 k (ln (n + 1) k b) (spq (more f n z) (n + 1) k b (n + 1))) := g7
    have HG37 : Hid (Grid w7 h k (ln n k b) (spq f n k b n)) := HG3.out.keep (hop HB6.out b7)
    have d0 := HG37.out.hdr 0 (by omega)
    have d1 := HG7.out.hdr 0 (by omega)
    have hl0 := ln_le n hk1.1 hb1.1
    have hl1 := ln_le (n + 1) hk1.1 hb1.1
    have ik : (0 : Int) < (k : Int) := by omega
    clear cT HB3 HG3 HB6 HA1 HA2 g7 b7 hh7
    by_cases hsame : ln (n + 1) k b = ln n k b
    · have HS : Hid (ln (n + 1) k b = ln n k b) := hsame
      rw [hsame] at d1 hl1
      obtain ⟨l, hl⟩ : ∃ l, ln n k b = l := ⟨_, rfl⟩
      have HLN : Hid (ln n k b = l) := hl
      rw [hl] at d0 d1 hl0 hl1
      clear hsame hl
      go_wp2
      go_quiet (fail)
      have HB8 : Hid (Below w.heap.size w (w7.drewN nq)) := hop HB7.out (bdn _ _)
      have HG8 : Hid (Grid (w7.drewN nq) h7 k (ln (n + 1) k b) (spq (more f n z) (n + 1) k b (n + 1))) := HG7.out.keep (bdn _ _)
      clear HB7 HG7 HG37 d0 d1
      generalize w7.drewN nq = w8 at *
      have hF : B (spq (more f n z) (n + 1) k b (n + 1)) := fun _ _ => spq_lt (more_lt HR.out.lt (by omega)) _ _ _ _ _ _
      have cJ := join_yes (some ⟨h7, 0, none⟩) n k k b _ _ _ _ w8 (HG8.out.mat (by rw [HS.out, HLN.out]; omega) hF) HM.out (fun _ _ => HS.out) (fun _ _ => Nat.le_refl _)
      go_wp2_with fail
      go_at_call 11
      refine cJ.mono ?_
      rintro e w9 ⟨rfl, m9, b9⟩
      have HB9 : Hid (Below w.heap.size w w9) := hop HB8.out b9
      have q1 := conv_row (c := n) (m9.row (fun i => jn_lt hF _ _ _ _)) (fun e => by cases e)
      have q2 := conv_row (c := c) (HR.out.keep HB9.out) (fun e => (HZ.out e).1)
      rw [str_congr (g := f) (fun i hi => by rw [jn_more hk1.1 hb1.1 hi HS.out]; unfold more; rw [if_pos hi])] at q1
      clear m9 b9 cJ hF HB8 HG8
      generalize str f n = S at *
      go_wp2
      go_ret
      exact ⟨rfl, HB9.out⟩
    · have hne : ((ln n k b : Nat) : Int) ≠ ((ln (n + 1) k b : Nat) : Int) := by omega
      clear hsame HG7 HG37
      generalize ln n k b = l at *
      generalize ln (n + 1) k b = l1 at *
      go_wp2
      go_quiet (fail)
      go_wp2
      go_ret
      exact ⟨rfl, hop HB7.out (bdn _ _)⟩


set_option maxRecDepth 100000 in
theorem lifted (os : Os) (started : os.Started) (H : Type) (enc : TypeId × Value → H) :
    ReturnsInHanded {} Try.checked os 6 .any (Rows.stripeNoughtsSpec.pre6 enc Try.prog Try.f6 Rows.stripeNoughtsRow.domain false) (Rows.stripeNoughtsSpec.post enc Try.prog Try.f6 false true false false) := by
  refine returnsInHanded_of_change_sized (C := Try.checked) own started (by kernel_rfl) Try.func6
    (ChangeSpec.witness6 (enc := enc) (C := Try.checked) false ⟨#[], #[.slice none 0 0, .agg #[.int .u8 0, .int .u8 0], .int .u8 0], []⟩ 8 (by kernel_rfl) (by kernel_rfl) (by kernel_rfl) (by kernel_rfl)) ?_
  intro W base args ds gs before hval0 hW hcnd hsz0 _
  have hval : ∀ (j : Nat) t v, Try.f6.params[j]? = some t → args[j]? = some v → Value.okWide Try.prog W .any base t v := hval0
  have hsz : (DataW.weightsEach Try.prog (Try.f6.params.toList ++ Rows.stripeNoughtsSpec.plain.varTypes Try.prog) (ds ++ gs)).all (· ≤ reachBytes) = true := hsz0
  have hW' := hW
  obtain ⟨p, q, hA0, hV, rfl, hfz, hnd⟩ := hW
  have hA : DataW.TrodAll enc Try.prog W 0 (fun _ => true) true Try.f6.params.toList args.toList ds p := hA0
  rw [Try.params6] at hA hval hsz
  obtain ⟨v0, vs0, d0, ds0, p0, q0, hargs, rfl, rfl, h0, r0⟩ := trodAll_cons hA
  obtain ⟨v1, vs1, d1, ds1, p1, q1, rfl, rfl, rfl, h1, r1⟩ := trodAll_cons r0
  obtain ⟨v2, vs2, d2, ds2, p2, q2, rfl, rfl, rfl, h2, r2⟩ := trodAll_cons r1
  obtain ⟨rfl, rfl, rfl⟩ := trodAll_nil r2
  obtain rfl : args = #[v0, v1, v2] := by cases args; simp_all
  obtain ⟨rfl, rfl⟩ := trodVars_none hV
  obtain ⟨a0, len0, cap0, rfl⟩ := okWide_slice Try.underlying22 (hval 0 22 v0 rfl rfl)
  have k0 := h0
  have lt0 : ∀ x ∈ p0, x.block < W.heap.size := by obtain ⟨m, hm⟩ := k0; exact DataW.trod_lt m _ _ _ hm
  obtain ⟨f0, m0, z0, e0, g0⟩ := open_row h0
  have k1 := h1
  have lt1 : ∀ x ∈ p1, x.block < W.heap.size := by obtain ⟨m, hm⟩ := k1; exact DataW.trod_lt m _ _ _ hm
  obtain ⟨x1, y1, e1, g1, rfl⟩ := open_pair8 (hval 1 34 v1 rfl rfl) h1
  have k2 := h2
  have lt2 : ∀ x ∈ p2, x.block < W.heap.size := by obtain ⟨m, hm⟩ := k2; exact DataW.trod_lt m _ _ _ hm
  obtain ⟨y2, rfl, _, _, w2⟩ := open_int Try.underlying5 (hval 2 5 v2 rfl rfl) h2
  have e2 : 0 ≤ y2 ∧ y2 ≤ 255 := by simpa [Lit.wf, IntKind.min, IntKind.max, IntKind.signed, IntKind.bits] using w2
  obtain ⟨x2, rfl⟩ : ∃ x : Nat, y2 = (x : Int) := ⟨y2.toNat, by omega⟩
  clear hA0 hval0 hsz0
  refine (core a0 len0 cap0 f0 x1 y1 x2 W m0 z0 e0 g0 e1 g1 (by omega)).mono fun e W' ⟨he, bel⟩ => ?_
  subst he
  exact ⟨_, rfl, _, _, _, [], _, [], hW', trodAll_mk1 (shut_bool Try.underlying4 _), (trodAll_cons_mk (Below.trod laidOut (by kernel_rfl) (of_decide_eq_true (by kernel_rfl)) k0 bel lt0) (trodAll_cons_mk (Below.trod laidOut (by kernel_rfl) (of_decide_eq_true (by kernel_rfl)) k1 bel lt1) (trodAll_cons_mk (Below.trod laidOut (by kernel_rfl) (of_decide_eq_true (by kernel_rfl)) k2 bel lt2) trodAll_mk0))), rfl, bel.frame _, fun h => by cases h⟩

theorem over : Rows.stripeNoughtsRow.holds Try.pinned (OpenSpec.ofChange Rows.stripeNoughtsSpec) :=
  OpenClaim.holds_of_wide 6 Try.f6 rfl rfl rfl rfl rfl rfl rfl ⟨rfl, rfl, rfl, rfl, rfl⟩ rfl rfl rfl rfl rfl (by kernel_rfl) Try.func6 (by kernel_rfl)
    (of_decide_eq_true (by kernel_rfl)) (by unfold Func.isWrapper; first | (rw [if_pos (by decide +kernel)]; kernel_rfl) | (rw [if_neg (by decide +kernel)]; exact ⟨rfl, rfl⟩))
    (fun os started H enc _ => lifted os started H enc)

end stripeNoughts

/-- The statement. -/
theorem stripeNoughts_holds : Rows.StripeNoughtsSaid := stripeNoughts.over
#print axioms stripeNoughts_holds
end Go.Proofs.Ytfifcghjbdooeaa
