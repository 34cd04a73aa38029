/-
  The law JournalReads of layer 7 (any bytes: the journal, or the first error) answers true for all bytes, where crc's table is as the program's text lays it.
-/
import Derived.Test.YtigjhdcinaefbaaDoorRows
import Derived.WalkKit
import Derived.ProofKit
import Derived.OpenShut
import Derived.ShutString
import Derived.ChangeOld
import Derived.Below
import Derived.SizedLaws
import Derived.LaidMore
import Derived.Stop.Joined
import Derived.SevenTiedAt
import Derived.Test.YtigjhdcinaefbaaDoorCards
import Derived.Test.YtigjhdcinaefbaaDoorTie
import Derived.Test.YtigjhdcinaefbaaDoorJnX
import Derived.Test.YtigjhdcinaefbaaDoorJnL
import Derived.Test.YtigjhdcinaefbaaDoorJnYb
import Derived.Test.YtigjhdcinaefbaaDoorLaid4
import Derived.Test.YtigjhdcinaefbaaDoorOp7
namespace Go.Proofs.YtigjhdcinaefbaaDoor
namespace journalReads
open Go.ChangeShapes Go.WideShapes Go.ChangeAt Go.RowKit Crc
set_option linter.unusedVariables false
attribute [local go_sem ↓] Go.wp_at_zero Go.wp_at_succ

theorem own : ownKnob Tryd.prog.godebug = none := by kernel_rfl
theorem laidOut : laidOutB Tryd.prog = true := by kernel_rfl


theorem jbad_one {n : Nat} {f : Nat → Nat} {c d : Int} (h : JBad n f c) (g : JBad n f d) : c = d := by
  rcases h with ⟨rfl, h1⟩ | ⟨rfl, h1⟩ | ⟨rfl, h1, h2, h3⟩ | ⟨rfl, h1, h2, h3, _⟩ | ⟨rfl, h1, h2, h3, _⟩ | ⟨rfl, h1, h2, h3, _⟩ <;>
  rcases g with ⟨rfl, k1⟩ | ⟨rfl, k1⟩ | ⟨rfl, k1, k2, k3⟩ | ⟨rfl, k1, k2, k3, _⟩ | ⟨rfl, k1, k2, k3, _⟩ | ⟨rfl, k1, k2, k3, _⟩ <;>
  first | rfl | (exfalso; omega) | (exfalso; exact h3 k3) | (exfalso; exact k3 h3)
theorem rdecode_any (a : Option Addr) (n c : Nat) (f : Nat → Nat) (w : World) (h : Row w a n f) (hn : n ≤ maxLen) (hc : n ≤ c) :
    Calls Tryd.prog 17 #[.slice a n c] w (RDecEnd n f w) := by
  by_cases h1 : 262144 < n ∨ n < 15 ∨ ¬ fit n f
  · exact rdecode_early a n c f w h hn hc h1
  have h3 : fit n f := Classical.byContradiction fun q => h1 (.inr (.inr q))
  have hlo : 15 ≤ n := by omega
  have hhi : n ≤ 262144 := by omega
  by_cases h4 : frm n f
  · exact rdecode_form a n c f w h hlo hhi hc h3 h4
  · exact rdecode_noform a n c f w h hlo hhi hc h3 h4
/-- Both Decodes answer with the same letters. -/
structure DecAs (n : Nat) (f : Nat → Nat) (cc t : Int) (s : ByteArray) (m : Nat) (F : Nat → Ver) : Prop where
  le : m ≤ 255
  fits : ∀ i, (F i).fits
  mine : ∀ w e w', DecEnd n f w e w' → Below w.heap.size w w' ∧ ∃ v, e = .returned (.tuple #[v, .int .i64 cc]) ∧ Jn w' v t s m F
  docs : ∀ w e w', RDecEnd n f w e w' → Below w.heap.size w w' ∧ ∃ v, e = .returned (.tuple #[v, .int .i64 cc]) ∧ Jn w' v t s m F
theorem nojn_jn (w : World) : Jn w nojn 0 noS 0 (fun _ => zeroV) := ⟨none, 0, rfl, ⟨fun _ => zeroV_fits, fun h => absurd h (by omega)⟩, fun _ => ⟨rfl, rfl⟩, Nat.le_refl _⟩
theorem dec_as (n : Nat) (f : Nat → Nat) (hf : ∀ i, f i < 256) : ∃ cc t s m F, DecAs n f cc t s m F := by
  rcases good_or n f with hg | ⟨c, hb⟩
  · refine ⟨0, ((rt f : Nat) : Int), str (fun i => f (10 + i)) (rk f), rc f, rF f, by have := hf (10 + rk f); unfold rc; omega, rF_fits hf, fun w e w' h => ?_, fun w e w' h => ?_⟩
    · obtain ⟨hB, ⟨_, g, rfl, hV⟩ | ⟨c, hc, _⟩⟩ := h
      · exact ⟨hB, _, rfl, _, _, rfl, hV.vs (rF_fits hf), (fun e => by cases e), Nat.le_refl _⟩
      · exact absurd hc (fun q => hg.not_bad q)
    · obtain ⟨hB, ⟨_, v, rfl, hJ⟩ | ⟨c, hc, _⟩⟩ := h
      · exact ⟨hB, v, rfl, hJ⟩
      · exact absurd hc (fun q => hg.not_bad q)
  · refine ⟨c, 0, noS, 0, fun _ => zeroV, by omega, fun _ => zeroV_fits, fun w e w' h => ?_, fun w e w' h => ?_⟩
    · obtain ⟨hB, ⟨hg, _⟩ | ⟨d, hd, rfl⟩⟩ := h
      · exact absurd hb (fun q => hg.not_bad q)
      · rw [jbad_one hd hb]; exact ⟨hB, _, rfl, nojn_jn _⟩
    · obtain ⟨hB, ⟨hg, _⟩ | ⟨d, hd, rfl⟩⟩ := h
      · exact absurd hb (fun q => hg.not_bad q)
      · rw [jbad_one hd hb]; exact ⟨hB, _, rfl, nojn_jn _⟩
open Classical in
set_option maxRecDepth 100000 in
set_option maxHeartbeats 8000000 in
theorem core (a : Option Addr) (n c : Nat) (f : Nat → Nat) (w : World) (T : HalfT w) (h : Row w a n f) (z : a = none → n = 0 ∧ c = 0) (hn : n ≤ maxLen) (hc : n ≤ c) :
    Calls Tryd.prog 4 #[.slice a n c] w fun e w' => e = .returned (.bool true) ∧ Below w.heap.size w w' := by
  have cA := awake_any w T
  have T0 : Hid (HalfT w) := T
  have R0 : Hid (Row w a n f) := h
  have hN := hn
  unfold maxLen at hn
  clear T h z
  go_enter Tryd.func4, Tryd.ntmps4
  go_wp2_with fail
  go_at_call 9
  refine cA.mono ?_
  rintro e w1 ⟨rfl, b1⟩
  clear cA
  by_cases h2 : 20000 < n
  · have g1 : (20000 : Int) < (n : Int) := by omega
    go_wp2
    go_ret
    exact ⟨rfl, b1⟩
  have g1 : decide ((20000 : Int) < (n : Int)) = false := decide_eq_false (by omega)
  obtain ⟨cc, t, s, m, F, hD⟩ := dec_as n f R0.out.lt
  have T1 : HalfT w1 := T0.out.keep b1
  have R1 : Hid (Row w1 a n f) := R0.out.keep b1
  have HB1 : Hid (Below w.heap.size w w1) := b1
  have cD : Calls Tryd.prog 16 #[.slice a n c] w1 fun e w' => Below w1.heap.size w1 w' ∧ ∃ a' c', e = .returned (.tuple #[.agg #[.int .i64 t, .string s, .slice a' m c'], .int .i64 cc]) ∧ Vs w' a' m F ∧ (a' = none → m = 0 ∧ c' = 0) := by
    refine (decode_any a n c f w1 T1 R1.out hN hc).mono ?_
    intro e w' h
    obtain ⟨hB, v, rfl, a', c', rfl, hv, z, _⟩ := hD.mine _ _ _ h
    exact ⟨hB, a', c', rfl, hv, z⟩
  have HD : Hid (DecAs n f cc t s m F) := hD
  clear hD T1 T0 R0 b1 h2
  go_wp2_with fail
  go_at_call 16
  refine cD.mono ?_
  rintro e w2 ⟨b2, a2, c2, rfl, v2, z2⟩
  clear cD
  obtain ⟨W2, hW2, hj2, bW2⟩ := box_jn w2 31 t s (.slice a2 m c2)
  have R2 : Hid (Row W2 a n f) := R1.out.keep (hop b2 bW2)
  have HB2 : Hid (Below w.heap.size w W2) := hop HB1.out (hop b2 bW2)
  have V2 : Hid (Vs W2 a2 m F) := v2.keep bW2
  have J2 : Hid (JAt W2 w2.heap.size t s (.slice a2 m c2)) := hj2
  have cR : Calls Tryd.prog 17 #[.slice a n c] W2 fun e w' => Below W2.heap.size W2 w' ∧ ∃ a' c', e = .returned (.tuple #[.agg #[.int .i64 t, .string s, .slice a' m c'], .int .i64 cc]) ∧ Vs w' a' m F := by
    refine (rdecode_any a n c f W2 R2.out hN hc).mono ?_
    intro e w' h
    obtain ⟨hB, v, rfl, a', c', rfl, hv, z, _⟩ := HD.out.docs _ _ _ h
    exact ⟨hB, a', c', rfl, hv⟩
  have hm := HD.out.le
  obtain ⟨p0, p1, p2⟩ := hj2
  clear v2 bW2 b2 HB1 R1
  go_wp2_with fail
  go_at_call 17
  refine cR.mono ?_
  rintro e w3 ⟨b3, a3, c3, rfl, v3⟩
  clear cR p0 p1 p2
  obtain ⟨W3, hW3, hj3, bW3⟩ := box_jn w3 24 t s (.slice a3 m c3)
  obtain ⟨p0, p1, p2⟩ := hj3
  have hj3 : JAt W3 w3.heap.size t s (.slice a3 m c3) := ⟨p0, p1, p2⟩
  have b23 := hop b3 bW3
  have hj4 := J2.out.keep b23
  have HS : Hid (∀ X, Below W3.heap.size W3 X → (X.cell? ⟨w2.heap.size, 0, none⟩ = some (.int .i64 t) ∧ X.cell? ⟨w2.heap.size, 1, none⟩ = some (.string s) ∧ X.cell? ⟨w2.heap.size, 2, none⟩ = some (.slice a2 m c2)) ∧ X.cell? ⟨w3.heap.size, 0, none⟩ = some (.int .i64 t) ∧ X.cell? ⟨w3.heap.size, 1, none⟩ = some (.string s) ∧ X.cell? ⟨w3.heap.size, 2, none⟩ = some (.slice a3 m c3)) := fun X hX => by
    have h1 := hj4.keep hX
    have h2 := hj3.keep hX
    exact ⟨⟨h1.c0, h1.c1, h1.c2⟩, h2.c0, h2.c1, h2.c2⟩
  have bD : Below W3.heap.size W3 W3.drew := (Below.refl _ _).drew
  have hv2 := V2.out.keep (hop b23 bD)
  have hv3 := v3.keep bW3
  have K : Hid (Calls Tryd.prog 19 #[.agg #[.int .i64 t, .string s, .slice a2 m c2]] W3.drew fun e w9 => ∃ a9 c9, e = .returned (.agg #[.int .i64 t, .string s, .slice a9 m c9]) ∧ Below W3.heap.size W3 w9 ∧ Calls Tryd.prog 18 #[.agg #[.int .i64 t, .string s, .slice a9 m c9], .agg #[.int .i64 t, .string s, .slice a3 m c3]] w9 fun e w' => e = .returned (.bool true) ∧ Below W3.heap.size W3 w') := by
    refine (back_any t s a2 m c2 F W3.drew hv2 z2 (by omega)).mono ?_
    rintro e w9 ⟨v9, rfl, ⟨a9, c9, rfl, hv9, _, _⟩, b9⟩
    refine ⟨a9, c9, rfl, hop bD b9, ?_⟩
    refine (rsame_any a9 a3 m m c9 c3 t t s s F F w9 hv9 (hv3.keep (hop bD b9)) (by unfold maxLen; omega) (by unfold maxLen; omega)).mono ?_
    rintro e w' ⟨rfl, b'⟩
    rw [decide_eq_true (show SameJ t t s s m m F F from ⟨rfl, rfl, rfl, fun i hi => rfl⟩)]
    exact ⟨rfl, hop (hop bD b9) b'⟩
  have q0 := HS.out W3.drew bD
  obtain ⟨⟨q1, q2, q3⟩, q4, q5, q6⟩ := q0
  have HB5 : Hid (Below w.heap.size w W3) := hop HB2.out b23
  have gcc : (cc == cc) = true := beq_self_eq_true cc
  clear V2 J2 HB2 b23 b3 bW3 hj3 hj4 hv2 hv3 v3 z2 bD HD R2
  go_wp2_with fail
  go_region_held3 (fun X => (X.cell? ⟨w2.heap.size, 0, none⟩ = some (.int .i64 t) ∧ X.cell? ⟨w2.heap.size, 1, none⟩ = some (.string s) ∧ X.cell? ⟨w2.heap.size, 2, none⟩ = some (.slice a2 m c2)) ∧ X.cell? ⟨w3.heap.size, 0, none⟩ = some (.int .i64 t) ∧ X.cell? ⟨w3.heap.size, 1, none⟩ = some (.string s) ∧ X.cell? ⟨w3.heap.size, 2, none⟩ = some (.slice a3 m c3))
    (first | with_reducible exact ⟨⟨q1, q2, q3⟩, q4, q5, q6⟩ | with_reducible exact HS.out _ y3 | with_reducible exact HS.out _ y1)
    (first
      | (go_at_call 19; with_reducible refine K.out.mono ?_; rintro e w9 ⟨a9, c9, rfl, y1, y2⟩)
      | (go_at_call 18; with_reducible refine y2.mono ?_; rintro e w10 ⟨rfl, y3⟩))
  all_goals
    go_wp2
    go_ret
    exact ⟨rfl, hop HB5.out y3⟩


set_option maxRecDepth 100000 in
theorem lifted (os : Os) (started : os.Started) (H : Type) (enc : TypeId × Value → H) :
    ReturnsInHanded {} Tryd.checked os 4 .any (fun w args => (Rows.journalReadsSpec.pre enc Tryd.prog Tryd.f4 [] false w args ∧ laidMetH Tryd.prog laidAll w) ∧ sizedMet enc Tryd.prog Tryd.f4 (OpenSpec.ofChange Rows.journalReadsSpec) false w args) (Rows.journalReadsSpec.post enc Tryd.prog Tryd.f4 false true false false) := by
  refine returnsInHanded_of_change_and (C := Tryd.checked) (X := fun w _ => laidMetH Tryd.prog laidAll w) (fun _ _ _ hh h => h.of_heap hh) own started (by kernel_rfl) Tryd.func4
    (ChangeSpec.witness_shaped (enc := enc) (C := Tryd.checked) (os := os) (X := fun w _ => laidMetH Tryd.prog laidAll w) false (World.doorLaid Tryd.prog 400 os) #[.slice none 0 0] 8 rfl (World.shaped_of_RefB (by kernel_rfl) (by kernel_rfl)) (by kernel_rfl) (by kernel_rfl) (by kernel_rfl) (door_met os _)) ?_
  intro W base args ds gs before hval0 hW _ hsz0 hL _
  have hval : ∀ (j : Nat) t v, Tryd.f4.params[j]? = some t → args[j]? = some v → Value.okWide Tryd.prog W .any base t v := hval0
  have hW' := hW
  obtain ⟨p, q, hA0, hV, rfl, hfz, hnd⟩ := hW
  have hA : DataW.TrodAll enc Tryd.prog W 0 (fun _ => true) true Tryd.f4.params.toList args.toList ds p := hA0
  rw [Tryd.params4] at hA hval
  have T := halfT_of hL
  obtain ⟨v0, vs0, d0, ds0, p0, q0, hargs, rfl, rfl, h0, r0⟩ := trodAll_cons hA
  obtain ⟨rfl, rfl, rfl⟩ := trodAll_nil r0
  obtain rfl : args = #[v0] := by cases args; simp_all
  obtain ⟨rfl, rfl⟩ := trodVars_none hV
  obtain ⟨a0, len0, cap0, rfl⟩ := okWide_slice Tryd.underlying27 (hval 0 27 v0 rfl rfl)
  have k0 := h0
  have lt0 : ∀ x ∈ p0, x.block < W.heap.size := by obtain ⟨m, hm⟩ := k0; exact DataW.trod_lt m _ _ _ hm
  obtain ⟨f0, m0, z0, e0, c0⟩ := open_row h0
  clear hA0 hval0 hsz0 hL
  refine (core a0 len0 cap0 f0 W T m0 z0 e0 c0).mono fun e W' ⟨he, bel⟩ => ?_
  subst he
  exact ⟨_, rfl, _, _, _, [], _, [], hW', trodAll_mk1 (shut_bool Tryd.underlying4 _), (trodAll_cons_mk (Below.trod laidOut (by kernel_rfl) (of_decide_eq_true (by kernel_rfl)) k0 bel lt0) trodAll_mk0), rfl, bel.frame _, fun h => by cases h⟩

theorem over : Rows.journalReadsRow.holds Tryd.pinned (OpenSpec.ofChange Rows.journalReadsSpec) :=
  OpenClaim.holds_of_wide 4 Tryd.f4 rfl rfl rfl rfl rfl rfl rfl ⟨rfl, rfl, rfl, rfl, rfl⟩ rfl rfl rfl rfl rfl (by kernel_rfl) Tryd.func4 (by kernel_rfl)
    (of_decide_eq_true (by kernel_rfl)) (by unfold Func.isWrapper; first | (rw [if_pos (by decide +kernel)]; kernel_rfl) | (rw [if_neg (by decide +kernel)]; exact ⟨rfl, rfl⟩))
    (fun os started H enc _ => lifted os started H enc)

end journalReads

/-- The statement. -/
theorem journalReads_holds : Rows.JournalReadsCardSaid :=
  Claim7.holds_tied_plain_at .later [] [.data] true (true, "b01ff8a6c8b92320785ce916cd8b28e8ad0e0f9566158e0aa5de0e22eeab96d7") false
    journalReads.over (fun _ h => by cases h) (by kernel_rfl) (fun _ h => by cases h) journalReads_row_tie rfl ⟨rfl, rfl⟩ (by kernel_rfl) rfl
    (fun f fn hf hfn => by
      obtain rfl : f = 4 := Option.some.inj ((show Tryd.prog.funcNamed "strongbox/strongboxlaw7.JournalReads" = some 4 by kernel_rfl).symm.trans hf) |>.symm
      obtain rfl : fn = Tryd.f4 := (Option.some.inj (Tryd.func4.symm.trans hfn)).symm
      exact ⟨by kernel_rfl, fun j t ht => by
        rw [Tryd.params4] at ht
        have hm : t ∈ [27] := by simpa using Array.mem_of_getElem? ht
        have hall : ([27].all fun u => !Tryd.prog.wantsStandIn u) = true := by kernel_rfl
        exact (show Tryd.prog.wantsStandIn t = false by simpa using List.all_eq_true.1 hall t hm)⟩)
    (by kernel_rfl)
#print axioms journalReads_holds
end Go.Proofs.YtigjhdcinaefbaaDoor
