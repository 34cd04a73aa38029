/-
  The law JournalWrites of layer 7 (any journal: whether it may be, and its bytes) answers true for all journals, where crc's table is as the program's text lays it.
-/
import Derived.Test.YtigjhdcinaefbaaDoorRows
import Derived.WalkKit
import Derived.ProofKit
import Derived.OpenShut
import Derived.ShutString
import Derived.ChangeOld
import Derived.Below
import Derived.SizedLaws
import Derived.LaidMore
import Derived.Stop.Joined
import Derived.SevenTiedAt
import Derived.Test.YtigjhdcinaefbaaDoorCards
import Derived.Test.YtigjhdcinaefbaaDoorTie
import Derived.Test.YtigjhdcinaefbaaDoorJnX
import Derived.Test.YtigjhdcinaefbaaDoorJnL
import Derived.Test.YtigjhdcinaefbaaDoorJnU
import Derived.Test.YtigjhdcinaefbaaDoorLaid4
import Derived.Test.YtigjhdcinaefbaaDoorOp7
namespace Go.Proofs.YtigjhdcinaefbaaDoor
namespace journalWrites
open Go.ChangeShapes Go.WideShapes Go.ChangeAt Go.RowKit Crc
set_option linter.unusedVariables false
attribute [local go_sem ↓] Go.wp_at_zero Go.wp_at_succ

theorem own : ownKnob Tryd.prog.godebug = none := by kernel_rfl
theorem laidOut : laidOutB Tryd.prog = true := by kernel_rfl


open Classical in
set_option maxRecDepth 100000 in
set_option maxHeartbeats 4000000 in
theorem core (t : Int) (s : ByteArray) (a : Option Addr) (n c : Nat) (F : Nat → Ver) (w : World) (T : HalfT w) (_ : -9223372036854775808 ≤ t ∧ t ≤ 9223372036854775807) (hs : s.size ≤ maxLen) (hF : Vs w a n F) (z : a = none → n = 0 ∧ c = 0) (hn : n ≤ maxLen) (hc : n ≤ c) :
    Calls Tryd.prog 3 #[.agg #[.int .i64 t, .string s, .slice a n c]] w fun e w' => e = .returned (.bool true) ∧ Below w.heap.size w w' := by
  obtain ⟨W, hbx, hj, hb⟩ := box_jn w 24 t s (.slice a n c)
  have cA := awake_any W (T.keep hb)
  have T0 : Hid (HalfT W) := T.keep hb
  have J0 : Hid (JAt W w.heap.size t s (.slice a n c)) := hj
  have V0 : Hid (Vs W a n F) := hF.keep hb
  have HB0 : Hid (Below w.heap.size w W) := hb
  clear T hj hF hb
  go_enter Tryd.func3, Tryd.ntmps3
  go_wp2_with fail
  go_at_call 9
  refine cA.mono ?_
  rintro e w1 ⟨rfl, b1⟩
  clear cA
  obtain ⟨c0, c1, c2⟩ := J0.out.keep b1
  have cR := room_any t s a n c w1 hs hn
  have T1 : Hid (HalfT w1) := T0.out.keep b1
  have J1 : Hid (JAt w1 w.heap.size t s (.slice a n c)) := J0.out.keep b1
  have V1 : Hid (Vs w1 a n F) := V0.out.keep b1
  have HB1 : Hid (Below w.heap.size w w1) := hop HB0.out b1
  clear T0 J0 V0 HB0 b1
  unfold jv at cR
  go_wp2_with fail
  go_at_call 10
  refine cR.mono ?_
  rintro e w2 ⟨rfl, b2⟩
  clear cR c0 c1 c2
  by_cases hR : s.size ≤ 1000 ∧ n ≤ 100
  rotate_left
  · rw [decide_eq_false hR]
    clear hR
    go_wp2
    go_ret
    exact ⟨rfl, hop HB1.out b2⟩
  rw [decide_eq_true hR]
  obtain ⟨hs2, hn2⟩ := hR
  obtain ⟨c0, c1, c2⟩ := J1.out.keep b2
  have cJ := journal_any t s a n c F w2 (V1.out.keep b2) z (by omega)
  have T2 : Hid (HalfT w2) := T1.out.keep b2
  have J2 : Hid (JAt w2 w.heap.size t s (.slice a n c)) := J1.out.keep b2
  have V2 : Hid (Vs w2 a n F) := V1.out.keep b2
  have HB2 : Hid (Below w.heap.size w w2) := hop HB1.out b2
  clear T1 J1 V1 HB1 b2
  unfold jv at cJ
  go_wp2_with fail
  go_at_call 12
  refine cJ.mono ?_
  rintro e w3 ⟨v3, rfl, ⟨a3, k3, rfl, hv3, z3, hc3⟩, b3⟩
  clear cJ c0 c1 c2
  -- both answers with the same letters
  obtain ⟨x, Z, M, hM, cE, cF⟩ : ∃ (x : Int) (Z : ByteArray) (M : Bool), mayJ t s.size n F = M ∧
      (Calls Tryd.prog 11 #[.agg #[.int .i64 t, .string s, .slice a3 n k3]] w3 fun e w' => ∃ b l k, e = .returned (.tuple #[.slice b l k, .int .i64 x]) ∧ (∀ X, Below w'.heap.size w' X → Sem.run Tryd.prog (convert 27 9 (.slice b l k)) X = .ok (.string Z) X) ∧ Below w3.heap.size w3 w') ∧
      (∀ X, Below w3.heap.size w3 X → Calls Tryd.prog 13 #[.agg #[.int .i64 t, .string s, .slice a n c]] X fun e w' => ∃ b l k, e = .returned (.tuple #[.slice b l k, .int .i64 x]) ∧ (∀ Y, Below w'.heap.size w' Y → Sem.run Tryd.prog (convert 27 9 (.slice b l k)) Y = .ok (.string Z) Y) ∧ Below X.heap.size X w') := by
    cases hm : mayJ t s.size n F with
    | false =>
      have hnil : ∀ X, Sem.run Tryd.prog (convert 27 9 (.slice none 0 0)) X = .ok (.string (str (fun _ => 0) 0)) X := fun X => conv_row (Row.nil X none) (fun _ => rfl)
      refine ⟨1, str (fun _ => 0) 0, false, rfl, ?_, fun X hX => ?_⟩
      · refine (encode_bad t s a3 n k3 F w3 hv3 hs hn hm).mono ?_
        rintro e w' ⟨rfl, hb⟩
        exact ⟨none, 0, 0, rfl, fun X _ => hnil X, hb⟩
      · refine (rencode_bad t s a n c F X (V2.out.keep (hop b3 hX)) hs hn hm).mono ?_
        rintro e w' ⟨rfl, hb⟩
        exact ⟨none, 0, 0, rfl, fun X _ => hnil X, hb⟩
    | true =>
      have ht := (mayJ_iff.1 hm).1
      obtain ⟨tn, rfl⟩ : ∃ tn : Nat, t = (tn : Int) := ⟨t.toNat, by omega⟩
      refine ⟨0, str (jf tn s.size (sb s) n F) (jl s.size n + 4), true, rfl, ?_, fun X hX => ?_⟩
      · refine (encode_ok tn s a3 n k3 F w3 (T2.out.keep b3) hv3 hm).mono ?_
        rintro e w' ⟨v, rfl, ho, hb⟩
        obtain ⟨g, k, rfl, _, _, _, r⟩ := ho.row (by unfold jl; omega) (jf_lt (sb_lt s))
        exact ⟨_, _, _, rfl, fun X hX => conv_row (r.keep hX) (fun e => by cases e), hb⟩
      · refine (rencode_ok tn s a n c F X (V2.out.keep (hop b3 hX)) hm).mono ?_
        rintro e w' ⟨v, rfl, ho, hb⟩
        obtain ⟨g, k, rfl, _, _, _, r⟩ := ho.row (by unfold jl; omega) (jf_lt (sb_lt s))
        exact ⟨_, _, _, rfl, fun Y hY => conv_row (r.keep hY) (fun e => by cases e), hb⟩
  have J3 : Hid (JAt w3 w.heap.size t s (.slice a n c)) := J2.out.keep b3
  have V3 : Hid (Vs w3 a n F) := V2.out.keep b3
  have HB3 : Hid (Below w.heap.size w w3) := hop HB2.out b3
  have CF : Hid (∀ X, Below w3.heap.size w3 X → Calls Tryd.prog 13 #[.agg #[.int .i64 t, .string s, .slice a n c]] X fun e w' => ∃ b l k, e = .returned (.tuple #[.slice b l k, .int .i64 x]) ∧ (∀ Y, Below w'.heap.size w' Y → Sem.run Tryd.prog (convert 27 9 (.slice b l k)) Y = .ok (.string Z) Y) ∧ Below X.heap.size X w') := cF
  have HM : Hid (mayJ t s.size n F = M) := hM
  clear cF hM T2 J2 V2 HB2 b3 hv3 z3 hc3
  unfold jv
  go_wp2_with fail
  go_at_call 11
  refine cE.mono ?_
  rintro e w4 ⟨b4, l4, k4, rfl, y4, bw4⟩
  clear cE
  obtain ⟨c0, c1, c2⟩ := J3.out.keep bw4
  have cF := CF.out w4 bw4
  have Y4 : Hid (∀ X, Below w4.heap.size w4 X → Sem.run Tryd.prog (convert 27 9 (.slice b4 l4 k4)) X = .ok (.string Z) X) := y4
  have J4 : Hid (JAt w4 w.heap.size t s (.slice a n c)) := J3.out.keep bw4
  have V4 : Hid (Vs w4 a n F) := V3.out.keep bw4
  have HB4 : Hid (Below w.heap.size w w4) := hop HB3.out bw4
  clear y4 bw4 CF J3 V3 HB3
  go_wp2_with fail
  go_at_call 13
  refine cF.mono ?_
  rintro e w5 ⟨b5, l5, k5, rfl, y5, bw5⟩
  clear cF c0 c1 c2
  have J5 := J4.out.keep bw5
  have HS : Hid (∀ X, Below w5.heap.size w5 X → X.cell? ⟨w.heap.size, 0, none⟩ = some (.int .i64 t) ∧ X.cell? ⟨w.heap.size, 1, none⟩ = some (.string s) ∧ X.cell? ⟨w.heap.size, 2, none⟩ = some (.slice a n c) ∧ Sem.run Tryd.prog (convert 27 9 (.slice b4 l4 k4)) X = .ok (.string Z) X ∧ Sem.run Tryd.prog (convert 27 9 (.slice b5 l5 k5)) X = .ok (.string Z) X) := fun X hX => by
    have j := J5.keep hX
    exact ⟨j.c0, j.c1, j.c2, Y4.out X (hop bw5 hX), y5 X hX⟩
  have V5 := V4.out.keep bw5
  have HB5 : Hid (Below w.heap.size w w5) := hop HB4.out bw5
  have bD : Below w5.heap.size w5 w5.drew := (Below.refl _ _).drew
  have K : Hid (Calls Tryd.prog 12 #[.agg #[.int .i64 t, .string s, .slice a n c]] w5.drew fun e w9 => ∃ a9 c9, e = .returned (.agg #[.int .i64 t, .string s, .slice a9 n c9]) ∧ Below w5.heap.size w5 w9 ∧ Calls Tryd.prog 14 #[.agg #[.int .i64 t, .string s, .slice a9 n c9]] w9 fun e w' => e = .returned (.bool M) ∧ Below w5.heap.size w5 w' ∧ Calls Tryd.prog 15 #[.agg #[.int .i64 t, .string s, .slice a n c]] w' fun e w'' => e = .returned (.bool M) ∧ Below w5.heap.size w5 w'') := by
    refine (journal_any t s a n c F w5.drew (V5.keep bD) z (by omega)).mono ?_
    rintro e w9 ⟨v9, rfl, ⟨a9, c9, rfl, hv9, _, _⟩, b9⟩
    refine ⟨a9, c9, rfl, hop bD b9, ?_⟩
    refine (may_any t s a9 n c9 F w9 hv9 hs hn).mono ?_
    rintro e w' ⟨rfl, b'⟩
    refine ⟨by rw [HM.out], hop (hop bD b9) b', ?_⟩
    refine (rmay_any t s a n c F w' (V5.keep (hop (hop bD b9) b')) hs hn).mono ?_
    rintro e w'' ⟨rfl, b''⟩
    exact ⟨by rw [HM.out], hop (hop (hop bD b9) b') b''⟩
  have q0 := HS.out w5.drew bD
  obtain ⟨q1, q2, q3, q4, q5⟩ := q0
  clear V5 V4 J5 J4 bw5 y5 Y4 HB4 z bD
  go_wp2_with fail
  go_region_held3 (fun X => X.cell? ⟨w.heap.size, 0, none⟩ = some (.int .i64 t) ∧ X.cell? ⟨w.heap.size, 1, none⟩ = some (.string s) ∧ X.cell? ⟨w.heap.size, 2, none⟩ = some (.slice a n c) ∧ Sem.run Tryd.prog (convert 27 9 (.slice b4 l4 k4)) X = .ok (.string Z) X ∧ Sem.run Tryd.prog (convert 27 9 (.slice b5 l5 k5)) X = .ok (.string Z) X)
    (first | with_reducible exact ⟨q1, q2, q3, q4, q5⟩ | with_reducible exact HS.out _ y5 | with_reducible exact HS.out _ y3 | with_reducible exact HS.out _ y1)
    (first
      | (go_at_call 12; with_reducible refine K.out.mono ?_; rintro e w9 ⟨a9, c9, rfl, y1, y2⟩)
      | (go_at_call 14; with_reducible refine y2.mono ?_; rintro e w10 ⟨rfl, y3, y4⟩)
      | (go_at_call 15; with_reducible refine y4.mono ?_; rintro e w11 ⟨rfl, y5⟩))
  all_goals
    go_wp2
    go_ret
    exact ⟨rfl, hop HB5.out y5⟩


set_option maxRecDepth 100000 in
theorem lifted (os : Os) (started : os.Started) (H : Type) (enc : TypeId × Value → H) :
    ReturnsInHanded {} Tryd.checked os 3 .any (fun w args => (Rows.journalWritesSpec.pre enc Tryd.prog Tryd.f3 [] false w args ∧ laidMetH Tryd.prog laidAll w) ∧ sizedMet enc Tryd.prog Tryd.f3 (OpenSpec.ofChange Rows.journalWritesSpec) false w args) (Rows.journalWritesSpec.post enc Tryd.prog Tryd.f3 false true false false) := by
  refine returnsInHanded_of_change_and (C := Tryd.checked) (X := fun w _ => laidMetH Tryd.prog laidAll w) (fun _ _ _ hh h => h.of_heap hh) own started (by kernel_rfl) Tryd.func3
    (ChangeSpec.witness_shaped (enc := enc) (C := Tryd.checked) (os := os) (X := fun w _ => laidMetH Tryd.prog laidAll w) false (World.doorLaid Tryd.prog 400 os) #[.agg #[.int .i64 0, .string { data := #[] }, .slice none 0 0]] 8 rfl (World.shaped_of_RefB (by kernel_rfl) (by kernel_rfl)) (by kernel_rfl) (by kernel_rfl) (by kernel_rfl) (door_met os _)) ?_
  intro W base args ds gs before hval0 hW _ hsz0 hL _
  have hval : ∀ (j : Nat) t v, Tryd.f3.params[j]? = some t → args[j]? = some v → Value.okWide Tryd.prog W .any base t v := hval0
  have hW' := hW
  obtain ⟨p, q, hA0, hV, rfl, hfz, hnd⟩ := hW
  have hA : DataW.TrodAll enc Tryd.prog W 0 (fun _ => true) true Tryd.f3.params.toList args.toList ds p := hA0
  rw [Tryd.params3] at hA hval
  have T := halfT_of hL
  obtain ⟨v0, vs0, d0, ds0, p0, q0, hargs, rfl, rfl, h0, r0⟩ := trodAll_cons hA
  obtain ⟨rfl, rfl, rfl⟩ := trodAll_nil r0
  obtain rfl : args = #[v0] := by cases args; simp_all
  obtain ⟨rfl, rfl⟩ := trodVars_none hV
  have k0 := h0
  have lt0 : ∀ x ∈ p0, x.block < W.heap.size := by obtain ⟨m, hm⟩ := k0; exact DataW.trod_lt m _ _ _ hm
  obtain ⟨t0, s0, a0, n0, c0, F0, rfl, e0, g0, m0, z0, l0, b0⟩ := open_jn (hval 0 24 v0 rfl rfl) h0
  clear hA0 hval0 hsz0 hL
  refine (core t0 s0 a0 n0 c0 F0 W T e0 g0 m0 z0 l0 b0).mono fun e W' ⟨he, bel⟩ => ?_
  subst he
  exact ⟨_, rfl, _, _, _, [], _, [], hW', trodAll_mk1 (shut_bool Tryd.underlying4 _), (trodAll_cons_mk (Below.trod laidOut (by kernel_rfl) (of_decide_eq_true (by kernel_rfl)) k0 bel lt0) trodAll_mk0), rfl, bel.frame _, fun h => by cases h⟩

theorem over : Rows.journalWritesRow.holds Tryd.pinned (OpenSpec.ofChange Rows.journalWritesSpec) :=
  OpenClaim.holds_of_wide 3 Tryd.f3 rfl rfl rfl rfl rfl rfl rfl ⟨rfl, rfl, rfl, rfl, rfl⟩ rfl rfl rfl rfl rfl (by kernel_rfl) Tryd.func3 (by kernel_rfl)
    (of_decide_eq_true (by kernel_rfl)) (by unfold Func.isWrapper; first | (rw [if_pos (by decide +kernel)]; kernel_rfl) | (rw [if_neg (by decide +kernel)]; exact ⟨rfl, rfl⟩))
    (fun os started H enc _ => lifted os started H enc)

end journalWrites

/-- The statement. -/
theorem journalWrites_holds : Rows.JournalWritesCardSaid :=
  Claim7.holds_tied_plain_at .later [] [.data] true (true, "b01ff8a6c8b92320785ce916cd8b28e8ad0e0f9566158e0aa5de0e22eeab96d7") false
    journalWrites.over (fun _ h => by cases h) (by kernel_rfl) (fun _ h => by cases h) journalWrites_row_tie rfl ⟨rfl, rfl⟩ (by kernel_rfl) rfl
    (fun f fn hf hfn => by
      obtain rfl : f = 3 := Option.some.inj ((show Tryd.prog.funcNamed "strongbox/strongboxlaw7.JournalWrites" = some 3 by kernel_rfl).symm.trans hf) |>.symm
      obtain rfl : fn = Tryd.f3 := (Option.some.inj (Tryd.func3.symm.trans hfn)).symm
      exact ⟨by kernel_rfl, fun j t ht => by
        rw [Tryd.params3] at ht
        have hm : t ∈ [24] := by simpa using Array.mem_of_getElem? ht
        have hall : ([24].all fun u => !Tryd.prog.wantsStandIn u) = true := by kernel_rfl
        exact (show Tryd.prog.wantsStandIn t = false by simpa using List.all_eq_true.1 hall t hm)⟩)
    (by kernel_rfl)
#print axioms journalWrites_holds
end Go.Proofs.YtigjhdcinaefbaaDoor
