/-
  The law JournalFull of layer 7 (a journal has as many versions as it may, and no more; it is written and read whole) answers true, where crc's table is as the program's text lays it.
-/
import Derived.Test.YtigjhdcinaefbabDoorRows
import Derived.WalkKit
import Derived.ProofKit
import Derived.OpenShut
import Derived.ShutString
import Derived.ChangeOld
import Derived.Below
import Derived.SizedLaws
import Derived.LaidMore
import Derived.Stop.Joined
import Derived.SevenTiedAt
import Derived.Test.YtigjhdcinaefbabDoorCards
import Derived.Test.YtigjhdcinaefbabDoorTie
import Derived.Test.YtigjhdcinaefbabDoorJnX
import Derived.Test.YtigjhdcinaefbabDoorJnN
import Derived.Test.YtigjhdcinaefbabDoorJnS
import Derived.Test.YtigjhdcinaefbabDoorLaid4
namespace Go.Proofs.YtigjhdcinaefbabDoor
namespace journalFull
open Go.ChangeShapes Go.WideShapes Go.ChangeAt Go.RowKit Crc
set_option linter.unusedVariables false
attribute [local go_sem ↓] Go.wp_at_zero Go.wp_at_succ

theorem own : ownKnob Tryd.prog.godebug = none := by kernel_rfl
theorem laidOut : laidOutB Tryd.prog = true := by kernel_rfl


def FU : Nat → Ver := fun i => if i < 64 then ⟨2147483584 + (i : Int), false, 65536, 4294967295⟩ else zeroV
def sX : ByteArray := { data := #[120] }
theorem FU_fits (i : Nat) : (FU i).fits := by
  unfold FU
  split
  · exact ⟨by dsimp only; omega, by dsimp only; omega, by dsimp only; omega, by dsimp only; omega, by dsimp only; omega⟩
  · exact zeroV_fits
theorem FU_may (n : Nat) (h : n ≤ 64) : mayR FU n = true := by
  induction n with
  | zero => rfl
  | succ n ih =>
    refine mayR_succ (ih (by omega)) ?_ ?_
    · unfold lastId FU
      split
      · rw [if_pos (by omega)]; dsimp only; omega
      · rw [if_pos (by omega), if_pos (by omega)]; dsimp only; omega
    · rw [mayV_iff]
      unfold FU
      rw [if_pos (by omega)]
      dsimp only
      exact ⟨by omega, by omega, by omega, by omega, fun q => by cases q⟩
theorem FU_mayJ (n : Nat) (h : n ≤ 64) : mayJ 2147483647 sX.size n FU = true := mayJ_iff.2 ⟨by omega, by omega, by show 1 ≤ 600; omega, h, FU_may n h⟩
theorem FU_upd (k : Nat) (h : k < 64) : upd FU k ⟨2147483584 + (k : Int), false, 65536, 4294967295⟩ = FU := funext fun i => by
  by_cases e : i = k
  · subst e; rw [upd_at]; unfold FU; rw [if_pos h]
  · rw [upd_ne _ _ e]

open Classical in
set_option maxRecDepth 100000 in
set_option maxHeartbeats 4000000 in
theorem core (w : World) (T : HalfT w) :
    Calls Tryd.prog 3 #[] w fun e w' => e = .returned (.bool true) ∧ Below w.heap.size w w' := by
  have cA := awake_any w T
  go_enter Tryd.func3, Tryd.ntmps3
  go_wp2_with fail
  go_at_call 4
  refine cA.mono ?_
  rintro e w1 ⟨rfl, b1⟩
  clear cA
  obtain ⟨W, hW, hj, hb⟩ := box_jn w1 25 2147483647 sX (.slice none 0 0)
  have hjb : JB W w1.heap.size 2147483647 sX (.slice none 0 0) 25 := by rw [← hW]; exact heap_alloc_new _ _
  obtain ⟨c0, c1, c2⟩ := hj
  have fj : ∀ j, W.frozen? ⟨w1.heap.size, j, none⟩ = false := hjb.soft
  obtain ⟨W1, hW1⟩ : ∃ W1, W.setCell ⟨w1.heap.size, 2, none⟩ (.slice none 0 0) = W1 := ⟨_, rfl⟩
  have hj1 : JB W1 w1.heap.size 2147483647 sX (.slice none 0 0) 25 := by rw [← hW1]; exact heap_setCell_same _ _ 2 _ _ _ hjb
  have bW1 : Below w1.heap.size w1 W1 := by rw [← hW1]; exact hb.setCell (p := ⟨w1.heap.size, 2, none⟩) (Nat.le_refl _) _
  have HJ1 : Hid (JVar W1 w1.heap.size 2147483647 sX none 0 0 FU 25) := ⟨hj1, ⟨FU_fits, fun h => absurd h (by omega)⟩, fun _ => ⟨rfl, rfl⟩, by omega⟩
  have HW1 : Hid (Below w1.heap.size w1 W1) := bW1
  have HB1 : Hid (Below w.heap.size w w1) := b1
  have T1 : Hid (HalfT w1) := T.keep b1
  clear hb hjb hj1 bW1 b1 T
  unfold sX at c1 hW
  go_wp2
  clear c0 c1 c2 fj hW1 hW
  go_loopw [2] (fun i wr => ∃ (k c : Nat) (a : Option Addr), k ≤ 64 ∧ i = .int .i64 k ∧ JVar wr w1.heap.size 2147483647 sX a k c FU 25 ∧ Below w1.heap.size w1 wr) (fun i _ => 64 - (intOf i).toNat)
  case atStart => exact ⟨0, 0, none, by omega, rfl, HJ1.out, HW1.out⟩
  case round =>
    obtain ⟨k, c, a, hk, rfl, hJ, hB⟩ := hrel
    clear HJ1 HW1
    obtain ⟨c0, c1, c2⟩ := hJ.j.at
    by_cases hlt : k < 64
    · have ik : (k : Int) < 64 := by omega
      have cA : Calls Tryd.prog 5 #[.agg #[.int .i64 2147483647, .string { data := #[120] }, .slice a k c], .agg #[.int .i64 (2147483584 + (k : Int)), .bool false, .int .i64 65536, .int .u32 4294967295]] wr fun e w' => ∃ a' c', e = .returned (.tuple #[.agg #[.int .i64 2147483647, .string { data := #[120] }, .slice a' (k + 1) c'], .int .i64 0]) ∧ Vs w' a' (k + 1) FU ∧ (a' = none → k + 1 = 0 ∧ c' = 0) ∧ k + 1 ≤ c' ∧ Below wr.heap.size wr w' := by
        refine (add_any 2147483647 sX a k c FU ⟨2147483584 + (k : Int), false, 65536, 4294967295⟩ wr hJ.vs ⟨by dsimp only; omega, by dsimp only; omega, by dsimp only; omega, by dsimp only; omega, by dsimp only; omega⟩ (by show 1 ≤ maxLen; unfold maxLen; omega) (by unfold maxLen; omega)).mono ?_
        rintro e w' ⟨⟨h64, _⟩ | ⟨_, hm, _⟩ | ⟨_, _, u, rfl, a', c', rfl, hv, hz, hc⟩, hb⟩
        · omega
        · rw [FU_upd k hlt, FU_mayJ (k + 1) (by omega)] at hm; cases hm
        · rw [FU_upd k hlt] at hv
          exact ⟨a', c', rfl, hv, hz, hc, hb⟩
      have HJ : Hid (JVar wr w1.heap.size 2147483647 sX a k c FU 25) := hJ
      have HBr : Hid (Below w1.heap.size w1 wr) := hB
      clear hJ hB
      unfold sX at c1
      go_wp2_with fail
      go_at_call 5
      refine cA.mono ?_
      rintro e w2 ⟨a', c', rfl, hv, hz, hc, b2⟩
      clear cA c0 c1 c2
      obtain ⟨X, hX, hjX, bX⟩ := box_jn w2 25 2147483647 sX (.slice a' (k + 1) c')
      obtain ⟨p0, p1, p2⟩ := hjX
      have hj2 := (HJ.out.keep (hop b2 bX)).j
      obtain ⟨c0, c1, c2⟩ := hj2.at
      have fj : ∀ j, X.frozen? ⟨w1.heap.size, j, none⟩ = false := hj2.soft
      have HS : Hid (JVar (((X.setCell ⟨w1.heap.size, 0, none⟩ (.int .i64 2147483647)).setCell ⟨w1.heap.size, 1, none⟩ (.string { data := #[120] })).setCell ⟨w1.heap.size, 2, none⟩ (.slice a' (k + 1) c')) w1.heap.size 2147483647 sX a' (k + 1) c' FU 25) := store_jn hj2 (hv.keep bX) hz hc
      have HBX : Hid (Below w1.heap.size w1 (((X.setCell ⟨w1.heap.size, 0, none⟩ (.int .i64 2147483647)).setCell ⟨w1.heap.size, 1, none⟩ (.string { data := #[120] })).setCell ⟨w1.heap.size, 2, none⟩ (.slice a' (k + 1) c'))) := below3 (hop HBr.out (hop b2 bX)) (Nat.le_refl _) _ _ _
      clear hv hz hc b2 bX hj2 HJ HBr
      unfold sX at c1 p1 hX
      go_wp2
      go_round
      case rel => exact ⟨k + 1, c', a', by omega, by go_num, HS.out, HBX.out⟩
      case measure => simp [intOf]; omega
    · have : k = 64 := by omega
      subst this
      have hv := hJ.vs
      have cA : Calls Tryd.prog 5 #[.agg #[.int .i64 2147483647, .string { data := #[120] }, .slice a 64 c], .agg #[.int .i64 2147483647, .bool false, .int .i64 0, .int .u32 0]] wr fun e w' => e = .returned (.tuple #[nojn, .int .i64 18]) ∧ Below wr.heap.size wr w' := by
        refine (add_any 2147483647 sX a 64 c FU ⟨2147483647, false, 0, 0⟩ wr hv ⟨by dsimp only; omega, by dsimp only; omega, by dsimp only; omega, by dsimp only; omega, by dsimp only; omega⟩ (by show 1 ≤ maxLen; unfold maxLen; omega) (by unfold maxLen; omega)).mono ?_
        rintro e w' ⟨⟨_, rfl⟩ | ⟨h, _⟩ | ⟨h, _⟩, hb⟩
        · exact ⟨rfl, hb⟩
        · omega
        · omega
      have HJ : Hid (JVar wr w1.heap.size 2147483647 sX a 64 c FU 25) := hJ
      have HBr : Hid (Below w1.heap.size w1 wr) := hB
      clear hJ hB hv
      unfold sX at c1
      go_wp2_with fail
      go_at_call 5
      refine cA.mono ?_
      rintro e w2 ⟨rfl, b2⟩
      clear cA c0 c1 c2
      obtain ⟨X, hX, _, bX⟩ := box_jn w2 25 0 noS (.slice none 0 0)
      have hjX : JB X w2.heap.size 0 noS (.slice none 0 0) 25 := by rw [← hX]; exact heap_alloc_new _ _
      obtain ⟨q0, q1, q2⟩ := hjX.at
      have fX : ∀ j, X.frozen? ⟨w2.heap.size, j, none⟩ = false := hjX.soft
      obtain ⟨Y, hY⟩ : ∃ Y, ((X.setCell ⟨w2.heap.size, 0, none⟩ (.int .i64 0)).setCell ⟨w2.heap.size, 1, none⟩ (.string noS)).setCell ⟨w2.heap.size, 2, none⟩ (.slice none 0 0) = Y := ⟨_, rfl⟩
      have bY : Below wr.heap.size wr Y := by rw [← hY]; exact below3 (hop b2 bX) b2.size _ _ _
      have HJY : Hid (JVar Y w1.heap.size 2147483647 sX a 64 c FU 25) := HJ.out.keep bY
      obtain ⟨c0, c1, c2⟩ := (HJ.out.keep bY).j.at
      have HBY : Hid (Below w1.heap.size w1 Y) := hop HBr.out bY
      have cE := encode_ok 2147483647 sX a 64 c FU Y (T1.out.keep HBY.out) HJY.out.vs (FU_mayJ 64 (by omega))
      rw [show jl sX.size 64 + 4 = 848 from rfl] at cE
      clear b2 bX bY hjX HJ HBr
      unfold nojn jv noS at *
      unfold sX at c1 cE
      go_wp2_with fail
      go_at_call 6
      refine cE.mono ?_
      rintro e w3 ⟨v3, rfl, o3, b3⟩
      clear cE c0 c1 c2 q0 q1 q2 fX hX hY
      obtain ⟨g3, k3, rfl, _, hk3, _, r3⟩ := o3.row (by omega) (jf_lt (sb_lt _))
      have HB3 : Hid (Below w1.heap.size w1 w3) := hop HBY.out b3
      have cD : Calls Tryd.prog 7 #[.slice (some ⟨g3, 0, none⟩) 848 k3] w3 fun e w' => Below w3.heap.size w3 w' ∧ ∃ a' c', e = .returned (.tuple #[.agg #[.int .i64 2147483647, .string { data := #[120] }, .slice a' 64 c'], .int .i64 0]) ∧ Vs w' a' 64 FU := by
        refine (decode_any _ 848 k3 _ w3 (T1.out.keep HB3.out) r3 (by unfold maxLen; omega) hk3).mono ?_
        intro e w' h
        obtain ⟨hb, v, rfl, a', c', rfl, hv, _, _⟩ := decode_back (s := sX) (FU_mayJ 64 (by omega)) FU_fits rfl (fun i _ => rfl) h
        exact ⟨hb, a', c', rfl, hv⟩
      have HJ3 : Hid (JVar w3 w1.heap.size 2147483647 sX a 64 c FU 25) := HJY.out.keep b3
      clear o3 r3 b3 HJY HBY
      go_wp2_with fail
      go_at_call 7
      refine cD.mono ?_
      rintro e w4 ⟨b4, a4, k4, rfl, hv4⟩
      clear cD
      obtain ⟨Z, hZ, ⟨p0, p1, p2⟩, bZ⟩ := box_jn w4 25 2147483647 sX (.slice a4 64 k4)
      have hJ4 := HJ3.out.keep (hop b4 bZ)
      obtain ⟨c0, c1, c2⟩ := hJ4.j.at
      have cS := same_any a a4 64 64 c k4 2147483647 2147483647 sX sX FU FU Z hJ4.vs (hv4.keep bZ) (by unfold maxLen; omega) (by unfold maxLen; omega)
      rw [decide_eq_true (show SameJ 2147483647 2147483647 sX sX 64 64 FU FU from ⟨rfl, rfl, rfl, fun i hi => rfl⟩)] at cS
      have HBZ : Hid (Below w1.heap.size w1 Z) := hop HB3.out (hop b4 bZ)
      clear b4 bZ hJ4 hv4 HJ3 HB3
      unfold jv at *
      unfold sX at c1 p1 hZ cS
      go_wp2_with fail
      go_at_call 8
      refine cS.mono ?_
      rintro e w5 ⟨rfl, b5⟩
      clear cS
      go_wp2
      go_ret
      exact ⟨rfl, hop HB1.out (hop HBZ.out b5)⟩


set_option maxRecDepth 100000 in
theorem lifted (os : Os) (started : os.Started) (H : Type) (enc : TypeId × Value → H) :
    ReturnsInHanded {} Tryd.checked os 3 .any (fun w args => (Rows.journalFullSpec.pre enc Tryd.prog Tryd.f3 [] false w args ∧ laidMetH Tryd.prog laidAll w) ∧ sizedMet enc Tryd.prog Tryd.f3 (OpenSpec.ofChange Rows.journalFullSpec) false w args) (Rows.journalFullSpec.post enc Tryd.prog Tryd.f3 false true false false) := by
  refine returnsInHanded_of_change_and (C := Tryd.checked) (X := fun w _ => laidMetH Tryd.prog laidAll w) (fun _ _ _ hh h => h.of_heap hh) own started (by kernel_rfl) Tryd.func3
    (ChangeSpec.witness_shaped (enc := enc) (C := Tryd.checked) (os := os) (X := fun w _ => laidMetH Tryd.prog laidAll w) false (World.doorLaid Tryd.prog 400 os) #[] 8 rfl (World.shaped_of_RefB (by kernel_rfl) (by kernel_rfl)) (by kernel_rfl) (by kernel_rfl) (by kernel_rfl) (door_met os _)) ?_
  intro W base args ds gs before hval0 hW _ hsz0 hL _
  have hval : ∀ (j : Nat) t v, Tryd.f3.params[j]? = some t → args[j]? = some v → Value.okWide Tryd.prog W .any base t v := hval0
  have hW' := hW
  obtain ⟨p, q, hA0, hV, rfl, hfz, hnd⟩ := hW
  have hA : DataW.TrodAll enc Tryd.prog W 0 (fun _ => true) true Tryd.f3.params.toList args.toList ds p := hA0
  rw [Tryd.params3] at hA hval
  have T := halfT_of hL
  obtain ⟨hargs, rfl, rfl⟩ := trodAll_nil hA
  obtain rfl : args = #[] := by cases args; simp_all
  obtain ⟨rfl, rfl⟩ := trodVars_none hV
  clear hA0 hval0 hsz0 hL
  refine (core  W T ).mono fun e W' ⟨he, bel⟩ => ?_
  subst he
  exact ⟨_, rfl, _, _, _, [], _, [], hW', trodAll_mk1 (shut_bool Tryd.underlying4 _), trodAll_mk0, rfl, bel.frame _, fun h => by cases h⟩

theorem over : Rows.journalFullRow.holds Tryd.pinned (OpenSpec.ofChange Rows.journalFullSpec) :=
  OpenClaim.holds_of_wide 3 Tryd.f3 rfl rfl rfl rfl rfl rfl rfl ⟨rfl, rfl, rfl, rfl, rfl⟩ rfl rfl rfl rfl rfl (by kernel_rfl) Tryd.func3 (by kernel_rfl)
    (of_decide_eq_true (by kernel_rfl)) (by unfold Func.isWrapper; first | (rw [if_pos (by decide +kernel)]; kernel_rfl) | (rw [if_neg (by decide +kernel)]; exact ⟨rfl, rfl⟩))
    (fun os started H enc _ => lifted os started H enc)

end journalFull

/-- The statement. -/
theorem journalFull_holds : Rows.JournalFullCardSaid :=
  Claim7.holds_tied_plain_at .later [] [.data] true (true, "7e0077c4f95bfd3031133c9c121ff3e7981c946d3575cca4068691f7f6d40287") false
    journalFull.over (fun _ h => by cases h) (by kernel_rfl) (fun _ h => by cases h) journalFull_row_tie rfl ⟨rfl, rfl⟩ (by kernel_rfl) rfl
    (fun f fn hf hfn => by
      obtain rfl : f = 3 := Option.some.inj ((show Tryd.prog.funcNamed "strongbox/strongboxlaw7.JournalFull" = some 3 by kernel_rfl).symm.trans hf) |>.symm
      obtain rfl : fn = Tryd.f3 := (Option.some.inj (Tryd.func3.symm.trans hfn)).symm
      exact ⟨by kernel_rfl, fun j t ht => by
        rw [Tryd.params3] at ht
        have hm : t ∈ [] := by simpa using Array.mem_of_getElem? ht
        have hall : ([].all fun u => !Tryd.prog.wantsStandIn u) = true := by kernel_rfl
        exact (show Tryd.prog.wantsStandIn t = false by simpa using List.all_eq_true.1 hall t hm)⟩)
    (by kernel_rfl)
#print axioms journalFull_holds
end Go.Proofs.YtigjhdcinaefbabDoor
