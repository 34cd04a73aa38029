/-
  The law ArrayMeets of layer 12 (of any shape any two sets of as many disks as Quorum says have one in common; it is enough for the data) answers true for all shapes and sets, where crc's table is as the program's text lays it.
-/
import Derived.Test.YtebngmgdciahiaaDoorRows
import Derived.WalkKit
import Derived.ProofKit
import Derived.OpenShut
import Derived.ShutString
import Derived.ChangeOld
import Derived.Below
import Derived.SizedLaws
import Derived.LaidMore
import Derived.Stop.Joined
import Derived.SevenTiedAt
import Derived.Test.YtebngmgdciahiaaDoorCards
import Derived.Test.YtebngmgdciahiaaDoorTie
import Derived.Test.YtebngmgdciahiaaDoorArL
set_option maxRecDepth 100000
namespace Go.Proofs.YtebngmgdciahiaaDoor
namespace arrayMeets
open Go.ChangeShapes Go.WideShapes Go.ChangeAt Go.RowKit Crc
open _root_.Go.Proofs.YtebngmgdciahiaaDoor.Nm _root_.Go.Proofs.YtebngmgdciahiaaDoor.Dk
set_option linter.unusedVariables false
attribute [local go_sem ↓] Go.wp_at_zero Go.wp_at_succ

theorem own : ownKnob Tryd.prog.godebug = none := by kernel_rfl
theorem laidOut : laidOutB Tryd.prog = true := by kernel_rfl

theorem meets {q n k x y b : Nat} (hq : q = quo k (n - k)) (hk : 1 ≤ k) (hn : k < n) (h1 : x + y ≤ n + b) : q ≥ k ∧ q ≤ n ∧ (x < q ∨ y < q ∨ 0 < b) ∧ n < 2 * q := by
  unfold quo at hq
  have e : k + (n - k) = n := by omega
  rw [e] at hq
  omega
set_option maxHeartbeats 8000000 in
theorem core (K M B : Int) (xa xb : Int) (W0 : World) (T : HalfT W0) (hI : I64 K ∧ I64 M ∧ I64 B) (ha0 : 0 ≤ xa) (ha1 : xa ≤ 4294967295) (hb0 : 0 ≤ xb) (hb1 : xb ≤ 4294967295) :
    Calls Tryd.prog 4 #[.agg #[.int .i64 K, .int .i64 M, .int .i64 B], .int .u32 xa, .int .u32 xb] W0 fun e w' => e = .returned (.bool true) ∧ Below W0.heap.size W0 w' := by
  obtain ⟨w1, hw1⟩ : ∃ w1, W0.alloc (.cells #[.int .i64 K, .int .i64 M, .int .i64 B] 24) = w1 := ⟨_, rfl⟩
  have b1 : Below W0.heap.size W0 w1 := by rw [← hw1]; exact bal _ _
  have hs : w1.heap[W0.heap.size]? = some (.cells #[.int .i64 K, .int .i64 M, .int .i64 B] 24 (0, 0)) := by rw [← hw1]; exact heap_alloc_new _ _
  have cA := awake12 W0 w1 b1 T
  obtain ⟨sb, hsb⟩ : ∃ sb, W0.heap.size = sb := ⟨_, rfl⟩
  have HW1 : Hid (W0.alloc (.cells #[.int .i64 K, .int .i64 M, .int .i64 B] 24) = w1) := hw1
  rw [hsb] at hs
  have HS : Hid (w1.heap[sb]? = some (.cells #[.int .i64 K, .int .i64 M, .int .i64 B] 24 (0, 0)) ∧ Below W0.heap.size W0 w1 ∧ W0.heap.size = sb) := ⟨hs, b1, hsb⟩
  clear hw1 b1 hs
  go_enter Tryd.func4, Tryd.ntmps4
  go_wp2_with fail
  rw [HW1.out]
  go_at_call 7
  refine cA.mono ?_
  rintro e w2 ⟨rfl, b2⟩
  clear cA
  have h2 := (b2.block sb (Array.getElem?_eq_some_iff.1 HS.out.1).1).trans HS.out.1
  have c0 := cell_of_row w2 sb 0 _ _ _ h2
  have c1 := cell_of_row w2 sb 1 _ _ _ h2
  have c2 := cell_of_row w2 sb 2 _ _ _ h2
  simp only [List.getElem?_toArray, List.getElem?_cons_zero, List.getElem?_cons_succ] at c0 c1 c2
  have HB2 : Hid (Below W0.heap.size W0 w2 ∧ w2.heap[sb]? = some (.cells #[.int .i64 K, .int .i64 M, .int .i64 B] 24 (0, 0))) := ⟨HS.out.2.1.trans (b2.mono HS.out.2.1.size), h2⟩
  clear b2 h2
  by_cases hr : K < 1 ∨ M < 1 ∨ 12 < K ∨ 12 < M
  · have cM := make_none w2 K M B 10 hr
    clear hr hI
    go_wp2_with fail
    go_at_call 11
    refine cM.mono ?_
    rintro e w3 ⟨rfl, b3⟩
    have HB3 : Hid (Below W0.heap.size W0 w3) := HB2.out.1.trans (b3.mono HB2.out.1.size)
    clear cM b3 c0 c1 c2
    go_wp2
    go_ret
    exact ⟨rfl, HB3.out⟩
  obtain ⟨k, rfl⟩ : ∃ k : Nat, K = (k : Int) := ⟨K.toNat, by omega⟩
  obtain ⟨m, rfl⟩ : ∃ m : Nat, M = (m : Int) := ⟨M.toNat, by omega⟩
  have hr2 : 1 ≤ k ∧ k ≤ 12 ∧ 1 ≤ m ∧ m ≤ 12 := by omega
  have cM := make_any W0 w2 HB2.out.1 k m B 10 hr2.1 hr2.2.1 hr2.2.2.1 hr2.2.2.2 hI.2.2.1 hI.2.2.2 (by decide) (by decide)
  have HR : Hid (1 ≤ k ∧ k ≤ 12 ∧ 1 ≤ m ∧ m ≤ 12) := hr2
  clear hr hI hr2
  go_wp2_with fail
  go_at_call 11
  refine cM.mono ?_
  rintro e w3 hE
  clear cM c0 c1 c2
  rcases hE with ⟨bl, pp, rfl, hbl1, hbl2, rfl, hM⟩ | ⟨hno, rfl, b3⟩
  · obtain ⟨R, kq, kg, ab, vb, hA, hs, hv, hp, hb⟩ := hM.out
    have p0 := Ps.arr hA hp
    have h3 := (hb.block sb (Array.getElem?_eq_some_iff.1 HB2.out.2).1).trans HB2.out.2
    have HB3 : Hid (Below W0.heap.size W0 w3 ∧ w3.heap[sb]? = some (.cells #[.int .i64 (k : Int), .int .i64 (m : Int), .int .i64 (bl : Int)] 24 (0, 0))) := ⟨HB2.out.1.trans (hb.mono HB2.out.1.size), h3⟩
    have cN := fun n => an_any ((hA.ax hs).keep (bdn' w3 n))
    have cQ := fun n => quorum_any ((hA.ax hs).keep (bdn' w3 n))
    obtain ⟨q, hq⟩ : ∃ q, quo k m = q := ⟨_, rfl⟩
    obtain ⟨n, hn⟩ : ∃ n, k + m = n := ⟨_, rfl⟩
    rw [hq] at cQ
    rw [hn] at cN
    have HQ : Hid (quo k m = q ∧ k + m = n) := ⟨hq, hn⟩
    have hn24 : (n : Int) ≤ 24 := by have := HR.out; omega
    clear hM hA hs hv hp hb h3 hq hn hbl1 hbl2
    go_wp2_with fail
    go_quiet (first
      | (go_at_call 15; refine (cN _).mono ?_; rintro e w9 ⟨rfl, rfl⟩; exact ⟨rfl, _, rfl⟩)
      | (go_at_call 13; refine (cQ _).mono ?_; rintro e w9 ⟨rfl, k9, rfl⟩; exact ⟨rfl, _, drewN_two _ _ _⟩))
    obtain ⟨wq, hwq⟩ : ∃ wq, w3.drewN nq = wq := ⟨_, rfl⟩
    rw [hwq]
    have HWQ : Hid (Below W0.heap.size W0 wq ∧ wq.heap[sb]? = some (.cells #[.int .i64 (k : Int), .int .i64 (m : Int), .int .i64 (bl : Int)] 24 (0, 0))) := by rw [← hwq]; exact ⟨HB3.out.1.trans ((bdn' _ _).mono HB3.out.1.size), HB3.out.2⟩
    clear hwq cN cQ p0 HB3
    go_wp2_with fail
    go_loopw [10, 11, 12, 13] (fun xx yy bb ii wr => ∃ x y b i : Nat, xx = .int .i64 x ∧ yy = .int .i64 y ∧ bb = .int .i64 b ∧ ii = .int .i64 i ∧ i ≤ n ∧ x ≤ i ∧ y ≤ i ∧ b ≤ i ∧ x + y ≤ i + b ∧ wr = wq) (fun _ _ _ ii _ => n - (intOf ii).toNat)
    case atStart => exact ⟨0, 0, 0, 0, rfl, rfl, rfl, rfl, by omega, by omega, by omega, by omega, by omega, rfl⟩
    case round =>
      obtain ⟨x, y, b, i, rfl, rfl, rfl, rfl, hi, hx, hy, hb, hxy, rfl⟩ := hrel
      by_cases hlt : i < n
      · have ij : (i : Int) < (n : Int) := by omega
        clear hlt
        go_wp2
        all_goals first
          | exact ⟨⟨x + 1, y + 1, b + 1, i + 1, by go_num, by go_num, by go_num, by go_num, by omega, by omega, by omega, by omega, by omega, trivial⟩, by simp [intOf]; omega⟩
          | exact ⟨⟨x + 1, y + 1, b, i + 1, by go_num, by go_num, by go_num, by go_num, by omega, by omega, by omega, by omega, by omega, trivial⟩, by simp [intOf]; omega⟩
          | exact ⟨⟨x + 1, y, b + 1, i + 1, by go_num, by go_num, by go_num, by go_num, by omega, by omega, by omega, by omega, by omega, trivial⟩, by simp [intOf]; omega⟩
          | exact ⟨⟨x + 1, y, b, i + 1, by go_num, by go_num, by go_num, by go_num, by omega, by omega, by omega, by omega, by omega, trivial⟩, by simp [intOf]; omega⟩
          | exact ⟨⟨x, y + 1, b + 1, i + 1, by go_num, by go_num, by go_num, by go_num, by omega, by omega, by omega, by omega, by omega, trivial⟩, by simp [intOf]; omega⟩
          | exact ⟨⟨x, y + 1, b, i + 1, by go_num, by go_num, by go_num, by go_num, by omega, by omega, by omega, by omega, by omega, trivial⟩, by simp [intOf]; omega⟩
          | exact ⟨⟨x, y, b + 1, i + 1, by go_num, by go_num, by go_num, by go_num, by omega, by omega, by omega, by omega, by omega, trivial⟩, by simp [intOf]; omega⟩
          | exact ⟨⟨x, y, b, i + 1, by go_num, by go_num, by go_num, by go_num, by omega, by omega, by omega, by omega, by omega, trivial⟩, by simp [intOf]; omega⟩
          | (exfalso; simp_all)
      · have hin : i = n := by omega
        subst hin
        have ij : decide ((i : Int) < (i : Int)) = false := by simp
        have c0 := cell_of_row wr sb 0 _ _ _ HWQ.out.2
        simp only [List.getElem?_toArray, List.getElem?_cons_zero] at c0
        have hme := fun h => meets (q := q) (n := i) (k := k) (x := x) (y := y) (b := b) h (by have := HR.out; omega) (by have := HR.out; have := HQ.out.2; omega) hxy
        have hme := hme (by rw [← HQ.out.1]; congr 1; have := HQ.out.2; omega)
        obtain ⟨m1, m2, m3, m4⟩ := hme
        have HB : Hid (Below W0.heap.size W0 wr) := HWQ.out.1
        clear hlt hi hxy
        go_wp2
        all_goals first
          | (go_ret; exact ⟨rfl, HB.out⟩)
          | (go_ret; refine ⟨?_, HB.out⟩; show Ending.returned (.bool (decide ((i : Int) < 2 * (q : Int)))) = _; rw [decide_eq_true (by omega)])
          | (exfalso; omega)
  · have HB3 : Hid (Below W0.heap.size W0 w3) := HB2.out.1.trans (b3.mono HB2.out.1.size)
    clear b3 hno
    go_wp2
    go_ret
    exact ⟨rfl, HB3.out⟩


set_option maxRecDepth 100000 in
theorem lifted (os : Os) (started : os.Started) (H : Type) (enc : TypeId × Value → H) :
    ReturnsInHanded {} Tryd.checked os 4 .any (fun w args => (Rows.arrayMeetsSpec.pre enc Tryd.prog Tryd.f4 [] false w args ∧ laidMetH Tryd.prog laidAll w) ∧ sizedMet enc Tryd.prog Tryd.f4 (OpenSpec.ofChange Rows.arrayMeetsSpec) false w args) (Rows.arrayMeetsSpec.post enc Tryd.prog Tryd.f4 false true false false) := by
  refine returnsInHanded_of_change_and (C := Tryd.checked) (X := fun w _ => laidMetH Tryd.prog laidAll w) (fun _ _ _ hh h => h.of_heap hh) own started (by kernel_rfl) Tryd.func4
    (ChangeSpec.witness_shaped (enc := enc) (C := Tryd.checked) (os := os) (X := fun w _ => laidMetH Tryd.prog laidAll w) false (World.doorLaid Tryd.prog 400 os) #[.agg #[.int .i64 0, .int .i64 0, .int .i64 0], .int .u32 0, .int .u32 0] 8 rfl (World.shaped_of_RefB (by kernel_rfl) (by kernel_rfl)) (by kernel_rfl) (by kernel_rfl) (by kernel_rfl) (door_met os _)) ?_
  intro W base args ds gs before hval0 hW _ hsz0 hL _
  have hval : ∀ (j : Nat) t v, Tryd.f4.params[j]? = some t → args[j]? = some v → Value.okWide Tryd.prog W .any base t v := hval0
  have hW' := hW
  obtain ⟨p, q, hA0, hV, rfl, hfz, hnd⟩ := hW
  have hA : DataW.TrodAll enc Tryd.prog W 0 (fun _ => true) true Tryd.f4.params.toList args.toList ds p := hA0
  rw [Tryd.params4] at hA hval
  have T := halfT_of hL
  obtain ⟨v0, vs0, d0, ds0, p0, q0, hargs, rfl, rfl, h0, r0⟩ := trodAll_cons hA
  obtain ⟨v1, vs1, d1, ds1, p1, q1, rfl, rfl, rfl, h1, r1⟩ := trodAll_cons r0
  obtain ⟨v2, vs2, d2, ds2, p2, q2, rfl, rfl, rfl, h2, r2⟩ := trodAll_cons r1
  obtain ⟨rfl, rfl, rfl⟩ := trodAll_nil r2
  obtain rfl : args = #[v0, v1, v2] := by cases args; simp_all
  obtain ⟨rfl, rfl⟩ := trodVars_none hV
  have k0 := h0
  have lt0 : ∀ x ∈ p0, x.block < W.heap.size := by obtain ⟨m, hm⟩ := k0; exact DataW.trod_lt m _ _ _ hm
  obtain ⟨K0, M0, B0, e0, rfl⟩ := open_shape (hval 0 24 v0 rfl rfl) h0
  have k1 := h1
  have lt1 : ∀ x ∈ p1, x.block < W.heap.size := by obtain ⟨m, hm⟩ := k1; exact DataW.trod_lt m _ _ _ hm
  obtain ⟨x1, rfl, _, _, w1⟩ := open_int Tryd.underlying48 (hval 1 48 v1 rfl rfl) h1
  have e1 : 0 ≤ x1 ∧ x1 ≤ 4294967295 := by simpa [Lit.wf, IntKind.min, IntKind.max, IntKind.signed, IntKind.bits] using w1
  have k2 := h2
  have lt2 : ∀ x ∈ p2, x.block < W.heap.size := by obtain ⟨m, hm⟩ := k2; exact DataW.trod_lt m _ _ _ hm
  obtain ⟨x2, rfl, _, _, w2⟩ := open_int Tryd.underlying48 (hval 2 48 v2 rfl rfl) h2
  have e2 : 0 ≤ x2 ∧ x2 ≤ 4294967295 := by simpa [Lit.wf, IntKind.min, IntKind.max, IntKind.signed, IntKind.bits] using w2
  clear hA0 hval0 hsz0 hL
  refine (core K0 M0 B0 x1 x2 W T e0 e1.1 e1.2 e2.1 e2.2).mono fun e W' ⟨he, bel⟩ => ?_
  subst he
  exact ⟨_, rfl, _, _, _, [], _, [], hW', trodAll_mk1 (shut_bool Tryd.underlying4 _), (trodAll_cons_mk (Below.trod laidOut (by kernel_rfl) (of_decide_eq_true (by kernel_rfl)) k0 bel lt0) (trodAll_cons_mk (Below.trod laidOut (by kernel_rfl) (of_decide_eq_true (by kernel_rfl)) k1 bel lt1) (trodAll_cons_mk (Below.trod laidOut (by kernel_rfl) (of_decide_eq_true (by kernel_rfl)) k2 bel lt2) trodAll_mk0))), rfl, bel.frame _, fun h => by cases h⟩

theorem over : Rows.arrayMeetsRow.holds Tryd.pinned (OpenSpec.ofChange Rows.arrayMeetsSpec) :=
  OpenClaim.holds_of_wide 4 Tryd.f4 rfl rfl rfl rfl rfl rfl rfl ⟨rfl, rfl, rfl, rfl, rfl⟩ rfl rfl rfl rfl rfl (by kernel_rfl) Tryd.func4 (by kernel_rfl)
    (of_decide_eq_true (by kernel_rfl)) (by unfold Func.isWrapper; first | (rw [if_pos (by decide +kernel)]; kernel_rfl) | (rw [if_neg (by decide +kernel)]; exact ⟨rfl, rfl⟩))
    (fun os started H enc _ => lifted os started H enc)

end arrayMeets

/-- The statement. -/
theorem arrayMeets_holds : Rows.ArrayMeetsCardSaid :=
  Claim7.holds_tied_plain_at .later [] [.data] true (true, "1030a19dec020d70f9d3e07f477f037649f156ed148aaf108150bb6ba0b72429") true
    arrayMeets.over (fun _ h => by cases h) (by kernel_rfl) (fun _ h => by cases h) arrayMeets_row_tie rfl ⟨rfl, rfl⟩ (by kernel_rfl) rfl
    (fun f fn hf hfn => by
      obtain rfl : f = 4 := Option.some.inj ((show Tryd.prog.funcNamed "strongbox/strongboxlaw12.ArrayMeets" = some 4 by kernel_rfl).symm.trans hf) |>.symm
      obtain rfl : fn = Tryd.f4 := (Option.some.inj (Tryd.func4.symm.trans hfn)).symm
      exact ⟨by kernel_rfl, fun j t ht => by
        rw [Tryd.params4] at ht
        have hm : t ∈ [24, 48, 48] := by simpa using Array.mem_of_getElem? ht
        have hall : ([24, 48, 48].all fun u => !Tryd.prog.wantsStandIn u) = true := by kernel_rfl
        exact (show Tryd.prog.wantsStandIn t = false by simpa using List.all_eq_true.1 hall t hm)⟩)
    (by kernel_rfl)
#print axioms arrayMeets_holds
end Go.Proofs.YtebngmgdciahiaaDoor
