/-
  The law MatrixPowers of layer 2 (a Vandermonde matrix has in each row the powers of its number; no two rows beside each other are the same; a square one has an inverse) answers true for every two numbers.
-/
import Derived.Test.YtehjcceimbpgoaaRows
import Derived.WalkKit
import Derived.ProofKit
import Derived.OpenShut
import Derived.ShutString
import Derived.ChangeOld
import Derived.Below
import Derived.Test.YtehjcceimbpgoaaOpen2
namespace Go.Proofs.Ytehjcceimbpgoaa
namespace matrixPowers
open Go.ChangeShapes Go.WideShapes Go.ChangeAt Go.RowKit Gf
set_option linter.unusedVariables false
attribute [local go_sem ↓] Go.wp_at_zero Go.wp_at_succ

theorem own : ownKnob Try.prog.godebug = none := by kernel_rfl
theorem laidOut : laidOutB Try.prog = true := by kernel_rfl

theorem rsame_bel (a a' : Option Addr) (n c c' : Nat) (A A' : Nat → Option Addr) (L L' C C' : Nat → Nat) (F F' : Nat → Nat → Nat) (w : World) (h : Mat w a n A L C F) (h' : Mat w a' n A' L' C' F') (hn : n ≤ maxLen) (hq : Alike n L L' F F') :
    Calls Try.prog 19 #[.slice a n c, .slice a' n c'] w fun e w' => e = .returned (.bool true) ∧ Below w.heap.size w w' := by
  refine (rsame_yes a a' n c c' A A' L L' C C' F F' w h h' hn hq).mono ?_
  rintro e w' ⟨rfl, m, rfl⟩
  exact ⟨rfl, below_drewN (Below.refl _ _) m⟩

theorem hop {a b c : World} (h : Below a.heap.size a b) (k : Below b.heap.size b c) : Below a.heap.size a c := h.trans (k.mono h.size)

theorem str_ne {f g : Nat → Nat} {n j : Nat} (hj : j < n) (hf : f j < 256) (hg : g j < 256) (h : f j ≠ g j) : ((str f n).toList == (str g n).toList) = false := by
  rw [ByteArray.toList_eq, ByteArray.toList_eq, beq_eq_false_iff_ne]
  intro e
  have e1 : (str f n).data.toList[j]? = (str g n).data.toList[j]? := by rw [e]
  unfold str at e1
  rw [strOfNums_data, strOfNums_data] at e1
  simp [hj] at e1
  have e2 := congrArg UInt8.toNat e1
  simp only [UInt8.toNat_ofNat'] at e2
  omega

set_option maxRecDepth 100000 in
set_option maxHeartbeats 4000000 in
theorem core (x y : Nat) (w : World) (hx : x < 256) (hy : y < 256) :
    Calls Try.prog 6 #[.int .u8 (x : Int), .int .u8 (y : Int)] w fun e w' => e = .returned (.bool true) ∧ Below w.heap.size w w' := by
  go_enter Try.func6, Try.ntmps6
  go_wp2_with fail
  go_at_call 9
  refine (awake_any _).mono ?_
  rintro e w1 ⟨rfl, b1⟩
  obtain ⟨n, hn⟩ : ∃ n : Nat, 1 + (x : Int) % 60 = (n : Int) := ⟨1 + x % 60, by omega⟩
  obtain ⟨k, hk⟩ : ∃ k : Nat, 1 + (y : Int) % 20 = (k : Int) := ⟨1 + y % 20, by omega⟩
  have n1 : 1 ≤ n := by omega
  have n2 : n ≤ 60 := by omega
  have k1 : 1 ≤ k := by omega
  have k2 : k ≤ 20 := by omega
  go_wp2_with fail
  go_at_call 16
  refine (vander_yes n k w1 n1 (by omega) k1 (by omega)).mono ?_
  rintro e w2 ⟨h, rfl, _, g2, b2⟩
  clear hn hk hx hy
  have b02 := hop b1 b2
  have G2 : Hid (Grid w2 h n k V) := g2
  clear g2
  go_wp2_with fail
  go_at_call 23
  refine (rvander_any n k w2 n1 (by omega) k1 (by omega)).mono ?_
  rintro e w3 ⟨v3, rfl, hb3, b3⟩
  obtain ⟨A3, C3, hb3⟩ := hb3
  obtain ⟨a3, c3, rfl⟩ := hb3.form
  have M3 := hb3.mat (fun _ => by omega) V_B
  have cS := rsame_bel (some ⟨h, 0, none⟩) a3 n n c3 _ A3 _ (fun _ => k) _ C3 V V w3 ((G2.out.mat (by omega) V_B).keep b3) M3 (by unfold maxLen; omega) (fun i hi => ⟨rfl, fun j hj => rfl⟩)
  clear hb3 M3
  have b03 := hop b02 b3
  go_wp2_with fail
  go_at_call 19
  refine cS.mono ?_
  rintro e w4 ⟨rfl, b4⟩
  clear cS
  have b04 := hop b03 b4
  go_wp2_with fail
  go_at_call 16
  refine (vander_yes k k w4 k1 (by omega) k1 (by omega)).mono ?_
  rintro e w5 ⟨h5, rfl, _, g5, b5⟩
  have b05 := hop b04 b5
  have cI := invert_any (some ⟨h5, 0, none⟩) k k _ _ _ V w5 (g5.mat (by omega) V_B) (by unfold maxLen; omega)
  clear g5
  go_wp2_with fail
  go_at_call 10
  refine cI.mono ?_
  rintro e w6 ⟨hcase, b6⟩
  clear cI
  have b06 := hop b05 b6
  have b26 := hop (hop (hop b3 b4) b5) b6
  rcases hcase with ⟨rfl, hno⟩ | ⟨h6, X, rfl, _, _, _, _, _⟩
  · exfalso
    rcases hno with hno | hno
    · exact hno ⟨isM_const k1 (by omega) k1 (by omega), by first | rfl | trivial⟩
    · exact hno (V_inj (by omega))
  have MX : Hid (Mat w6 (some ⟨h, 0, none⟩) n (fun i => some ⟨h + 1 + i, 0, none⟩) (fun _ => k) (fun _ => k) V) := (G2.out.mat (by omega) V_B).keep b26
  clear G2
  go_wp2
  go_loopw [11] (fun v wr => ∃ t m : Nat, t + 1 ≤ n ∧ v = .int .i64 ((t + 1 : Nat) : Int) ∧ wr = w6.drewN m) (fun v _ => n - (intOf v).toNat)
  case atStart => exact ⟨0, 0, by omega, rfl, rfl⟩
  case round =>
    obtain ⟨t, m, ht, rfl, rfl⟩ := hrel
    by_cases hend : t + 1 < n ∧ 1 < k
    · obtain ⟨he1, he2⟩ := hend
      have ic1 : (t : Int) + 1 < (n : Int) := by omega
      have ic2 : (t : Int) < (n : Int) := by omega
      have ic3 : (1 : Int) < (k : Int) := by omega
      have z1 := MX.out.cellAt (i := t + 1) he1
      have z0 := MX.out.cellAt (i := t) (by omega)
      have q1 := fun m => conv_row (c := k) ((MX.out.row (t + 1) he1).drewN m) (fun e => by cases e)
      have q0 := fun m => conv_row (c := k) ((MX.out.row t (by omega)).drewN m) (fun e => by cases e)
      have hne : ((str (V (t + 1)) k).toList == (str (V t) k).toList) = false := str_ne (j := 1) he2 (P_lt _) (P_lt _) (by
        unfold V
        have p1 : ∀ a, a < 256 → P a 1 = a := fun a ha => by show M (P a 0) a = a; exact M_one_left ha
        rw [p1 _ (by omega), p1 _ (by omega)]; omega)
      clear MX
      generalize str (V (t + 1)) k = s1 at *
      generalize str (V t) k = s0 at *
      generalize h + 1 + (t + 1) = B1 at *
      generalize h + 1 + t = B0 at *
      go_wp2
      go_quiet (fail)
      go_wp2
      go_round
      case rel => exact ⟨t + 1, _, by omega, by go_num, rfl⟩
      case measure => simp [intOf]; omega
    · by_cases hk1 : k = 1
      · subst hk1
        by_cases hlt : t + 1 < n
        · go_wp2
          go_ret
          exact ⟨rfl, below_drewN b06 _⟩
        · go_wp2
          go_ret
          exact ⟨rfl, below_drewN b06 _⟩
      · have hlt : ¬ t + 1 < n := by omega
        go_wp2
        go_ret
        exact ⟨rfl, below_drewN b06 _⟩


set_option maxRecDepth 100000 in
theorem lifted (os : Os) (started : os.Started) (H : Type) (enc : TypeId × Value → H) :
    ReturnsInHanded {} Try.checked os 6 .any (Rows.matrixPowersSpec.pre6 enc Try.prog Try.f6 Rows.matrixPowersRow.domain false) (Rows.matrixPowersSpec.post enc Try.prog Try.f6 false true false false) := by
  refine returnsInHanded_of_change (C := Try.checked) own started (by kernel_rfl) Try.func6
    (ChangeSpec.witness6 (enc := enc) (C := Try.checked) false ⟨#[], #[.int .u8 0, .int .u8 0], []⟩ 8 (by kernel_rfl) (by kernel_rfl) (by kernel_rfl) (by kernel_rfl)) ?_
  intro W base args ds gs before hval0 hW hcnd _
  have hval : ∀ (j : Nat) t v, Try.f6.params[j]? = some t → args[j]? = some v → Value.okWide Try.prog W .any base t v := hval0
  have hW' := hW
  obtain ⟨p, q, hA0, hV, rfl, hfz, hnd⟩ := hW
  have hA : DataW.TrodAll enc Try.prog W 0 (fun _ => true) true Try.f6.params.toList args.toList ds p := hA0
  rw [Try.params6] at hA hval
  obtain ⟨v0, vs0, d0, ds0, p0, q0, hargs, rfl, rfl, h0, r0⟩ := trodAll_cons hA
  obtain ⟨v1, vs1, d1, ds1, p1, q1, rfl, rfl, rfl, h1, r1⟩ := trodAll_cons r0
  obtain ⟨rfl, rfl, rfl⟩ := trodAll_nil r1
  obtain rfl : args = #[v0, v1] := by cases args; simp_all
  obtain ⟨rfl, rfl⟩ := trodVars_none hV
  have k0 := h0
  have lt0 : ∀ x ∈ p0, x.block < W.heap.size := by obtain ⟨m, hm⟩ := k0; exact DataW.trod_lt m _ _ _ hm
  obtain ⟨x0, e0, rfl⟩ := open_u8 (hval 0 5 v0 rfl rfl) h0
  have k1 := h1
  have lt1 : ∀ x ∈ p1, x.block < W.heap.size := by obtain ⟨m, hm⟩ := k1; exact DataW.trod_lt m _ _ _ hm
  obtain ⟨x1, e1, rfl⟩ := open_u8 (hval 1 5 v1 rfl rfl) h1
  clear hA0 hval0
  refine (core x0 x1 W e0 e1).mono fun e W' ⟨he, bel⟩ => ?_
  subst he
  exact ⟨_, rfl, _, _, _, [], _, [], hW', trodAll_mk1 (shut_bool Try.underlying4 _), (trodAll_cons_mk (Below.trod laidOut (by kernel_rfl) (of_decide_eq_true (by kernel_rfl)) k0 bel lt0) (trodAll_cons_mk (Below.trod laidOut (by kernel_rfl) (of_decide_eq_true (by kernel_rfl)) k1 bel lt1) trodAll_mk0)), rfl, bel.frame _, fun h => by cases h⟩

theorem over : Rows.matrixPowersRow.holds Try.pinned (OpenSpec.ofChange Rows.matrixPowersSpec) :=
  OpenClaim.holds_of_wide 6 Try.f6 rfl rfl rfl rfl rfl rfl rfl ⟨rfl, rfl, rfl, rfl, rfl⟩ rfl rfl rfl rfl rfl (by kernel_rfl) Try.func6 (by kernel_rfl)
    (of_decide_eq_true (by kernel_rfl)) (by unfold Func.isWrapper; first | (rw [if_pos (by decide +kernel)]; kernel_rfl) | (rw [if_neg (by decide +kernel)]; exact ⟨rfl, rfl⟩))
    (fun os started H enc _ => lifted os started H enc)

end matrixPowers

/-- The statement. -/
theorem matrixPowers_holds : Rows.MatrixPowersSaid := matrixPowers.over
#print axioms matrixPowers_holds
end Go.Proofs.Ytehjcceimbpgoaa
