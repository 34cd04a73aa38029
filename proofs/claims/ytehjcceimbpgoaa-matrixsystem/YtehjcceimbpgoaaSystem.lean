/-
  The law MatrixSystem of layer 2 (the first rows of a systematic matrix are the unit; whichever of its rows, as many as it has columns, have an inverse) answers true for every two numbers and every pick.
-/
import Derived.Test.YtehjcceimbpgoaaRows
import Derived.WalkKit
import Derived.ProofKit
import Derived.OpenShut
import Derived.ShutString
import Derived.ChangeOld
import Derived.Below
import Derived.Test.YtehjcceimbpgoaaRSys
namespace Go.Proofs.Ytehjcceimbpgoaa
namespace matrixSystem
open Go.ChangeShapes Go.WideShapes Go.ChangeAt Go.RowKit Gf
set_option linter.unusedVariables false
attribute [local go_sem ↓] Go.wp_at_zero Go.wp_at_succ

theorem own : ownKnob Try.prog.godebug = none := by kernel_rfl
theorem laidOut : laidOutB Try.prog = true := by kernel_rfl

theorem hop {a b c : World} (h : Below a.heap.size a b) (k : Below b.heap.size b c) : Below a.heap.size a c := h.trans (k.mono h.size)

theorem rsame_bel (a a' : Option Addr) (n c c' : Nat) (A A' : Nat → Option Addr) (L L' C C' : Nat → Nat) (F F' : Nat → Nat → Nat) (w : World) (h : Mat w a n A L C F) (h' : Mat w a' n A' L' C' F') (hn : n ≤ maxLen) (hq : Alike n L L' F F') :
    Calls Try.prog 19 #[.slice a n c, .slice a' n c'] w fun e w' => e = .returned (.bool true) ∧ Below w.heap.size w w' := by
  refine (rsame_yes a a' n c c' A A' L L' C C' F F' w h h' hn hq).mono ?_
  rintro e w' ⟨rfl, m, rfl⟩
  exact ⟨rfl, below_drewN (Below.refl _ _) m⟩

/-- The first rows are the unit. -/
theorem sys_top {n : Nat} {X : Nat → Nat → Nat} (h : IsInv n V X) : ∀ i, i < n → ∀ j, j < n → mm n V X i j = one i j := h.right
/-- The two inverses are one. -/
theorem sys_same {n : Nat} {X Y : Nat → Nat → Nat} (h : IsInv n V X) (k : IsInv n V Y) (hX : B X) (hY : B Y) (i j : Nat) (hj : j < n) : mm n V X i j = mm n V Y i j :=
  mm_congr (fun _ _ => rfl) fun t ht => h.unique k V_B hX hY t ht j hj
/-- Rows of unlike numbers make no column but nought nought. -/
theorem sys_inj {n : Nat} {X : Nat → Nat → Nat} {r : Nat → Nat} (h : IsInv n V X) (hX : B X) (hr : ∀ i, i < n → r i < 256) (hd : ∀ i, i < n → ∀ j, j < n → r i = r j → i = j) : Inj n (fun i => mm n V X (r i)) := by
  have h1 : Inj n (fun i j => P (r i) j) := vander_inj hr hd
  have h2 : Inj n X := h.symm.inj hX V_B
  exact Inj.congr (Inj.mul (vander_B r) hX h1 h2) fun i _ j _ => rfl

set_option maxRecDepth 100000 in
set_option maxHeartbeats 2000000 in
theorem core (x y : Nat) (a2 : Option Addr) (n2 c2 : Nat) (f2 : Nat → Nat) (w : World) (hx : x < 256) (hy : y < 256) (h2 : Row w a2 n2 f2) (z2 : a2 = none → n2 = 0 ∧ c2 = 0) (l2 : n2 ≤ maxLen) :
    Calls Try.prog 5 #[.int .u8 (x : Int), .int .u8 (y : Int), .slice a2 n2 c2] w fun e w' => e = .returned (.bool true) ∧ Below w.heap.size w w' := by
  have H2 : Hid (Row w a2 n2 f2) := h2
  clear h2 z2
  have l2' : n2 ≤ 9223372036854775807 := by unfold maxLen at l2; omega
  go_enter Try.func5, Try.ntmps5
  go_wp2_with fail
  go_at_call 9
  refine (awake_any _).mono ?_
  rintro e w1 ⟨rfl, b1⟩
  obtain ⟨n, hn⟩ : ∃ n : Nat, 1 + (x : Int) % 12 = (n : Int) := ⟨1 + x % 12, by omega⟩
  obtain ⟨p, hp⟩ : ∃ p : Nat, 1 + (y : Int) % 12 = (p : Int) := ⟨1 + y % 12, by omega⟩
  have n1 : 1 ≤ n := by omega
  have n12 : n ≤ 12 := by omega
  have p1 : 1 ≤ p := by omega
  have p12 : p ≤ 12 := by omega
  go_wp2_with fail
  go_at_call 14
  refine (systematic_yes n p w1 n1 p1 (by omega)).mono ?_
  rintro e w2 ⟨h, X, rfl, _, iv, lX, ⟨AX, CX, mX, _, qX⟩, b2⟩
  have b02 := hop b1 b2
  have IV : Hid (IsInv n V X) := iv
  have LX : Hid (B X) := lX
  have MX : Hid (Mat w2 (some ⟨h, 0, none⟩) (n + p) AX (fun _ => n) CX (mm n V X)) := mX
  clear iv lX mX qX hn hp hx hy
  go_wp2_with fail
  go_at_call 21
  refine (rsystematic_yes n p w2 n1 p1 (by omega)).mono ?_
  rintro e w3 ⟨v3, Y, base, rfl, iy, lY, ⟨A3, C3, bl3⟩, b3⟩
  obtain ⟨a3, c3, rfl, _⟩ := bl3.form2 (by omega)
  have M3 : Hid (Mat w3 (some a3) (n + p) A3 (fun _ => n) C3 (mm n V Y)) := bl3.mat (fun _ => by omega) (mm_B V_B)
  have HS : Hid (∀ i j, j < n → mm n V X i j = mm n V Y i j) := fun i j hj => sys_same IV.out iy LX.out lY i j hj
  have b03 := hop b02 b3
  have mx3 := MX.out.keep b3
  have K1 : Hid (Calls Try.prog 19 #[.slice (some ⟨h, 0, none⟩) (n + p) (n + p), .slice (some a3) (n + p) c3] w3.drew fun e w' => e = .returned (.bool true) ∧ Below w3.heap.size w3 w') := by
    refine (rsame_bel (some ⟨h, 0, none⟩) (some a3) (n + p) (n + p) c3 AX A3 (fun _ => n) (fun _ => n) CX C3 _ _ w3.drew (mx3.drewN 1) (M3.out.drewN 1) (by unfold maxLen; omega) (fun i _ => ⟨rfl, fun j hj => HS.out i j hj⟩)).mono ?_
    rintro e w' ⟨rfl, hb⟩
    exact ⟨rfl, (Below.refl _ _).drew.trans hb⟩
  have K2 : Hid (∀ w4, Below w3.heap.size w3 w4 → Calls Try.prog 20 #[.int .i64 (n : Int)] w4 fun e w' => ∃ au cu, e = .returned (.slice au n cu) ∧ (∃ AU CU, Mat w' au n AU (fun _ => n) CU one) ∧ Below w3.heap.size w3 w') := fun w4 hb4 => by
    refine (runit_any n w4 n1 (by omega)).mono ?_
    rintro e w5 ⟨v5, rfl, ⟨A5, C5, bl5⟩, b5⟩
    obtain ⟨a5, c5, rfl⟩ := bl5.form
    exact ⟨a5, c5, rfl, ⟨A5, C5, bl5.mat (fun _ => by omega) one_B⟩, hb4.trans (b5.mono hb4.size)⟩
  have K3 : Hid (∀ w5 au cu, (∃ AU CU, Mat w5 au n AU (fun _ => n) CU one) → Below w3.heap.size w3 w5 → Calls Try.prog 19 #[.slice (some ⟨h, 0, none⟩) n (n + p), .slice au n cu] w5 fun e w' => e = .returned (.bool true) ∧ Below w3.heap.size w3 w') := fun w5 au cu ⟨AU, CU, mU⟩ hb5 => by
    refine (rsame_bel (some ⟨h, 0, none⟩) au n (n + p) cu AX AU (fun _ => n) (fun _ => n) CX CU _ _ w5 ((mx3.keep hb5).take (by omega)) mU (by unfold maxLen; omega) (fun i hi => ⟨rfl, fun j hj => sys_top IV.out i hi j hj⟩)).mono ?_
    rintro e w' ⟨rfl, hb⟩
    exact ⟨rfl, hb5.trans (hb.mono hb5.size)⟩
  have MX3 : Hid (Mat w3 (some ⟨h, 0, none⟩) (n + p) AX (fun _ => n) CX (mm n V X)) := mx3
  clear bl3 iy lY mx3 MX M3 HS
  have inp : (n : Int) ≤ ((n + p : Nat) : Int) := by omega
  have inp' : (n : Int) ≤ (n : Int) + (p : Int) := by omega
  go_upto_region 6 with fail
  go_cut [62] (fun s wx => s = .bool false ∧ Below w3.heap.size w3 wx)
  case first =>
    go_region_held3 (fun _ => True) (trivial)
      (first | (go_at_call_of 19 (Value.slice (some a3) (n + p) c3); refine K1.out.mono ?_; rintro e w4 ⟨rfl, hb4⟩) | (go_at_call 20; refine (K2.out w4 hb4).mono ?_; rintro e w5 ⟨au, cu, rfl, hu, hb5⟩) | (go_at_call_of 19 (Value.slice au n cu); refine (K3.out w5 au cu hu hb5).mono ?_; rintro e w6 ⟨rfl, hb6⟩))
    all_goals (go_wp2_with fail; go_meet; exact ⟨rfl, hb6⟩)
  case rest =>
  rename World => wd
  obtain ⟨rfl, hb4⟩ := hcut
  clear K1 K2 K3
  have b04 : Below w.heap.size w wd := b03.trans (hb4.mono b03.size)
  have MX4 : Hid (Mat wd (some ⟨h, 0, none⟩) (n + p) AX (fun _ => n) CX (mm n V X)) := MX3.out.keep hb4
  clear MX3 hb4
  go_wp2
  go_loopw [13, 14] (fun v i wr => ∃ (q : Nat) (g : Nat → Int), q ≤ n ∧ i = .int .i64 q ∧ OwnI wr wd.heap.size v q g ∧ (∀ a, a < q → 0 ≤ g a ∧ g a < n + p) ∧ (∀ a, a < q → ∀ b, b < q → g a = g b → a = b) ∧ Below wd.heap.size wd wr) (fun _ i _ => n - (intOf i).toNat)
  case atStart => exact ⟨0, fun _ => 0, by omega, rfl, OwnI.start wd wd.heap.size _, fun a ha => absurd ha (by omega), fun a ha => absurd ha (by omega), Below.refl _ _⟩
  case round =>
  obtain ⟨q, g, hq, rfl, hown, hrange, hdist, hb⟩ := hrel
  obtain ⟨al, cl, hv, hir⟩ := hown.form
  subst hv
  have HO : Hid (OwnI wr wd.heap.size (.slice al q cl) q g) := hown
  have HI : Hid (IRow wr al q g) := hir
  have HR : Hid (∀ a, a < q → 0 ≤ g a ∧ g a < n + p) := hrange
  have HD : Hid (∀ a, a < q → ∀ b, b < q → g a = g b → a = b) := hdist
  clear hown hir hrange hdist
  by_cases hlt : q < n
  · have iq : (q : Int) < (n : Int) := by omega
    have iq2 : (q : Int) < (n : Int) + (p : Int) := by omega
    have hN : (n : Int) + (p : Int) ≠ 0 := by omega
    go_upto_if 80 with fail
    go_cut [15] (fun s wx => ∃ t : Nat, t < n + p ∧ s = .int .i64 t ∧ wx = wr)
    case first =>
      by_cases hpk : q < n2
      · have ipk : (q : Int) < (n2 : Int) := by omega
        obtain ⟨bb, oo, rfl, hc⟩ := ((H2.out.keep b04).keep hb).lies (by omega)
        have ck := hc q hpk
        have lf := H2.out.lt q
        have er : ((f2 q : Nat) : Int) % ((n : Int) + (p : Int)) = ((f2 q % (n + p) : Nat) : Int) := by rw [Int.natCast_emod, Int.natCast_add]
        have lr : f2 q % (n + p) < n + p := Nat.mod_lt _ (by omega)
        clear hc
        generalize f2 q % (n + p) = rr at *
        generalize f2 q = xx at *
        go_wp2
        go_meet
        exact ⟨rr, lr, by rw [er], rfl⟩
      · go_wp2
        go_meet
        exact ⟨q, by omega, rfl, rfl⟩
    case rest =>
    obtain ⟨t0, ht0, rfl, hww⟩ := hcut
    have hww' := hww.symm
    subst hww'
    go_wp2
    go_loop [15] (fun v => ∃ t : Nat, t < n + p ∧ v = .int .i64 t) (fun v => far (n + p) (fun z => (List.range q).all fun i => decide (g i ≠ (z : Int))) (intOf v).toNat)
    case atStart => exact ⟨t0, ht0, rfl⟩
    case round =>
    obtain ⟨t, ht, rfl⟩ := hrel
    have cH := has_any al q cl t g wr HI.out (by omega) (fun i hi => by have := HR.out i hi; omega)
    go_wp2_with fail
    go_at_call 22
    refine cH.mono ?_
    rintro e w' ⟨hcase, rfl⟩
    clear cH
    rcases hcase with ⟨rfl, hin⟩ | ⟨rfl, hout⟩
    · have er : ((t : Int) + 1) % ((n : Int) + (p : Int)) = (((t + 1) % (n + p) : Nat) : Int) := by rw [Int.natCast_emod, Int.natCast_add, Int.natCast_add]; rfl
      have HM : Hid (far (n + p) (fun z => (List.range q).all fun i => decide (g i ≠ (z : Int))) ((t + 1) % (n + p)) < far (n + p) (fun z => (List.range q).all fun i => decide (g i ≠ (z : Int))) t) := by
        refine far_step (by omega) ht ?_ ?_
        · obtain ⟨i, hi, e⟩ := hin
          rw [List.all_eq_false]
          exact ⟨i, List.mem_range.2 hi, by simp [e]⟩
        · obtain ⟨z, hz, hall⟩ := left_out (q := q) (N := n + p) (g := g) (by omega)
          exact ⟨z, hz, List.all_eq_true.2 fun i hi => by simpa using hall i (List.mem_range.1 hi)⟩
      have lt1 : (t + 1) % (n + p) < n + p := Nat.mod_lt _ (by omega)
      clear hin
      generalize (t + 1) % (n + p) = t' at *
      go_wp2
      go_round
      case rel => exact ⟨t', lt1, by rw [er]⟩
      case measure => simp only [intOf]; rw [er]; simpa using HM.out
    · have hown2 : OwnI wr wd.heap.size (.slice al q cl) q (upd g q (t : Int)) := HO.out.congr fun i hi => (upd_ne _ _ (by omega)).symm
      obtain ⟨v', W2, hr2, hown3, hb2⟩ := hown2.push hb.size (x := (t : Int)) (upd_at _ _ _).symm (by omega)
      have R2 : Hid _ := hr2
      have HO2 : Hid (OwnI W2 wd.heap.size v' (q + 1) (upd g q (t : Int))) := hown3
      have HB2 : Hid (Below wd.heap.size wd W2) := hb.trans hb2
      have HR2 : Hid (∀ a, a < q + 1 → 0 ≤ upd g q (t : Int) a ∧ upd g q (t : Int) a < n + p) := fun a ha => by
        by_cases e : a = q
        · rw [e, upd_at]; omega
        · rw [upd_ne _ _ e]; exact HR.out a (by omega)
      have HD2 : Hid (∀ a, a < q + 1 → ∀ b, b < q + 1 → upd g q (t : Int) a = upd g q (t : Int) b → a = b) := fun a ha b hb' e => by
        by_cases ea : a = q
        · by_cases eb : b = q
          · omega
          · rw [ea, upd_at, upd_ne _ _ eb] at e
            exact absurd e.symm (hout b (by omega))
        · by_cases eb : b = q
          · rw [eb, upd_at, upd_ne _ _ ea] at e
            exact absurd e (hout a (by omega))
          · rw [upd_ne _ _ ea, upd_ne _ _ eb] at e
            exact HD.out a (by omega) b (by omega) e
      clear hr2 hown2 hown3 hb2 hout
      go_wp2_with (at_builtin; refine wpList_append_ran (by rfl) _ _ 40 (by rfl) _ _ _ _ (by rfl) (by rfl) R2.out ?_)
      go_wp2
      go_round
      case rel => exact ⟨q + 1, _, by omega, by go_num, HO2.out, HR2.out, HD2.out, HB2.out⟩
      case measure => simp [intOf]; omega
  · have eqn : q = n := by omega
    subst eqn
    have cR := rows_any (some ⟨h, 0, none⟩) al (q + p) q (q + p) cl AX (fun _ => q) CX (mm q V X) g wr (MX4.out.keep hb) HI.out (isM_const (by omega) (by omega) (by omega) (by omega)) (by omega) (by omega) (fun i hi => by have := HR.out i hi; omega)
    go_wp2_with fail
    go_at_call 12
    refine cR.mono ?_
    rintro e w5 ⟨hcase, b5⟩
    clear cR
    rcases hcase with ⟨_, v5, rfl, ⟨A5, C5, bl5⟩⟩ | ⟨⟨i, hi, hno⟩, _⟩
    rotate_left
    · exfalso
      have := HR.out i hi
      omega
    obtain ⟨a5, c5, rfl⟩ := bl5.form
    have m5 := bl5.mat (fun _ => by omega) (fun i j => mm_B V_B _ _)
    have cI := invert_any a5 q c5 A5 (fun _ => q) C5 (fun i => mm q V X (g i).toNat) w5 m5 (by unfold maxLen; omega)
    clear bl5 m5
    have b05 : Below w.heap.size w w5 := (b04.trans (hb.mono b04.size)).trans (b5.mono (Nat.le_trans b04.size hb.size))
    go_wp2_with fail
    go_at_call 10
    refine cI.mono ?_
    rintro e w6 ⟨hcase, b6⟩
    clear cI
    rcases hcase with ⟨rfl, hno⟩ | ⟨h6, Z, rfl, _, _, _, _, _⟩
    · exfalso
      rcases hno with hno | hno
      · exact hno ⟨isM_const (by omega) (by omega) (by omega) (by omega), by first | rfl | trivial⟩
      · exact hno (sys_inj (r := fun i => (g i).toNat) IV.out LX.out (fun i hi => by have := HR.out i hi; omega) (fun i hi j hj e => HD.out i hi j hj (by have h1 := HR.out i hi; have h2 := HR.out j hj; omega)))
    have b06 : Below w.heap.size w w6 := b05.trans (b6.mono b05.size)
    go_wp2
    go_ret
    exact ⟨rfl, b06⟩


set_option maxRecDepth 100000 in
theorem lifted (os : Os) (started : os.Started) (H : Type) (enc : TypeId × Value → H) :
    ReturnsInHanded {} Try.checked os 5 .any (Rows.matrixSystemSpec.pre6 enc Try.prog Try.f5 Rows.matrixSystemRow.domain false) (Rows.matrixSystemSpec.post enc Try.prog Try.f5 false true false false) := by
  refine returnsInHanded_of_change (C := Try.checked) own started (by kernel_rfl) Try.func5
    (ChangeSpec.witness6 (enc := enc) (C := Try.checked) false ⟨#[], #[.int .u8 0, .int .u8 0, .slice none 0 0], []⟩ 8 (by kernel_rfl) (by kernel_rfl) (by kernel_rfl) (by kernel_rfl)) ?_
  intro W base args ds gs before hval0 hW hcnd _
  have hval : ∀ (j : Nat) t v, Try.f5.params[j]? = some t → args[j]? = some v → Value.okWide Try.prog W .any base t v := hval0
  have hW' := hW
  obtain ⟨p, q, hA0, hV, rfl, hfz, hnd⟩ := hW
  have hA : DataW.TrodAll enc Try.prog W 0 (fun _ => true) true Try.f5.params.toList args.toList ds p := hA0
  rw [Try.params5] at hA hval
  obtain ⟨v0, vs0, d0, ds0, p0, q0, hargs, rfl, rfl, h0, r0⟩ := trodAll_cons hA
  obtain ⟨v1, vs1, d1, ds1, p1, q1, rfl, rfl, rfl, h1, r1⟩ := trodAll_cons r0
  obtain ⟨v2, vs2, d2, ds2, p2, q2, rfl, rfl, rfl, h2, r2⟩ := trodAll_cons r1
  obtain ⟨rfl, rfl, rfl⟩ := trodAll_nil r2
  obtain rfl : args = #[v0, v1, v2] := by cases args; simp_all
  obtain ⟨rfl, rfl⟩ := trodVars_none hV
  have k0 := h0
  have lt0 : ∀ x ∈ p0, x.block < W.heap.size := by obtain ⟨m, hm⟩ := k0; exact DataW.trod_lt m _ _ _ hm
  obtain ⟨x0, e0, rfl⟩ := open_u8 (hval 0 5 v0 rfl rfl) h0
  have k1 := h1
  have lt1 : ∀ x ∈ p1, x.block < W.heap.size := by obtain ⟨m, hm⟩ := k1; exact DataW.trod_lt m _ _ _ hm
  obtain ⟨x1, e1, rfl⟩ := open_u8 (hval 1 5 v1 rfl rfl) h1
  obtain ⟨a2, len2, cap2, rfl⟩ := okWide_slice Try.underlying27 (hval 2 27 v2 rfl rfl)
  have k2 := h2
  have lt2 : ∀ x ∈ p2, x.block < W.heap.size := by obtain ⟨m, hm⟩ := k2; exact DataW.trod_lt m _ _ _ hm
  obtain ⟨f2, m2, z2, e2⟩ := open_row h2
  clear hA0 hval0
  refine (core x0 x1 a2 len2 cap2 f2 W e0 e1 m2 z2 e2).mono fun e W' ⟨he, bel⟩ => ?_
  subst he
  exact ⟨_, rfl, _, _, _, [], _, [], hW', trodAll_mk1 (shut_bool Try.underlying4 _), (trodAll_cons_mk (Below.trod laidOut (by kernel_rfl) (of_decide_eq_true (by kernel_rfl)) k0 bel lt0) (trodAll_cons_mk (Below.trod laidOut (by kernel_rfl) (of_decide_eq_true (by kernel_rfl)) k1 bel lt1) (trodAll_cons_mk (Below.trod laidOut (by kernel_rfl) (of_decide_eq_true (by kernel_rfl)) k2 bel lt2) trodAll_mk0))), rfl, bel.frame _, fun h => by cases h⟩

theorem over : Rows.matrixSystemRow.holds Try.pinned (OpenSpec.ofChange Rows.matrixSystemSpec) :=
  OpenClaim.holds_of_wide 5 Try.f5 rfl rfl rfl rfl rfl rfl rfl ⟨rfl, rfl, rfl, rfl, rfl⟩ rfl rfl rfl rfl rfl (by kernel_rfl) Try.func5 (by kernel_rfl)
    (of_decide_eq_true (by kernel_rfl)) (by unfold Func.isWrapper; first | (rw [if_pos (by decide +kernel)]; kernel_rfl) | (rw [if_neg (by decide +kernel)]; exact ⟨rfl, rfl⟩))
    (fun os started H enc _ => lifted os started H enc)

end matrixSystem

/-- The statement. -/
theorem matrixSystem_holds : Rows.MatrixSystemSaid := matrixSystem.over
#print axioms matrixSystem_holds
end Go.Proofs.Ytehjcceimbpgoaa
