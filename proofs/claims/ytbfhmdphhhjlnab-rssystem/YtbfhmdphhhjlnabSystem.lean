/-
  The law RsSystem of layer 3 (the data stands in the first rows as it is; parity is what the matrix says, column by column) answers true for every two numbers, row and byte.
-/
import Derived.Test.YtbfhmdphhhjlnabRows
import Derived.WalkKit
import Derived.ProofKit
import Derived.OpenShut
import Derived.ShutString
import Derived.ChangeOld
import Derived.Below
import Derived.SizedLaws
import Derived.Test.YtbfhmdphhhjlnabAwk
import Derived.Test.YtbfhmdphhhjlnabRSys
import Derived.Test.YtbfhmdphhhjlnabTail
namespace Go.Proofs.Ytbfhmdphhhjlnab
namespace rsSystem
open Go.ChangeShapes Go.WideShapes Go.ChangeAt Go.RowKit Gf
set_option linter.unusedVariables false
attribute [local go_sem ↓] Go.wp_at_zero Go.wp_at_succ

theorem own : ownKnob Try.prog.godebug = none := by kernel_rfl
theorem laidOut : laidOutB Try.prog = true := by kernel_rfl

theorem cells22 : Try.prog.cellsOf 22 = 2 := by kernel_rfl
set_option maxRecDepth 100000 in
theorem open_pair8 {H : Type} {enc : TypeId × Value → H} {W : World} {r : Reach} {b0 base : Nat} {sp : Nat → Bool} {held : Bool} {v : Value} {d : DataW H} {p : List MemPlace} (hv : Value.okWide Try.prog W r b0 22 v) (h : DataW.Trod enc Try.prog W base sp held 22 v d p) :
    ∃ x y : Nat, x < 256 ∧ y < 256 ∧ v = .agg #[.int .u8 (x : Int), .int .u8 (y : Int)] := by
  simp only [Value.okWide, Try.underlying22] at hv
  obtain ⟨cs, rfl, hsz, _⟩ := hv
  rw [cells22] at hsz
  obtain ⟨l⟩ := cs
  match l, hsz with
  | [e0, e1], _ =>
    obtain ⟨fuel, hf⟩ := h
    obtain ⟨xs, m, _, _, _, hlen, hel⟩ := DataW.trod_array Try.underlying22 hf
    have t0 := hel 0 (by omega)
    have t1 := hel 1 (by omega)
    rw [cells5] at t0 t1
    match xs, hlen with
    | [x0, x1], _ =>
      simp [Value.cells] at t0 t1
      obtain ⟨a, ea, _, wa⟩ := DataW.trod_int Try.underlying5 t0
      obtain ⟨b, eb, _, wb⟩ := DataW.trod_int Try.underlying5 t1
      simp at ea eb
      subst ea eb
      have ba := bounds_u8 wa
      have bb := bounds_u8 wb
      exact ⟨a.toNat, b.toNat, by omega, by omega, by rw [Int.toNat_of_nonneg ba.1, Int.toNat_of_nonneg bb.1]⟩

theorem one_put_B {ir y : Nat} (hy : y < 256) : B (put (fun _ _ => 0) ir 0 y) := fun i j => by
  unfold put
  split
  · exact hy
  · show (0 : Nat) < 256; omega

theorem mm_one_put {n ir y : Nat} {S : Nat → Nat → Nat} (hi : ir < n) (r : Nat) : mm n S (put (fun _ _ => 0) ir 0 y) r 0 = M (S r ir) y := by
  show xs n (fun t => M (S r t) (put (fun _ _ => 0) ir 0 y t 0)) = _
  rw [xs_single hi (fun t _ ht => by unfold put; rw [if_neg (fun q => ht q.1), M_zero_right])]
  unfold put; rw [if_pos ⟨rfl, rfl⟩]

set_option maxRecDepth 100000 in
set_option maxHeartbeats 8000000 in
theorem core (x y px py : Nat) (w : World) (hx : x < 256) (hy : y < 256) (hpx : px < 256) (hpy : py < 256) :
    Calls Try.prog 3 #[.int .u8 (x : Int), .int .u8 (y : Int), .agg #[.int .u8 (px : Int), .int .u8 (py : Int)]] w fun e w' => e = .returned (.bool true) ∧ Below w.heap.size w w' := by
  obtain ⟨W0, hW0⟩ : ∃ W, W = w.alloc (.cells #[.int .u8 (px : Int), .int .u8 (py : Int)] 22) := ⟨_, rfl⟩
  have b0 : Below w.heap.size w W0 := by rw [hW0]; exact bal _ _
  have hs0 : w.heap.size < W0.heap.size := by rw [hW0]; simp
  have HP0 : Hid (W0.cell? ⟨w.heap.size, 0, none⟩ = some (.int .u8 (px : Int)) ∧ W0.cell? ⟨w.heap.size, 1, none⟩ = some (.int .u8 (py : Int))) := by
    rw [hW0]; constructor <;> (rw [World.cell?_alloc_new]; rfl)
  go_enter Try.func3, Try.ntmps3
  go_wp2_with fail
  go_at_call 4
  rw [← hW0]
  clear hW0
  refine (awake_any _).mono ?_
  rintro e w1 ⟨rfl, b1⟩
  obtain ⟨n, hn⟩ : ∃ n : Nat, 1 + (x : Int) % 12 = (n : Int) := ⟨1 + x % 12, by omega⟩
  obtain ⟨q, hq⟩ : ∃ q : Nat, 1 + (y : Int) % 12 = (q : Int) := ⟨1 + y % 12, by omega⟩
  have n1 : 1 ≤ n := by omega
  have n12 : n ≤ 12 := by omega
  have q1 : 1 ≤ q := by omega
  have q12 : q ≤ 12 := by omega
  go_wp2_with fail
  go_at_call 5
  refine (rnew_yes n q w1 n1 q1 (by omega)).mono ?_
  rintro e w2 ⟨p, S, rfl, _, hcode, b2⟩
  obtain ⟨N, hN⟩ : ∃ N, n + q = N := ⟨_, rfl⟩
  rw [hN] at hcode
  have HC2 : Hid (Code w2 p n N S) := hcode
  have HS : Hid (IsSys n S) := hcode.sys
  have hNi : (n : Int) + (q : Int) = (N : Int) := by omega
  have hNn : n < N := by omega
  have hN24 : N ≤ 24 := by omega
  have HNq : Hid (n + q = N) := hN
  clear hcode hn hq hx hy
  have cR := rsystematic_yes n q w2 n1 q1 (by omega)
  rw [hN] at cR
  clear hN
  go_wp2_with fail
  go_at_call 6
  refine cR.mono ?_
  rintro e w3 ⟨v3, Y, base, rfl, iy, lY, ⟨A3, C3, bl3⟩, b3⟩
  clear cR
  obtain ⟨a3, c3, rfl⟩ := bl3.form
  have M3 : Hid (Mat w3 a3 N A3 (fun _ => n) C3 (mm n V Y)) := bl3.mat (fun _ => by omega) (mm_B V_B)
  have HY : Hid (IsSys n (mm n V Y)) := ⟨Y, iy, lY, rfl⟩
  have b03 : Below W0.heap.size W0 w3 := hop b1 (hop b2 b3)
  have HC3 : Hid (Code w3 p n N S) := HC2.out.keep b3
  have p0 := (b03.cell (p := ⟨w.heap.size, 0, none⟩) hs0).trans HP0.out.1
  have p1 := (b03.cell (p := ⟨w.heap.size, 1, none⟩) hs0).trans HP0.out.2
  have hs3 : w.heap.size < w3.heap.size := block_lt_of_cell p0
  clear bl3 iy lY b1 b2 b3 HC2
  have hn0 : (n : Int) ≠ 0 := by omega
  obtain ⟨ir, hir⟩ : ∃ ir : Nat, (px : Int) % (n : Int) = (ir : Int) := ⟨px % n, by rw [Int.natCast_emod]⟩
  have lir : ir < n := by have := Int.emod_lt_of_pos (px : Int) (b := (n : Int)) (by omega); omega
  have mk := run_make_row' (P := Try.prog) 28 31 (.slice none 0 0) 24 Try.underlying28 info27 rfl .i64 .i64 n (by omega) (by omega)
  obtain ⟨W, hW⟩ : ∃ W, W = w3.alloc (.cells (madeCells #[.slice none 0 0] n) 31) := ⟨_, rfl⟩
  have mkr : Sem.run Try.prog (Instr.makeSlice 28 (.int .i64 (n : Int)) (.int .i64 (n : Int))) w3 = .ok (.slice (some ⟨w3.heap.size, 0, none⟩) n n) W := by rw [hW]; exact mk w3
  have H0 : Hid (Half W w3.heap.size n 1 0) := by rw [hW]; exact Half.start w3 n 1
  have HB0 : Hid (Below w3.heap.size w3 W) := by rw [hW]; exact bal _ _
  clear mk hW
  go_wp2
  clear mkr
  go_loopw [15] (fun v wr => ∃ t : Nat, t ≤ n ∧ v = .int .i64 t ∧ Half wr w3.heap.size n 1 t ∧ Below w3.heap.size w3 wr) (fun v _ => n - (intOf v).toNat)
  case atStart => exact ⟨0, by omega, rfl, H0.out, HB0.out⟩
  case round =>
  obtain ⟨t, ht, rfl, hh, hb⟩ := hrel
  clear H0 HB0
  by_cases hlt : t < n
  · have it : (t : Int) < (n : Int) := by omega
    have z1 := hh.rest t hlt (Nat.le_refl _)
    have z2 := hh.softh t hlt
    have hsz := hb.size
    have z3 : w3.heap.size < wr.heap.size := block_lt_of_cell z1
    have e1 : madeCells #[Value.int .u8 0] 1 = #[Value.int .u8 0] := by apply Array.ext'; rw [toList_madeCells_one]; rfl
    have st := hh.step hlt
    rw [e1, World.setCell_alloc_past _ _ _ _ z3] at st
    have HE : Hid (Half ((wr.setCell ⟨w3.heap.size, t, none⟩ (.slice (some ⟨wr.heap.size, 0, none⟩) 1 1)).alloc (.cells #[.int .u8 0] 5)) w3.heap.size n 1 (t + 1)) := st
    have HB : Hid (Below w3.heap.size w3 ((wr.setCell ⟨w3.heap.size, t, none⟩ (.slice (some ⟨wr.heap.size, 0, none⟩) 1 1)).alloc (.cells #[.int .u8 0] 5))) := hop (hb.setCell (Nat.le_refl _) _) (bal _ _)
    clear st e1
    clear hh hb
    go_wp2
    go_round
    case rel => exact ⟨t + 1, by omega, by go_num, HE.out, HB.out⟩
    case measure => simp [intOf]; omega
  have : t = n := by omega
  subst this
  have hG := hh.done
  have HG : Hid (Grid (wr.setCell ⟨w3.heap.size + 1 + ir, 0, none⟩ (.int .u8 (py : Int))) w3.heap.size t 1 (put (fun _ _ => 0) ir 0 py)) := hG.put lir (by omega)
  have HBg : Hid (Below w3.heap.size w3 (wr.setCell ⟨w3.heap.size + 1 + ir, 0, none⟩ (.int .u8 (py : Int)))) := hb.setCell (by show w3.heap.size ≤ w3.heap.size + 1 + ir; omega) _
  have z1 := hG.hdr ir lir
  have z2 := hG.cell ir lir 0 (by omega)
  have z3 := hG.soft ir lir 0 (by omega)
  have z4 := (hb.cell (p := ⟨w.heap.size, 1, none⟩) hs3).trans p1
  have iir : (ir : Int) < (t : Int) := by omega
  clear hh hG hb
  go_wp2
  refine wp_region_still_tail 7 (by kernel_rfl) (by kernel_rfl) ?_
  change wpStill _ _ wr.drew _ _ _
  simp only [List.take_succ_cons, List.take_zero, List.drop_succ_cons, List.drop_zero]
  repeat still_step
  refine wpStill_nil ?_
  have HG1 : Hid (Grid ((wr.setCell ⟨w3.heap.size + 1 + ir, 0, none⟩ (.int .u8 (py : Int))).drewN 1) w3.heap.size t 1 (put (fun _ _ => 0) ir 0 py)) := ⟨HG.out.hdr, HG.out.softh, HG.out.cell, HG.out.soft⟩
  have HB1 : Hid (Below w3.heap.size w3 ((wr.setCell ⟨w3.heap.size + 1 + ir, 0, none⟩ (.int .u8 (py : Int))).drewN 1)) := below_drewN HBg.out 1
  have lP : B (put (fun _ _ => 0) ir 0 py) := one_put_B hpy
  have cE := encode_yes p t N S ((wr.setCell ⟨w3.heap.size + 1 + ir, 0, none⟩ (.int .u8 (py : Int))).drewN 1) (some ⟨w3.heap.size, 0, none⟩) t 1 _ _ _ (HC3.out.keep HB1.out) (HG1.out.mat (by omega) lP) (by omega)
  go_wp2_with fail
  go_at_call 7
  refine cE.mono ?_
  rintro e w4 ⟨v4, rfl, r4, b4⟩
  clear cE
  obtain ⟨va, vc, AV, CV, rfl, mV, _⟩ := r4.form (fun _ => by omega) (mm_B HS.out.lt)
  have b34 : Below w3.heap.size w3 w4 := hop HB1.out b4
  have HV : Hid (Mat w4 va N AV (fun _ => 1) CV (mm t S (put (fun _ _ => 0) ir 0 py))) := mV
  have MX : Hid (Mat w4 a3 N A3 (fun _ => t) C3 (mm t V Y)) := M3.out.keep b34
  have p14 := (b34.cell (p := ⟨w.heap.size, 1, none⟩) hs3).trans p1
  have b04 : Below w.heap.size w w4 := hop b0 (hop b03 b34)
  clear r4 mV b34 b4 HG1 HB1 HG HBg z1 z2 z3 z4 p0 p1 HC3 M3
  go_wp2
  go_loopw [18] (fun v wr => ∃ r k : Nat, r ≤ N ∧ v = .int .i64 r ∧ wr = w4.drewN k) (fun v _ => N - (intOf v).toNat)
  case atStart => exact ⟨0, 0, by omega, rfl, rfl⟩
  case round =>
  obtain ⟨r, k, hr, rfl, rfl⟩ := hrel
  by_cases hlt : r < N
  · have ir' : (r : Int) < (N : Int) := by omega
    obtain ⟨bv, ov, rfl, hcv⟩ := HV.out.lies (by omega)
    obtain ⟨bx, ox, rfl, hcx⟩ := MX.out.lies (by omega)
    have dv : w4.cell? ⟨bv, ov + r, none⟩ = some (.slice (AV r) 1 (CV r)) := hcv r hlt
    have dx : w4.cell? ⟨bx, ox + r, none⟩ = some (.slice (A3 r) t (C3 r)) := hcx r hlt
    obtain ⟨bv2, ov2, ev, hrv⟩ := (HV.out.row r hlt).lies (by omega)
    obtain ⟨bx2, ox2, ex, hrx⟩ := (MX.out.row r hlt).lies (by omega)
    have dv2 := hrv 0 (by omega)
    simp only [Nat.add_zero] at dv2
    have dx2 := hrx ir lir
    rw [ev] at dv
    rw [ex] at dx
    have hval : mm t S (put (fun _ _ => 0) ir 0 py) r 0 = M (mm t V Y r ir) py := by rw [mm_one_put lir, HS.out.same HY.out r ir lir]
    rw [hval] at dv2
    have lM := mm_B (k := t) (b := Y) V_B r ir
    have cM := fun w => rmul_still (mm t V Y r ir) py w lM hpy
    clear hcv hcx hrv hrx ev ex hval
    generalize mm t V Y r ir = z at *
    generalize M z py = zz at *
    generalize CV r = cvr at *
    generalize C3 r = cxr at *
    go_wp2
    go_quiet ((go_at_call 8; refine (cM _).mono ?_; rintro e w9 ⟨rfl, rfl⟩; exact ⟨rfl, _, rfl⟩))
    go_wp2
    go_round
    case rel => exact ⟨r + 1, _, by omega, by go_num, rfl⟩
    case measure => simp [intOf]; omega
  · have : r = N := by omega
    subst this
    go_wp2
    go_ret
    exact ⟨rfl, below_drewN b04 _⟩


set_option maxRecDepth 100000 in
theorem lifted (os : Os) (started : os.Started) (H : Type) (enc : TypeId × Value → H) :
    ReturnsInHanded {} Try.checked os 3 .any (Rows.rsSystemSpec.pre6 enc Try.prog Try.f3 Rows.rsSystemRow.domain false) (Rows.rsSystemSpec.post enc Try.prog Try.f3 false true false false) := by
  refine returnsInHanded_of_change_sized (C := Try.checked) own started (by kernel_rfl) Try.func3
    (ChangeSpec.witness6 (enc := enc) (C := Try.checked) false ⟨#[], #[.int .u8 0, .int .u8 0, .agg #[.int .u8 0, .int .u8 0]], []⟩ 8 (by kernel_rfl) (by kernel_rfl) (by kernel_rfl) (by kernel_rfl)) ?_
  intro W base args ds gs before hval0 hW hcnd hsz0 _
  have hval : ∀ (j : Nat) t v, Try.f3.params[j]? = some t → args[j]? = some v → Value.okWide Try.prog W .any base t v := hval0
  have hsz : (DataW.weightsEach Try.prog (Try.f3.params.toList ++ Rows.rsSystemSpec.plain.varTypes Try.prog) (ds ++ gs)).all (· ≤ reachBytes) = true := hsz0
  have hW' := hW
  obtain ⟨p, q, hA0, hV, rfl, hfz, hnd⟩ := hW
  have hA : DataW.TrodAll enc Try.prog W 0 (fun _ => true) true Try.f3.params.toList args.toList ds p := hA0
  rw [Try.params3] at hA hval hsz
  obtain ⟨v0, vs0, d0, ds0, p0, q0, hargs, rfl, rfl, h0, r0⟩ := trodAll_cons hA
  obtain ⟨v1, vs1, d1, ds1, p1, q1, rfl, rfl, rfl, h1, r1⟩ := trodAll_cons r0
  obtain ⟨v2, vs2, d2, ds2, p2, q2, rfl, rfl, rfl, h2, r2⟩ := trodAll_cons r1
  obtain ⟨rfl, rfl, rfl⟩ := trodAll_nil r2
  obtain rfl : args = #[v0, v1, v2] := by cases args; simp_all
  obtain ⟨rfl, rfl⟩ := trodVars_none hV
  have k0 := h0
  have lt0 : ∀ x ∈ p0, x.block < W.heap.size := by obtain ⟨m, hm⟩ := k0; exact DataW.trod_lt m _ _ _ hm
  obtain ⟨x0, e0, rfl⟩ := open_u8 (hval 0 5 v0 rfl rfl) h0
  have k1 := h1
  have lt1 : ∀ x ∈ p1, x.block < W.heap.size := by obtain ⟨m, hm⟩ := k1; exact DataW.trod_lt m _ _ _ hm
  obtain ⟨x1, e1, rfl⟩ := open_u8 (hval 1 5 v1 rfl rfl) h1
  have k2 := h2
  have lt2 : ∀ x ∈ p2, x.block < W.heap.size := by obtain ⟨m, hm⟩ := k2; exact DataW.trod_lt m _ _ _ hm
  obtain ⟨x2, y2, e2, g2, rfl⟩ := open_pair8 (hval 2 22 v2 rfl rfl) h2
  clear hA0 hval0 hsz0
  refine (core x0 x1 x2 y2 W e0 e1 e2 g2).mono fun e W' ⟨he, bel⟩ => ?_
  subst he
  exact ⟨_, rfl, _, _, _, [], _, [], hW', trodAll_mk1 (shut_bool Try.underlying4 _), (trodAll_cons_mk (Below.trod laidOut (by kernel_rfl) (of_decide_eq_true (by kernel_rfl)) k0 bel lt0) (trodAll_cons_mk (Below.trod laidOut (by kernel_rfl) (of_decide_eq_true (by kernel_rfl)) k1 bel lt1) (trodAll_cons_mk (Below.trod laidOut (by kernel_rfl) (of_decide_eq_true (by kernel_rfl)) k2 bel lt2) trodAll_mk0))), rfl, bel.frame _, fun h => by cases h⟩

theorem over : Rows.rsSystemRow.holds Try.pinned (OpenSpec.ofChange Rows.rsSystemSpec) :=
  OpenClaim.holds_of_wide 3 Try.f3 rfl rfl rfl rfl rfl rfl rfl ⟨rfl, rfl, rfl, rfl, rfl⟩ rfl rfl rfl rfl rfl (by kernel_rfl) Try.func3 (by kernel_rfl)
    (of_decide_eq_true (by kernel_rfl)) (by unfold Func.isWrapper; first | (rw [if_pos (by decide +kernel)]; kernel_rfl) | (rw [if_neg (by decide +kernel)]; exact ⟨rfl, rfl⟩))
    (fun os started H enc _ => lifted os started H enc)

end rsSystem

/-- The statement. -/
theorem rsSystem_holds : Rows.RsSystemSaid := rsSystem.over
#print axioms rsSystem_holds
end Go.Proofs.Ytbfhmdphhhjlnab
