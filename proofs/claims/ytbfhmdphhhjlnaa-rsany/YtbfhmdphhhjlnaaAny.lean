/-
  The law RsAny of layer 3 (from any rows, as many as there are of data, the same comes out; from more of them too) answers true for every data, number and choice of rows.
-/
import Derived.Test.YtbfhmdphhhjlnaaRows
import Derived.WalkKit
import Derived.ProofKit
import Derived.OpenShut
import Derived.ShutString
import Derived.ChangeOld
import Derived.Below
import Derived.SizedLaws
import Derived.Test.YtbfhmdphhhjlnaaLw
namespace Go.Proofs.Ytbfhmdphhhjlnaa
namespace rsAny
open Go.ChangeShapes Go.WideShapes Go.ChangeAt Go.RowKit Gf
set_option linter.unusedVariables false
attribute [local go_sem ↓] Go.wp_at_zero Go.wp_at_succ

theorem own : ownKnob Try.prog.godebug = none := by kernel_rfl
theorem laidOut : laidOutB Try.prog = true := by kernel_rfl

/-- Which rows are kept. -/
def kp (y : Int) (i : Nat) : Bool := bits .and .u32 (y / 2 ^ i) 1 == 1

set_option maxRecDepth 100000 in
set_option maxHeartbeats 4000000 in
theorem core (a : Option Addr) (n c : Nat) (A : Nat → Option Addr) (L C : Nat → Nat) (F : Nat → Nat → Nat) (x : Nat) (y : Int) (w : World) (h : Mat w a n A L C F) (hn : n ≤ maxLen) (hnc : n ≤ c) (hL : ∀ i, i < n → L i ≤ 140737488355328) (hx : x < 256) (y0 : 0 ≤ y) (y1 : y ≤ 4294967295) :
    Calls Try.prog 8 #[.slice a n c, .int .u8 (x : Int), .int .u32 y] w fun e w' => e = .returned (.bool true) ∧ Below w.heap.size w w' := by
  have HM : Hid (Mat w a n A L C F) := h
  have cSm := fun w h => small_any a n c A L C F w h hn hL
  clear h hL
  unfold maxLen at hn
  go_enter Try.func8, Try.ntmps8
  go_wp2_with fail
  go_at_call 9
  refine (awake_any _).mono ?_
  rintro e w1 ⟨rfl, b1⟩
  have HM1 : Hid (Mat w1 a n A L C F) := HM.out.keep b1
  go_wp2_with fail
  go_at_call 14
  refine (cSm w1 HM1.out).mono ?_
  rintro e w' ⟨hcase, rfl⟩
  clear cSm
  rcases hcase with rfl | ⟨rfl, h300, h4000⟩
  · go_wp2
    go_ret
    exact ⟨rfl, b1⟩
  by_cases hn0 : n = 0
  · subst hn0
    go_wp2
    go_ret
    exact ⟨rfl, b1⟩
  have g0 : ((n : Int) == 0) = false := by simp; omega
  by_cases hn12 : 12 < n
  · have g1 : (12 : Int) < (n : Int) := by omega
    go_wp2
    go_ret
    exact ⟨rfl, b1⟩
  have g1 : decide ((12 : Int) < (n : Int)) = false := decide_eq_false (by omega)
  obtain ⟨b, o, rfl, hc⟩ := HM1.out.lies (by omega)
  have c0 := hc 0 (by omega)
  simp only [Nat.add_zero] at c0
  have i0 : (0 : Int) < (n : Int) := by omega
  have hl4 := h4000 0 (by omega)
  have H4 : Hid (∀ i, i < n → L i ≤ 4000) := h4000
  clear hc h4000
  generalize A 0 = a0 at *
  generalize C 0 = cc0 at *
  obtain ⟨l, hl⟩ : ∃ l, L 0 = l := ⟨_, rfl⟩
  have HL : Hid (L 0 = l) := hl
  rw [hl] at c0 hl4
  clear hl
  by_cases hl0 : l = 0
  · subst hl0
    go_wp2
    go_ret
    exact ⟨rfl, b1⟩
  have g2 : ((l : Int) == 0) = false := by simp; omega
  obtain ⟨m, hm⟩ : ∃ m : Nat, 1 + (x : Int) % 10 = (m : Int) := ⟨1 + x % 10, by omega⟩
  have m1 : 1 ≤ m := by omega
  have m10 : m ≤ 10 := by omega
  go_wp2_with fail
  go_at_call 10
  refine (rnew_yes n m w1 (by omega) m1 (by omega)).mono ?_
  rintro e w2 ⟨p, S, rfl, _, hcode, b2⟩
  obtain ⟨N, hN⟩ : ∃ N, n + m = N := ⟨_, rfl⟩
  rw [hN] at hcode
  have HC2 : Hid (Code w2 p n N S) := hcode
  have HM2 : Hid (Mat w2 (some ⟨b, o, none⟩) n A L C F) := HM1.out.keep b2
  have hN1 : n < N := hcode.kN
  have hN2 : N ≤ 22 := by omega
  clear hcode hN hm hx c0
  by_cases hal : ∀ i, i < n → L i = L 0
  rotate_left
  · have cE := encode_no p n N S w2 (some ⟨b, o, none⟩) n c A L C F HC2.out HM2.out (by omega) (fun q => hal q.2)
    clear hal
    go_wp2_with fail
    go_at_call 11
    refine cE.mono ?_
    rintro e w' ⟨rfl, rfl⟩
    go_wp2
    go_ret
    exact ⟨rfl, hop b1 b2⟩
  have cE := encode_yes p n N S w2 (some ⟨b, o, none⟩) c l A C F HC2.out (HM2.out.even (fun i hi => by rw [hal i hi, HL.out]) (by omega)) (by omega)
  have lF := HM2.out.lt
  clear hal
  go_wp2_with fail
  go_at_call 11
  refine cE.mono ?_
  rintro e w3 ⟨v, rfl, r3, b3⟩
  clear cE
  obtain ⟨va, vc, AV, CV, rfl, mV, hbv⟩ := r3.form (fun _ => by omega) (mm_B HC2.out.sys.lt)
  have HV : Hid (Mat w3 va N AV (fun _ => l) CV (mm n S F)) := mV
  have HC3 : Hid (Code w3 p n N S) := HC2.out.keep b3
  have b03 : Below w.heap.size w w3 := hop b1 (hop b2 b3)
  have hsys := HC3.out.sys
  have HS : Hid (IsSys n S) := hsys
  have HF : Hid (B F) := lF
  clear r3 mV hbv hsys lF
  have cN := N_any p n N S w3 HC3.out
  go_wp2_with fail
  go_at_call 22
  refine cN.mono ?_
  rintro e w' ⟨rfl, rfl⟩
  have mk := run_make_row' (P := Try.prog) 27 30 (.slice none 0 0) 24 Try.underlying27 info27 rfl .i64 .i64 N (by omega) (by omega)
  obtain ⟨W, hW⟩ : ∃ W, W = w3.alloc (.cells (madeCells #[.slice none 0 0] N) 30) := ⟨_, rfl⟩
  have mkr : Sem.run Try.prog (Instr.makeSlice 27 (.int .i64 (N : Int)) (.int .i64 (N : Int))) w3 = .ok (.slice (some ⟨w3.heap.size, 0, none⟩) N N) W := by rw [hW]; exact mk w3
  have H0 : Hid (Hold W w3.heap.size N (fun _ => none) (fun _ => 0) (fun _ => 0) (mm n S F)) := by
    rw [hW]; exact Hold.made w3 N _ (mm_B HS.out.lt)
  have HB0 : Hid (Below w3.heap.size w3 W) := by rw [hW]; exact bal _ _
  clear mk hW
  go_wp2_with fail
  go_at_call 22
  refine cN.mono ?_
  rintro e w' ⟨rfl, rfl⟩
  clear cN
  go_wp2
  clear mkr
  go_loopw [12, 13] (fun s v wr => ∃ (t : Nat) (A' : Nat → Option Addr) (L' C' : Nat → Nat), t ≤ N ∧ v = .int .i64 t ∧ s = .int .i64 (((th (kp y) t).length : Nat) : Int) ∧ Hold wr w3.heap.size N A' L' C' (mm n S F) ∧ (∀ i, i < t → L' i = if kp y i = true then l else 0) ∧ (∀ i, t ≤ i → L' i = 0) ∧ Below w3.heap.size w3 wr) (fun _ v _ => N - (intOf v).toNat)
  case atStart => exact ⟨0, _, _, _, by omega, rfl, rfl, H0.out, fun i hi => absurd hi (by omega), fun _ _ => rfl, HB0.out⟩
  case round =>
    obtain ⟨t, A', L', C', ht, rfl, rfl, hold, h1, h2, hb⟩ := hrel
    clear H0 HB0
    have cN := N_any p n N S wr (HC3.out.keep hb)
    have HH : Hid (Hold wr w3.heap.size N A' L' C' (mm n S F)) := hold
    have HN1 : Hid (∀ i, i < t → L' i = if kp y i = true then l else 0) := h1
    have HN2 : Hid (∀ i, t ≤ i → L' i = 0) := h2
    clear hold h1 h2
    have lt1 := th_len_le (kp y) t
    by_cases hlt : t < N
    · have it : (t : Int) < (N : Int) := by omega
      cases hk : kp y t with
      | true =>
        have hkb : (bits .and .u32 (y / 2 ^ t) 1 == 1) = true := hk
        have mV := HV.out.keep hb
        obtain ⟨vb, vo, rfl, hcv⟩ := mV.lies (by omega)
        have cv := hcv t hlt
        have fz := HH.out.soft t hlt
        have cz := HH.out.mat.cellAt hlt
        have HE : Hid (Hold (wr.setCell ⟨w3.heap.size, t, none⟩ (.slice (AV t) l (CV t))) w3.heap.size N (upd A' t (AV t)) (upd L' t l) (upd C' t (CV t)) (mm n S F)) := by
          have := HH.out.set (c := CV t) hlt (mV.row t hlt) (mV.nil t hlt) (by omega)
          rwa [upd_id] at this
        have HB : Hid (Below w3.heap.size w3 (wr.setCell ⟨w3.heap.size, t, none⟩ (.slice (AV t) l (CV t)))) := hb.setCell (Nat.le_refl _) _
        have HK1 : Hid (∀ i, i < t + 1 → upd L' t l i = if kp y i = true then l else 0) := fun i hi => by
          by_cases e : i = t
          · subst e; rw [upd_at, hk]; rfl
          · rw [upd_ne _ _ e]; exact HN1.out i (by omega)
        have HK2 : Hid (∀ i, t + 1 ≤ i → upd L' t l i = 0) := fun i hi => by
          rw [upd_ne _ _ (by omega)]; exact HN2.out i (by omega)
        have ht1 : (th (kp y) (t + 1)).length = (th (kp y) t).length + 1 := by rw [th_yes hk]; simp
        have HT : Hid ((th (kp y) (t + 1)).length = (th (kp y) t).length + 1) := ht1
        clear ht1
        clear mV hcv hk hb HV HC3
        generalize AV t = av at *
        generalize CV t = xv at *
        generalize A' t = az at *
        generalize C' t = xz at *
        obtain ⟨lz, hLz⟩ : ∃ l, L' t = l := ⟨_, rfl⟩
        rw [hLz] at cz
        clear hLz
        obtain ⟨q, hq⟩ : ∃ q, (th (kp y) t).length = q := ⟨_, rfl⟩
        rw [hq] at HT lt1 ⊢
        clear hq
        go_wp2_with fail
        go_at_call 22
        refine cN.mono ?_
        rintro e w' ⟨rfl, rfl⟩
        clear cN
        go_wp2
        go_round
        case rel => exact ⟨t + 1, _, _, _, by omega, by go_num, by rw [HT.out]; go_num, HE.out, HK1.out, HK2.out, HB.out⟩
        case measure => simp [intOf]; omega
      | false =>
        have hkb : (bits .and .u32 (y / 2 ^ t) 1 == 1) = false := hk
        have HK1 : Hid (∀ i, i < t + 1 → L' i = if kp y i = true then l else 0) := fun i hi => by
          by_cases e : i = t
          · subst e; rw [hk, HN2.out i (Nat.le_refl _)]; rfl
          · exact HN1.out i (by omega)
        have HK2 : Hid (∀ i, t + 1 ≤ i → L' i = 0) := fun i hi => HN2.out i (by omega)
        have ht1 : (th (kp y) (t + 1)).length = (th (kp y) t).length := by rw [th_no hk]
        have HT : Hid ((th (kp y) (t + 1)).length = (th (kp y) t).length) := ht1
        clear ht1
        clear hk HV HC3
        go_wp2_with fail
        go_at_call 22
        refine cN.mono ?_
        rintro e w' ⟨rfl, rfl⟩
        clear cN
        go_wp2
        go_round
        case rel => exact ⟨t + 1, _, _, _, by omega, by go_num, by rw [HT.out], HH.out, HK1.out, HK2.out, hb⟩
        case measure => simp [intOf]; omega
    · have : t = N := by omega
      subst this
      have mV := HV.out.keep hb
      have cR := rebuild_any p n t S wr (some ⟨w3.heap.size, 0, none⟩) t A' L' C' (mm n S F) (HC3.out.keep hb) HH.out.mat (fun i hi => by rw [HN1.out i hi]; split <;> omega)
      have b04 : Below w.heap.size w wr := b03.trans (hb.mono b03.size)
      have HB4 : Hid (Below w.heap.size w wr) := b04
      have HMV : Hid (Mat wr va t AV (fun _ => l) CV (mm n S F)) := mV
      have HCr : Hid (Code wr p n t S) := HC3.out.keep hb
      clear mV b04 b03 hb HV HC3 b1 b2 b3
      go_wp2_with fail
      go_at_call 22
      refine cN.mono ?_
      rintro e w' ⟨rfl, rfl⟩
      clear cN
      go_wp2_with fail
      go_at_call 12
      refine cR.mono ?_
      rintro e w5 ⟨hre, b5⟩
      clear cR
      have HC5 : Hid (Code w5 p n t S) := HCr.out.keep b5
      have b05 : Below w.heap.size w w5 := HB4.out.trans (b5.mono HB4.out.size)
      by_cases hq0 : (th (kp y) t).length = 0
      · have hz : ∀ i, i < t → L' i = 0 := fun i hi => by
          rw [HN1.out i hi]
          cases q : kp y i with
          | false => rfl
          | true => have := ti_has hi q; omega
        have hT := isT_zero hz
        obtain ⟨h5, A5, C5, rfl, m5⟩ := reb_good (D := F) (l := 0) hre HS.out HF.out (by omega) (by omega) (fun i hi _ => hz i hi) (fun _ _ _ j hj => absurd hj (by omega)) (by
          rw [th_congr (q := fun _ => true) (fun i _ => hT i), th_all]
          omega)
        have cN := N_any p n t S w5 HC5.out
        clear m5 hT hz hre
        rw [hq0] at lt1 ⊢
        clear hq0
        go_wp2_with fail
        go_at_call 22
        refine cN.mono ?_
        rintro e w' ⟨rfl, rfl⟩
        go_wp2
        go_ret
        exact ⟨rfl, b05⟩
      · have hpos : ∃ i, i < t ∧ kp y i = true := ⟨ti (kp y) t 0, ti_mem (by omega)⟩
        obtain ⟨i, hi, hki⟩ := hpos
        have hT0 := isT_pos (L := L') (N := t) (x := i) hi (by rw [HN1.out i hi, hki]; simp; omega)
        have hT : ∀ j, j < t → isT L' t j = kp y j := fun j hj => by
          rw [hT0 j, HN1.out j hj]
          cases q : kp y j with
          | true => simp; omega
          | false => simp
        have hth : th (isT L' t) t = th (kp y) t := th_congr hT
        have hlen : ∀ j, j < t → isT L' t j = true → L' j = l := fun j hj q => by rw [hT j hj] at q; rw [HN1.out j hj, q]; rfl
        by_cases hsh : (th (kp y) t).length < n
        · have e5 := reb_short (l := l) hre hlen (by rw [hth]; omega) (by rw [hth]; omega)
          subst e5
          obtain ⟨q, hq⟩ : ∃ q, (th (kp y) t).length = q := ⟨_, rfl⟩
          rw [hq] at hq0 hsh lt1 ⊢
          have g3 : (q : Int) ≠ 0 := by omega
          have g4 : (q : Int) < (n : Int) := by omega
          clear hre hT0 hT hth hlen hq hq0
          go_wp2
          go_ret
          exact ⟨rfl, b05⟩
        · obtain ⟨h5, A5, C5, rfl, m5⟩ := reb_good (D := F) (l := l) hre HS.out HF.out (by omega) (by omega) hlen (fun _ _ _ _ _ => rfl) (by rw [hth]; omega)
          have cQ := rsame_bel (some ⟨h5, 0, none⟩) va t t vc A5 AV (fun _ => l) (fun _ => l) C5 CV _ _ w5 m5 (HMV.out.keep b5) (by unfold maxLen; omega) (fun i hi => ⟨rfl, fun _ _ => rfl⟩)
          obtain ⟨q, hq⟩ : ∃ q, (th (kp y) t).length = q := ⟨_, rfl⟩
          rw [hq] at hq0 hsh lt1 ⊢
          have g3 : (q : Int) ≠ 0 := by omega
          have g4 : ¬ (q : Int) < (n : Int) := by omega
          clear hre hT0 hT hth hlen hq m5 hq0
          go_wp2_with fail
          go_at_call 19
          refine cQ.mono ?_
          rintro e w6 ⟨rfl, b6⟩
          go_wp2
          go_ret
          exact ⟨rfl, b05.trans (b6.mono b05.size)⟩


set_option maxRecDepth 100000 in
theorem lifted (os : Os) (started : os.Started) (H : Type) (enc : TypeId × Value → H) :
    ReturnsInHanded {} Try.checked os 8 .any (Rows.rsAnySpec.pre6 enc Try.prog Try.f8 Rows.rsAnyRow.domain false) (Rows.rsAnySpec.post enc Try.prog Try.f8 false true false false) := by
  refine returnsInHanded_of_change_sized (C := Try.checked) own started (by kernel_rfl) Try.func8
    (ChangeSpec.witness6 (enc := enc) (C := Try.checked) false ⟨#[], #[.slice none 0 0, .int .u8 0, .int .u32 0], []⟩ 8 (by kernel_rfl) (by kernel_rfl) (by kernel_rfl) (by kernel_rfl)) ?_
  intro W base args ds gs before hval0 hW hcnd hsz0 _
  have hval : ∀ (j : Nat) t v, Try.f8.params[j]? = some t → args[j]? = some v → Value.okWide Try.prog W .any base t v := hval0
  have hsz : (DataW.weightsEach Try.prog (Try.f8.params.toList ++ Rows.rsAnySpec.plain.varTypes Try.prog) (ds ++ gs)).all (· ≤ reachBytes) = true := hsz0
  have hW' := hW
  obtain ⟨p, q, hA0, hV, rfl, hfz, hnd⟩ := hW
  have hA : DataW.TrodAll enc Try.prog W 0 (fun _ => true) true Try.f8.params.toList args.toList ds p := hA0
  rw [Try.params8] at hA hval hsz
  obtain ⟨v0, vs0, d0, ds0, p0, q0, hargs, rfl, rfl, h0, r0⟩ := trodAll_cons hA
  obtain ⟨v1, vs1, d1, ds1, p1, q1, rfl, rfl, rfl, h1, r1⟩ := trodAll_cons r0
  obtain ⟨v2, vs2, d2, ds2, p2, q2, rfl, rfl, rfl, h2, r2⟩ := trodAll_cons r1
  obtain ⟨rfl, rfl, rfl⟩ := trodAll_nil r2
  obtain rfl : args = #[v0, v1, v2] := by cases args; simp_all
  obtain ⟨rfl, rfl⟩ := trodVars_none hV
  obtain ⟨a0, len0, cap0, rfl⟩ := okWide_slice Try.underlying27 (hval 0 27 v0 rfl rfl)
  have k0 := h0
  have lt0 : ∀ x ∈ p0, x.block < W.heap.size := by obtain ⟨m, hm⟩ := k0; exact DataW.trod_lt m _ _ _ hm
  have hz0 : ∀ x ∈ d0.weights Try.prog 27, x ≤ reachBytes := fun x hx => by
    have := List.all_eq_true.1 hsz x (DataW.weights_mem_each (j := 0) (t := 27) (d := d0) rfl rfl x hx)
    simpa using this
  obtain ⟨A0, L0, C0, F0, m0, e0, g0, z0⟩ := open_mat2 h0 hz0
  have k1 := h1
  have lt1 : ∀ x ∈ p1, x.block < W.heap.size := by obtain ⟨m, hm⟩ := k1; exact DataW.trod_lt m _ _ _ hm
  obtain ⟨x1, e1, rfl⟩ := open_u8 (hval 1 5 v1 rfl rfl) h1
  have k2 := h2
  have lt2 : ∀ x ∈ p2, x.block < W.heap.size := by obtain ⟨m, hm⟩ := k2; exact DataW.trod_lt m _ _ _ hm
  obtain ⟨x2, rfl, _, _, w2⟩ := open_int Try.underlying52 (hval 2 52 v2 rfl rfl) h2
  have e2 : 0 ≤ x2 ∧ x2 ≤ 4294967295 := by simpa [Lit.wf, IntKind.min, IntKind.max, IntKind.signed, IntKind.bits] using w2
  clear hA0 hval0 hsz0
  refine (core a0 len0 cap0 A0 L0 C0 F0 x1 x2 W m0 e0 g0 z0 e1 e2.1 e2.2).mono fun e W' ⟨he, bel⟩ => ?_
  subst he
  exact ⟨_, rfl, _, _, _, [], _, [], hW', trodAll_mk1 (shut_bool Try.underlying4 _), (trodAll_cons_mk (Below.trod laidOut (by kernel_rfl) (of_decide_eq_true (by kernel_rfl)) k0 bel lt0) (trodAll_cons_mk (Below.trod laidOut (by kernel_rfl) (of_decide_eq_true (by kernel_rfl)) k1 bel lt1) (trodAll_cons_mk (Below.trod laidOut (by kernel_rfl) (of_decide_eq_true (by kernel_rfl)) k2 bel lt2) trodAll_mk0))), rfl, bel.frame _, fun h => by cases h⟩

theorem over : Rows.rsAnyRow.holds Try.pinned (OpenSpec.ofChange Rows.rsAnySpec) :=
  OpenClaim.holds_of_wide 8 Try.f8 rfl rfl rfl rfl rfl rfl rfl ⟨rfl, rfl, rfl, rfl, rfl⟩ rfl rfl rfl rfl rfl (by kernel_rfl) Try.func8 (by kernel_rfl)
    (of_decide_eq_true (by kernel_rfl)) (by unfold Func.isWrapper; first | (rw [if_pos (by decide +kernel)]; kernel_rfl) | (rw [if_neg (by decide +kernel)]; exact ⟨rfl, rfl⟩))
    (fun os started H enc _ => lifted os started H enc)

end rsAny

/-- The statement. -/
theorem rsAny_holds : Rows.RsAnySaid := rsAny.over
#print axioms rsAny_holds
end Go.Proofs.Ytbfhmdphhhjlnaa
