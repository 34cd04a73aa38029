/-
  The law RsAdds of layer 3 (rows of two data, added, are the rows of the sum: parity is made byte by byte, each by itself) answers true for every two data and number.
-/
import Derived.Test.YtbfhmdphhhjlnaaRows
import Derived.WalkKit
import Derived.ProofKit
import Derived.OpenShut
import Derived.ShutString
import Derived.ChangeOld
import Derived.Below
import Derived.SizedLaws
import Derived.Test.YtbfhmdphhhjlnaaRadd
namespace Go.Proofs.Ytbfhmdphhhjlnaa
namespace rsAdds
open Go.ChangeShapes Go.WideShapes Go.ChangeAt Go.RowKit Gf
set_option linter.unusedVariables false
attribute [local go_sem ↓] Go.wp_at_zero Go.wp_at_succ

theorem own : ownKnob Try.prog.godebug = none := by kernel_rfl
theorem laidOut : laidOutB Try.prog = true := by kernel_rfl

/-- The sum of two rows of rows. -/
def xr (F G : Nat → Nat → Nat) : Nat → Nat → Nat := fun i j => F i j ^^^ G i j
theorem xr_B {F G : Nat → Nat → Nat} (hF : B F) (hG : B G) : B (xr F G) := fun i j => xor_lt (hF i j) (hG i j)
theorem mm_xr (k : Nat) (S F G : Nat → Nat → Nat) (i j : Nat) : mm k S (xr F G) i j = mm k S F i j ^^^ mm k S G i j := by
  show xs k (fun t => M (S i t) (F t j ^^^ G t j)) = _
  rw [xs_congr (g := fun t => M (S i t) (F t j) ^^^ M (S i t) (G t j)) (fun t _ => M_xor _ _ _), xs_xor]; rfl

set_option maxRecDepth 100000 in
set_option maxHeartbeats 8000000 in
theorem core (a : Option Addr) (n c : Nat) (A : Nat → Option Addr) (L C : Nat → Nat) (F : Nat → Nat → Nat) (a' : Option Addr) (n' c' : Nat) (A' : Nat → Option Addr) (L' C' : Nat → Nat) (F' : Nat → Nat → Nat) (x : Nat) (w : World)
    (h : Mat w a n A L C F) (hn : n ≤ maxLen) (hnc : n ≤ c) (hL : ∀ i, i < n → L i ≤ 140737488355328) (h' : Mat w a' n' A' L' C' F') (hn' : n' ≤ maxLen) (hnc' : n' ≤ c') (hL' : ∀ i, i < n' → L' i ≤ 140737488355328) (hx : x < 256) :
    Calls Try.prog 7 #[.slice a n c, .slice a' n' c', .int .u8 (x : Int)] w fun e w' => e = .returned (.bool true) ∧ Below w.heap.size w w' := by
  have HM : Hid (Mat w a n A L C F) := h
  have HM' : Hid (Mat w a' n' A' L' C' F') := h'
  have cSm := fun w h => small_any a n c A L C F w h hn hL
  have cSm' := fun w h => small_any a' n' c' A' L' C' F' w h hn' hL'
  clear h hL h' hL' hnc hnc'
  unfold maxLen at hn hn'
  go_enter Try.func7, Try.ntmps7
  go_wp2_with fail
  go_at_call 9
  refine (awake_any _).mono ?_
  rintro e w1 ⟨rfl, b1⟩
  have HM1 : Hid (Mat w1 a n A L C F) := HM.out.keep b1
  have HM1' : Hid (Mat w1 a' n' A' L' C' F') := HM'.out.keep b1
  clear HM HM'
  go_wp2_with fail
  go_at_call_of 14 (Value.slice a n c)
  refine (cSm w1 HM1.out).mono ?_
  rintro e w' ⟨hcase, rfl⟩
  clear cSm
  rcases hcase with rfl | ⟨rfl, h300, h4000⟩
  · go_wp2
    go_ret
    exact ⟨rfl, b1⟩
  go_wp2_with fail
  go_at_call 14
  refine (cSm' w1 HM1'.out).mono ?_
  rintro e w' ⟨hcase, rfl⟩
  clear cSm'
  rcases hcase with rfl | ⟨rfl, h300', h4000'⟩
  · go_wp2
    go_ret
    exact ⟨rfl, b1⟩
  have H4 : Hid (∀ i, i < n → L i ≤ 4000) := h4000
  have H4' : Hid (∀ i, i < n' → L' i ≤ 4000) := h4000'
  clear h4000 h4000'
  by_cases hn0 : n = 0
  · subst hn0
    go_wp2
    go_ret
    exact ⟨rfl, b1⟩
  have g0 : ((n : Int) == 0) = false := by simp; omega
  by_cases hn30 : 30 < n
  · have g1 : (30 : Int) < (n : Int) := by omega
    go_wp2
    go_ret
    exact ⟨rfl, b1⟩
  have g1 : decide ((30 : Int) < (n : Int)) = false := decide_eq_false (by omega)
  by_cases hne : n' = n
  rotate_left
  · have g2 : ((n' : Int) == (n : Int)) = false := by simp; omega
    have g2' : (n' : Int) ≠ (n : Int) := by omega
    go_wp2
    go_ret
    exact ⟨rfl, b1⟩
  subst hne
  obtain ⟨b, o, rfl, hc⟩ := HM1.out.lies (by omega)
  obtain ⟨b', o', rfl, hc'⟩ := HM1'.out.lies (by omega)
  have c0 := hc 0 (by omega)
  simp only [Nat.add_zero] at c0
  have i0 : (0 : Int) < (n' : Int) := by omega
  have hl4 := H4.out 0 (by omega)
  clear hc hc'
  obtain ⟨a0, ha0⟩ : ∃ y, A 0 = y := ⟨_, rfl⟩
  obtain ⟨cc0, hcc0⟩ : ∃ y, C 0 = y := ⟨_, rfl⟩
  obtain ⟨l, hl⟩ : ∃ l, L 0 = l := ⟨_, rfl⟩
  rw [hl, ha0, hcc0] at c0
  rw [hl] at hl4
  clear hl ha0 hcc0
  obtain ⟨m, hm⟩ : ∃ m : Nat, 1 + (x : Int) % 10 = (m : Int) := ⟨1 + x % 10, by omega⟩
  have m1 : 1 ≤ m := by omega
  have m10 : m ≤ 10 := by omega
  go_wp2_with fail
  go_at_call 10
  refine (rnew_yes n' m w1 (by omega) m1 (by omega)).mono ?_
  rintro e w2 ⟨p, S, rfl, _, hcode, b2⟩
  obtain ⟨N, hN⟩ : ∃ N, n' + m = N := ⟨_, rfl⟩
  rw [hN] at hcode
  have HC2 : Hid (Code w2 p n' N S) := hcode
  have HS : Hid (IsSys n' S) := hcode.sys
  have HM2 : Hid (Mat w2 (some ⟨b, o, none⟩) n' A L C F) := HM1.out.keep b2
  have HM2' : Hid (Mat w2 (some ⟨b', o', none⟩) n' A' L' C' F') := HM1'.out.keep b2
  have c02 := (b2.cell (p := ⟨b, o, none⟩) (block_lt_of_cell c0)).trans c0
  have hN1 : n' < N := hcode.kN
  have hN2 : N ≤ 40 := by omega
  have b02 : Below w.heap.size w w2 := hop b1 b2
  have HF : Hid (B F) := HM2.out.lt
  have HF' : Hid (B F') := HM2'.out.lt
  have BX := xr_B HF.out HF'.out
  have HBX : Hid (B (xr F F')) := BX
  have hbs : b < w2.heap.size := block_lt_of_cell c02
  clear hcode hN hm hx c0 b1 b2 HM1 HM1' BX
  go_wp2
  go_loopw [9, 10] (fun s v wr => ∃ t : Nat, t ≤ n' ∧ v = .int .i64 t ∧ Rws wr w2.heap.size s t (fun _ => l) (xr F F') ∧ (∀ i, i < t → L i = l ∧ L' i = l) ∧ Below w2.heap.size w2 wr) (fun _ v _ => n' - (intOf v).toNat)
  case atStart => exact ⟨0, by omega, rfl, Rws.start w2 w2.heap.size _ _, fun i hi => absurd hi (by omega), Below.refl _ _⟩
  case round =>
  obtain ⟨t, ht, rfl, hrw, hsame, hb⟩ := hrel
  have HR : Hid (Rws wr w2.heap.size _ t (fun _ => l) (xr F F')) := hrw
  have HSm : Hid (∀ i, i < t → L i = l ∧ L' i = l) := hsame
  clear hrw hsame
  by_cases hlt : t < n'
  · have it : (t : Int) < (n' : Int) := by omega
    have hM := HM2.out.keep hb
    have hM' := HM2'.out.keep hb
    obtain ⟨q1, q2, e, hc⟩ := hM.lies (by omega)
    injection e with e; injection e with e1 e2; subst e1 e2
    obtain ⟨q1, q2, e, hc'⟩ := hM'.lies (by omega)
    injection e with e; injection e with e1 e2; subst e1 e2
    have ct := hc t hlt
    have ct' := hc' t hlt
    have c0r := (hb.cell (p := ⟨b, o, none⟩) hbs).trans c02
    have lt4 := H4.out t hlt
    have lt4' := H4'.out t hlt
    clear hc hc'
    by_cases he : L t = l ∧ L' t = l
    · obtain ⟨he1, he2⟩ := he
      have hr := hM.row t hlt
      have hr' := hM'.row t hlt
      have hnl := hM.nil t hlt
      rw [he1] at ct hr hnl
      rw [he2] at ct' hr'
      have HSm2 : Hid (∀ i, i < t + 1 → L i = l ∧ L' i = l) := fun i hi => by
        by_cases e : i = t
        · rw [e]; exact ⟨he1, he2⟩
        · exact HSm.out i (by omega)
      obtain ⟨q1, q2, e, hcw⟩ := HM2.out.lies (by omega)
      injection e with e; injection e with e1 e2; subst e1 e2
      obtain ⟨q1, q2, e, hcw'⟩ := HM2'.out.lies (by omega)
      injection e with e; injection e with e1 e2; subst e1 e2
      have hct0 := hcw t hlt
      have hct0' := hcw' t hlt
      have hbs' : b' < w2.heap.size := block_lt_of_cell hct0'
      rw [he1] at hct0
      rw [he2] at hct0'
      clear he1 he2 hM hM' lt4 lt4' hcw hcw'
      have K : Hid (∀ q, Calls Try.prog 21 #[.slice (A t) l (C t), .slice (A' t) l (C' t), .int .u8 1] (wr.drewN q).drew fun e w' => ∃ a1 c1 v' W2, e = .returned (.slice a1 l c1) ∧ Sem.run Try.prog (Builtin.append_ #[27, 27] 27 #[u9, .slice (some ⟨w'.heap.size, 0, none⟩) 1 1]) (w'.alloc (.cells #[.slice a1 l c1] 30)) = .ok v' W2 ∧ Rws W2 w2.heap.size v' (t + 1) (fun _ => l) (xr F F') ∧ Below w2.heap.size w2 W2 ∧ (w'.cell? ⟨b, o + t, none⟩ = some (.slice (A t) l (C t)) ∧ w'.cell? ⟨b', o' + t, none⟩ = some (.slice (A' t) l (C' t))) ∧ ((w'.alloc (.cells #[.slice a1 l c1] 30)).cell? ⟨b, o + t, none⟩ = some (.slice (A t) l (C t)) ∧ (w'.alloc (.cells #[.slice a1 l c1] 30)).cell? ⟨b', o' + t, none⟩ = some (.slice (A' t) l (C' t))) ∧ (W2.cell? ⟨b, o + t, none⟩ = some (.slice (A t) l (C t)) ∧ W2.cell? ⟨b', o' + t, none⟩ = some (.slice (A' t) l (C' t)))) := fun q => by
        refine (radd_any 1 l (C t) l (C' t) (A t) (A' t) (F t) (F' t) (wr.drewN q).drew (by omega) ((hr.drewN q).drewN 1) ((hr'.drewN q).drewN 1) hnl (by omega) (by omega)).mono ?_
        rintro e w3 ⟨a1, c1, rfl, hrow, hnil, hblk, hb3⟩
        have hb3' : Below wr.heap.size wr w3 := (below_drewN (Below.refl wr.heap.size wr) q).drew.trans hb3
        obtain ⟨v', W2, hr2, hbl2, hb2⟩ := HR.out.push (c := c1) Try.underlying27 hb3' hb.size hrow (fun _ ad e z => by
          have q1 := hblk ad e
          have q2 := HR.out.lt ad.block z.symm
          have q3 : (wr.drewN q).drew.heap.size = wr.heap.size := rfl
          omega) hnil (fun j hj => by rw [if_pos hj, M_one_left (HF'.out t j)]; rfl) HBX.out (by omega)
        have z1 := block_lt_of_cell ct
        have z2 := block_lt_of_cell ct'
        have hbW := hop hb3' (bal w3 (.cells #[.slice a1 l c1] 30))
        have hbX : Below w2.heap.size w2 W2 := hb.trans hb2
        have u1 := (hbX.cell (p := ⟨b, o + t, none⟩) hbs).trans hct0
        have u2 := (hbX.cell (p := ⟨b', o' + t, none⟩) hbs').trans hct0'
        exact ⟨a1, c1, v', W2, rfl, hr2, hbl2, hb.trans hb2, ⟨(hb3'.cell (p := ⟨b, o + t, none⟩) z1).trans ct, (hb3'.cell (p := ⟨b', o' + t, none⟩) z2).trans ct'⟩, ⟨(hbW.cell (p := ⟨b, o + t, none⟩) z1).trans ct, (hbW.cell (p := ⟨b', o' + t, none⟩) z2).trans ct'⟩, u1, u2⟩
      clear hr hr' hnl hct0 hct0'
      generalize A t = at1 at *
      generalize C t = ct1 at *
      generalize A' t = at2 at *
      generalize C' t = ct2 at *
      go_wp2
      go_quiet (fail)
      go_wp2
      go_region_held3 (fun w' => w'.cell? ⟨b, o + t, none⟩ = some (.slice at1 l ct1) ∧ w'.cell? ⟨b', o' + t, none⟩ = some (.slice at2 l ct2)) (first | exact y4 | exact y5 | exact y6 | exact ⟨ct, ct'⟩)
        (first | (go_at_call 21; refine (K.out nq).mono ?_; rintro e w3 ⟨a1, c1, v', W2, rfl, y1, y2, y3, y4, y5, y6⟩) | refine step_append_ran (by rfl) _ _ 27 (by rfl) _ _ _ _ (by rfl) (by rfl) y1 ?_)
      all_goals
        go_wp2
        go_round
        case rel => exact ⟨t + 1, by omega, by go_num, y2, HSm2.out, y3⟩
        case measure => simp [intOf]; omega
    · clear hM hM'
      by_cases he1 : L t = l
      · have he2 : ((L' t : Nat) : Int) ≠ (l : Int) := fun e => he ⟨he1, by omega⟩
        rw [he1] at ct
        generalize A t = at1 at *
        generalize C t = ct1 at *
        generalize A' t = at2 at *
        generalize C' t = ct2 at *
        generalize L' t = lt2 at *
        have g5 : ((lt2 : Int) == (l : Int)) = false := by simpa using he2
        go_wp2
        go_quiet (fail)
        go_wp2
        go_ret
        exact ⟨rfl, below_drewN (hop b02 hb) _⟩
      · have he2 : ((L t : Nat) : Int) ≠ (l : Int) := by omega
        generalize A t = at1 at *
        generalize C t = ct1 at *
        generalize A' t = at2 at *
        generalize C' t = ct2 at *
        generalize L t = lt2 at *
        generalize L' t = lt3 at *
        have g5 : ((lt2 : Int) == (l : Int)) = false := by simpa using he2
        have g6 : (lt2 == l) = false := by simpa using he1
        have g7 : ((lt2 : Int) != (l : Int)) = true := by simp; omega
        have g8 : (lt2 != l) = true := by simpa using he1
        go_wp2
        go_quiet (fail)
        go_wp2
        go_ret
        exact ⟨rfl, below_drewN (hop b02 hb) _⟩
  have : t = n' := by omega
  subst this
  obtain ⟨sa, sc, AS, CS, hsv, mS, _, _⟩ := HR.out.form2 (fun _ => by omega) HBX.out
  subst hsv
  have HMS : Hid (Mat wr sa t AS (fun _ => l) CS (xr F F')) := mS
  have HMa : Hid (Mat wr (some ⟨b, o, none⟩) t A (fun _ => l) C F) := (HM2.out.keep hb).even (fun i hi => (HSm.out i hi).1) (by omega)
  have HMb : Hid (Mat wr (some ⟨b', o', none⟩) t A' (fun _ => l) C' F') := (HM2'.out.keep hb).even (fun i hi => (HSm.out i hi).2) (by omega)
  have HC3 : Hid (Code wr p t N S) := HC2.out.keep hb
  have b03 : Below w.heap.size w wr := hop b02 hb
  clear mS HR HM2 HM2' HC2 HSm hb b02 c02
  have cE := encode_yes p t N S wr (some ⟨b, o, none⟩) c l A C F HC3.out HMa.out (by omega)
  go_wp2_with fail
  go_at_call_of 11 (Value.slice (some ⟨b, o, none⟩) t c)
  refine cE.mono ?_
  rintro e w3 ⟨vx, rfl, rx, b3⟩
  clear cE
  obtain ⟨xa, xc, AX, CX, rfl, mX, _⟩ := rx.form (fun _ => by omega) (mm_B HS.out.lt)
  have HX3 : Hid (Mat w3 xa N AX (fun _ => l) CX (mm t S F)) := mX
  clear rx mX
  have cE := encode_yes p t N S w3 (some ⟨b', o', none⟩) c' l A' C' F' (HC3.out.keep b3) (HMb.out.keep b3) (by omega)
  go_wp2_with fail
  go_at_call_of 11 (Value.slice (some ⟨b', o', none⟩) t c')
  refine cE.mono ?_
  rintro e w4 ⟨vy, rfl, ry, b4⟩
  clear cE
  obtain ⟨ya, yc, AY, CY, rfl, mY, _⟩ := ry.form (fun _ => by omega) (mm_B HS.out.lt)
  have HY4 : Hid (Mat w4 ya N AY (fun _ => l) CY (mm t S F')) := mY
  clear ry mY
  have b34 := hop b3 b4
  have cE := encode_yes p t N S w4 sa sc l AS CS (xr F F') (HC3.out.keep b34) (HMS.out.keep b34) (by omega)
  go_wp2_with fail
  go_at_call 11
  refine cE.mono ?_
  rintro e w5 ⟨vz, rfl, rz, b5⟩
  clear cE
  obtain ⟨za, zc, AZ, CZ, rfl, mZ, _⟩ := rz.form (fun _ => by omega) (mm_B HS.out.lt)
  have HZ5 : Hid (Mat w5 za N AZ (fun _ => l) CZ (mm t S (xr F F'))) := mZ
  have HX5 : Hid (Mat w5 xa N AX (fun _ => l) CX (mm t S F)) := HX3.out.keep (hop b4 b5)
  have HY5 : Hid (Mat w5 ya N AY (fun _ => l) CY (mm t S F')) := HY4.out.keep b5
  have b05 : Below w.heap.size w w5 := hop b03 (hop b34 b5)
  have cN := N_any p t N S w5 (HC3.out.keep (hop b34 b5))
  clear rz mZ HX3 HY4 b34 b3 b4 b5 b03 HC3 HMa HMb HMS
  go_wp2_with fail
  go_at_call 22
  refine cN.mono ?_
  rintro e w' ⟨rfl, rfl⟩
  clear cN
  go_wp2
  go_loopw [17] (fun v wr => ∃ r : Nat, r ≤ N ∧ v = .int .i64 r ∧ Below w5.heap.size w5 wr) (fun v _ => N - (intOf v).toNat)
  case atStart => exact ⟨0, by omega, rfl, Below.refl _ _⟩
  case round =>
  obtain ⟨r, hr, rfl, hb⟩ := hrel
  by_cases hlt : r < N
  · have ir : (r : Int) < (N : Int) := by omega
    have mX := HX5.out.keep hb
    have mY := HY5.out.keep hb
    have mZ := HZ5.out.keep hb
    obtain ⟨bx, ox, rfl, hcx⟩ := mX.lies (by omega)
    obtain ⟨by', oy, rfl, hcy⟩ := mY.lies (by omega)
    obtain ⟨bz, oz, rfl, hcz⟩ := mZ.lies (by omega)
    have dx := hcx r hlt
    have dy := hcy r hlt
    have dz := hcz r hlt
    have es : str (fun i => if i < l then mm t S F r i ^^^ M 1 (mm t S F' r i) else mm t S F r i) l = str (mm t S (xr F F') r) l := str_congr fun i hi => by rw [if_pos hi, M_one_left (mm_B HS.out.lt _ _), mm_xr]
    have qz := fun q => conv_row (c := CZ r) ((mZ.row r hlt).drewN q) (fun e => (mZ.nil r hlt e).1)
    have qz0 := qz 1
    have K : Hid (Calls Try.prog 21 #[.slice (AX r) l (CX r), .slice (AY r) l (CY r), .int .u8 1] wr.drew fun e w' => ∃ a1 c1, e = .returned (.slice a1 l c1) ∧ Sem.run Try.prog (convert 30 9 (.slice a1 l c1)) w' = .ok (.string (str (mm t S (xr F F') r) l)) w' ∧ Sem.run Try.prog (convert 30 9 (.slice (AZ r) l (CZ r))) w' = .ok (.string (str (mm t S (xr F F') r) l)) w' ∧ (w'.cell? ⟨bx, ox + r, none⟩ = some (.slice (AX r) l (CX r)) ∧ w'.cell? ⟨by', oy + r, none⟩ = some (.slice (AY r) l (CY r)) ∧ w'.cell? ⟨bz, oz + r, none⟩ = some (.slice (AZ r) l (CZ r))) ∧ Below w5.heap.size w5 w') := by
      refine (radd_any 1 l (CX r) l (CY r) (AX r) (AY r) (mm t S F r) (mm t S F' r) wr.drew (by omega) ((mX.row r hlt).drewN 1) ((mY.row r hlt).drewN 1) (mX.nil r hlt) (by omega) (by omega)).mono ?_
      rintro e w7 ⟨a1, c1, rfl, hrow, hnil, _, hb7⟩
      have hb7' : Below wr.heap.size wr w7 := (Below.refl wr.heap.size wr).drew.trans hb7
      have q1 := conv_row (c := c1) hrow (fun e => (hnil e).1)
      rw [es] at q1
      have q2 := conv_row (c := CZ r) ((mZ.keep hb7').row r hlt) (fun e => (mZ.nil r hlt e).1)
      exact ⟨a1, c1, rfl, q1, q2, ⟨(hb7'.cell (p := ⟨bx, ox + r, none⟩) (block_lt_of_cell dx)).trans dx, (hb7'.cell (p := ⟨by', oy + r, none⟩) (block_lt_of_cell dy)).trans dy, (hb7'.cell (p := ⟨bz, oz + r, none⟩) (block_lt_of_cell dz)).trans dz⟩, hop hb hb7'⟩
    have qzd : Sem.run Try.prog (convert 30 9 (.slice (AZ r) l (CZ r))) wr.drew = .ok (.string (str (mm t S (xr F F') r) l)) wr.drew := qz 1
    clear mX mY mZ hcx hcy hcz es qz qz0
    generalize AX r = ax at *
    generalize CX r = cx at *
    generalize AY r = ay at *
    generalize CY r = cy at *
    generalize AZ r = az at *
    generalize CZ r = cz at *
    generalize str (mm t S (xr F F') r) l = sr at *
    go_wp2
    go_region_with (go_at_call 21; refine K.out.mono ?_; rintro e w7 ⟨a1, c1, rfl, y1, y2, ⟨y41, y42, y43⟩, y5⟩)
    all_goals
      go_wp2
      go_round
      case rel => exact ⟨r + 1, by omega, by go_num, y5⟩
      case measure => simp [intOf]; omega
  · have : r = N := by omega
    subst this
    go_wp2
    go_ret
    exact ⟨rfl, hop b05 hb⟩


set_option maxRecDepth 100000 in
theorem lifted (os : Os) (started : os.Started) (H : Type) (enc : TypeId × Value → H) :
    ReturnsInHanded {} Try.checked os 7 .any (Rows.rsAddsSpec.pre6 enc Try.prog Try.f7 Rows.rsAddsRow.domain false) (Rows.rsAddsSpec.post enc Try.prog Try.f7 false true false false) := by
  refine returnsInHanded_of_change_sized (C := Try.checked) own started (by kernel_rfl) Try.func7
    (ChangeSpec.witness6 (enc := enc) (C := Try.checked) false ⟨#[], #[.slice none 0 0, .slice none 0 0, .int .u8 0], []⟩ 8 (by kernel_rfl) (by kernel_rfl) (by kernel_rfl) (by kernel_rfl)) ?_
  intro W base args ds gs before hval0 hW hcnd hsz0 _
  have hval : ∀ (j : Nat) t v, Try.f7.params[j]? = some t → args[j]? = some v → Value.okWide Try.prog W .any base t v := hval0
  have hsz : (DataW.weightsEach Try.prog (Try.f7.params.toList ++ Rows.rsAddsSpec.plain.varTypes Try.prog) (ds ++ gs)).all (· ≤ reachBytes) = true := hsz0
  have hW' := hW
  obtain ⟨p, q, hA0, hV, rfl, hfz, hnd⟩ := hW
  have hA : DataW.TrodAll enc Try.prog W 0 (fun _ => true) true Try.f7.params.toList args.toList ds p := hA0
  rw [Try.params7] at hA hval hsz
  obtain ⟨v0, vs0, d0, ds0, p0, q0, hargs, rfl, rfl, h0, r0⟩ := trodAll_cons hA
  obtain ⟨v1, vs1, d1, ds1, p1, q1, rfl, rfl, rfl, h1, r1⟩ := trodAll_cons r0
  obtain ⟨v2, vs2, d2, ds2, p2, q2, rfl, rfl, rfl, h2, r2⟩ := trodAll_cons r1
  obtain ⟨rfl, rfl, rfl⟩ := trodAll_nil r2
  obtain rfl : args = #[v0, v1, v2] := by cases args; simp_all
  obtain ⟨rfl, rfl⟩ := trodVars_none hV
  obtain ⟨a0, len0, cap0, rfl⟩ := okWide_slice Try.underlying27 (hval 0 27 v0 rfl rfl)
  have k0 := h0
  have lt0 : ∀ x ∈ p0, x.block < W.heap.size := by obtain ⟨m, hm⟩ := k0; exact DataW.trod_lt m _ _ _ hm
  have hz0 : ∀ x ∈ d0.weights Try.prog 27, x ≤ reachBytes := fun x hx => by
    have := List.all_eq_true.1 hsz x (DataW.weights_mem_each (j := 0) (t := 27) (d := d0) rfl rfl x hx)
    simpa using this
  obtain ⟨A0, L0, C0, F0, m0, e0, g0, z0⟩ := open_mat2 h0 hz0
  obtain ⟨a1, len1, cap1, rfl⟩ := okWide_slice Try.underlying27 (hval 1 27 v1 rfl rfl)
  have k1 := h1
  have lt1 : ∀ x ∈ p1, x.block < W.heap.size := by obtain ⟨m, hm⟩ := k1; exact DataW.trod_lt m _ _ _ hm
  have hz1 : ∀ x ∈ d1.weights Try.prog 27, x ≤ reachBytes := fun x hx => by
    have := List.all_eq_true.1 hsz x (DataW.weights_mem_each (j := 1) (t := 27) (d := d1) rfl rfl x hx)
    simpa using this
  obtain ⟨A1, L1, C1, F1, m1, e1, g1, z1⟩ := open_mat2 h1 hz1
  have k2 := h2
  have lt2 : ∀ x ∈ p2, x.block < W.heap.size := by obtain ⟨m, hm⟩ := k2; exact DataW.trod_lt m _ _ _ hm
  obtain ⟨x2, e2, rfl⟩ := open_u8 (hval 2 5 v2 rfl rfl) h2
  clear hA0 hval0 hsz0
  refine (core a0 len0 cap0 A0 L0 C0 F0 a1 len1 cap1 A1 L1 C1 F1 x2 W m0 e0 g0 z0 m1 e1 g1 z1 e2).mono fun e W' ⟨he, bel⟩ => ?_
  subst he
  exact ⟨_, rfl, _, _, _, [], _, [], hW', trodAll_mk1 (shut_bool Try.underlying4 _), (trodAll_cons_mk (Below.trod laidOut (by kernel_rfl) (of_decide_eq_true (by kernel_rfl)) k0 bel lt0) (trodAll_cons_mk (Below.trod laidOut (by kernel_rfl) (of_decide_eq_true (by kernel_rfl)) k1 bel lt1) (trodAll_cons_mk (Below.trod laidOut (by kernel_rfl) (of_decide_eq_true (by kernel_rfl)) k2 bel lt2) trodAll_mk0))), rfl, bel.frame _, fun h => by cases h⟩

theorem over : Rows.rsAddsRow.holds Try.pinned (OpenSpec.ofChange Rows.rsAddsSpec) :=
  OpenClaim.holds_of_wide 7 Try.f7 rfl rfl rfl rfl rfl rfl rfl ⟨rfl, rfl, rfl, rfl, rfl⟩ rfl rfl rfl rfl rfl (by kernel_rfl) Try.func7 (by kernel_rfl)
    (of_decide_eq_true (by kernel_rfl)) (by unfold Func.isWrapper; first | (rw [if_pos (by decide +kernel)]; kernel_rfl) | (rw [if_neg (by decide +kernel)]; exact ⟨rfl, rfl⟩))
    (fun os started H enc _ => lifted os started H enc)

end rsAdds

/-- The statement. -/
theorem rsAdds_holds : Rows.RsAddsSaid := rsAdds.over
#print axioms rsAdds_holds
end Go.Proofs.Ytbfhmdphhhjlnaa
