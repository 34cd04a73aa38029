/-
  The law RsBack of layer 3 (whatever rows are lost, as many as there is parity for, all are had again; one more lost is told) answers true for every data, number and rows lost.
-/
import Derived.Test.YtbfhmdphhhjlnaaRows
import Derived.WalkKit
import Derived.ProofKit
import Derived.OpenShut
import Derived.ShutString
import Derived.ChangeOld
import Derived.Below
import Derived.SizedLaws
import Derived.Test.YtbfhmdphhhjlnaaLw
namespace Go.Proofs.Ytbfhmdphhhjlnaa
namespace rsBack
open Go.ChangeShapes Go.WideShapes Go.ChangeAt Go.RowKit Gf
set_option linter.unusedVariables false
attribute [local go_sem ↓] Go.wp_at_zero Go.wp_at_succ

theorem own : ownKnob Try.prog.godebug = none := by kernel_rfl
theorem laidOut : laidOutB Try.prog = true := by kernel_rfl

set_option maxRecDepth 100000 in
set_option maxHeartbeats 8000000 in
theorem core (a : Option Addr) (n c : Nat) (A : Nat → Option Addr) (L C : Nat → Nat) (F : Nat → Nat → Nat) (x : Nat) (a2 : Option Addr) (n2 c2 : Nat) (f2 : Nat → Nat) (w : World) (h : Mat w a n A L C F) (hn : n ≤ maxLen) (hnc : n ≤ c) (hL : ∀ i, i < n → L i ≤ 140737488355328) (hx : x < 256) (h2 : Row w a2 n2 f2) (z2 : a2 = none → n2 = 0 ∧ c2 = 0) (l2 : n2 ≤ maxLen) :
    Calls Try.prog 5 #[.slice a n c, .int .u8 (x : Int), .slice a2 n2 c2] w fun e w' => e = .returned (.bool true) ∧ Below w.heap.size w w' := by
  have HM : Hid (Mat w a n A L C F) := h
  have H2 : Hid (Row w a2 n2 f2) := h2
  have cSm := fun w h => small_any a n c A L C F w h hn hL
  clear h hL h2 z2
  unfold maxLen at hn l2
  go_enter Try.func5, Try.ntmps5
  go_wp2_with fail
  go_at_call 9
  refine (awake_any _).mono ?_
  rintro e w1 ⟨rfl, b1⟩
  have HM1 : Hid (Mat w1 a n A L C F) := HM.out.keep b1
  go_wp2_with fail
  go_at_call 14
  refine (cSm w1 HM1.out).mono ?_
  rintro e w' ⟨hcase, rfl⟩
  clear cSm
  rcases hcase with rfl | ⟨rfl, h300, h4000⟩
  · go_wp2
    go_ret
    exact ⟨rfl, b1⟩
  by_cases hn0 : n = 0
  · subst hn0
    go_wp2
    go_ret
    exact ⟨rfl, b1⟩
  have g0 : ((n : Int) == 0) = false := by simp; omega
  by_cases hn30 : 30 < n
  · have g1 : (30 : Int) < (n : Int) := by omega
    go_wp2
    go_ret
    exact ⟨rfl, b1⟩
  have g1 : decide ((30 : Int) < (n : Int)) = false := decide_eq_false (by omega)
  obtain ⟨b, o, rfl, hc⟩ := HM1.out.lies (by omega)
  have c0 := hc 0 (by omega)
  simp only [Nat.add_zero] at c0
  have i0 : (0 : Int) < (n : Int) := by omega
  have hl4 := h4000 0 (by omega)
  have H4 : Hid (∀ i, i < n → L i ≤ 4000) := h4000
  clear hc h4000
  obtain ⟨a0, ha0⟩ : ∃ y, A 0 = y := ⟨_, rfl⟩
  obtain ⟨cc0, hcc0⟩ : ∃ y, C 0 = y := ⟨_, rfl⟩
  obtain ⟨l, hl⟩ : ∃ l, L 0 = l := ⟨_, rfl⟩
  have HL : Hid (L 0 = l) := hl
  rw [hl, ha0, hcc0] at c0
  rw [hl] at hl4
  clear hl ha0 hcc0
  by_cases hl0 : l = 0
  · subst hl0
    go_wp2
    go_ret
    exact ⟨rfl, b1⟩
  have g2 : ((l : Int) == 0) = false := by simp; omega
  obtain ⟨m, hm⟩ : ∃ m : Nat, 1 + (x : Int) % 10 = (m : Int) := ⟨1 + x % 10, by omega⟩
  have m1 : 1 ≤ m := by omega
  have m10 : m ≤ 10 := by omega
  go_wp2_with fail
  go_at_call 10
  refine (rnew_yes n m w1 (by omega) m1 (by omega)).mono ?_
  rintro e w2 ⟨p, S, rfl, _, hcode, b2⟩
  obtain ⟨N, hN⟩ : ∃ N, n + m = N := ⟨_, rfl⟩
  rw [hN] at hcode
  have HC2 : Hid (Code w2 p n N S) := hcode
  have HM2 : Hid (Mat w2 (some ⟨b, o, none⟩) n A L C F) := HM1.out.keep b2
  have c02 := (b2.cell (p := ⟨b, o, none⟩) (block_lt_of_cell c0)).trans c0
  have hN1 : n < N := hcode.kN
  have hN2 : N ≤ 40 := by omega
  have HNm : Hid (n + m = N) := hN
  have b02 : Below w.heap.size w w2 := hop b1 b2
  clear hcode hN hm hx c0 b1 b2
  by_cases hal : ∀ i, i < n → L i = L 0
  rotate_left
  · have cE := encode_no p n N S w2 (some ⟨b, o, none⟩) n c A L C F HC2.out HM2.out (by omega) (fun q => hal q.2)
    have HAL : Hid (¬ ∀ i, i < n → L i = L 0) := hal
    clear hal
    go_wp2_with fail
    go_at_call 11
    refine cE.mono ?_
    rintro e w' ⟨rfl, rfl⟩
    clear cE
    go_wp2
    go_loopw [12] (fun v wr => ∃ t q : Nat, t ≤ n ∧ v = .int .i64 t ∧ wr = w2.drewN q ∧ ∀ i, i < t → L i = L 0) (fun v _ => n - (intOf v).toNat)
    case atStart => exact ⟨0, 0, by omega, rfl, rfl, fun i hi => absurd hi (by omega)⟩
    case round =>
      obtain ⟨t, q, ht, rfl, rfl, hsame⟩ := hrel
      by_cases hlt : t < n
      · obtain ⟨b', o', e, hc⟩ := HM2.out.lies (by omega)
        injection e with e; injection e with e1 e2; subst e1 e2
        have ct := hc t hlt
        have it : (t : Int) < (n : Int) := by omega
        have lt4 := H4.out t hlt
        by_cases he : L t = l
        · have HS : Hid (∀ i, i < t + 1 → L i = L 0) := fun i hi => by
            by_cases e : i = t
            · rw [e, he, HL.out]
            · exact hsame i (by omega)
          rw [he] at ct
          clear hsame hc he lt4
          generalize A t = at' at *
          generalize C t = ct' at *
          go_wp2
          go_quiet (fail)
          go_wp2
          go_round
          case rel => exact ⟨t + 1, _, by omega, by go_num, rfl, HS.out⟩
          case measure => simp [intOf]; omega
        · have he' : ((L t : Nat) : Int) ≠ (l : Int) := by omega
          clear hsame hc he
          generalize A t = at' at *
          generalize C t = ct' at *
          generalize L t = lt' at *
          go_wp2
          go_quiet (fail)
          go_wp2
          go_ret
          exact ⟨rfl, below_drewN b02 _⟩
      · have : t = n := by omega
        subst this
        exact absurd hsame HAL.out
  have cE := encode_yes p n N S w2 (some ⟨b, o, none⟩) c l A C F HC2.out (HM2.out.even (fun i hi => by rw [hal i hi, HL.out]) (by omega)) (by omega)
  have lF := HM2.out.lt
  have HLt : Hid (∀ i, i < n → L i = l) := fun i hi => by rw [hal i hi, HL.out]
  clear hal
  go_wp2_with fail
  go_at_call 11
  refine cE.mono ?_
  rintro e w3 ⟨v, rfl, r3, b3⟩
  clear cE
  obtain ⟨va, vc, AV, CV, rfl, mV, hbv, hvc⟩ := r3.form2 (fun _ => by omega) (mm_B HC2.out.sys.lt)
  have HV : Hid (Mat w3 va N AV (fun _ => l) CV (mm n S F)) := mV
  have HC3 : Hid (Code w3 p n N S) := HC2.out.keep b3
  have HM3 : Hid (Mat w3 (some ⟨b, o, none⟩) n A L C F) := HM2.out.keep b3
  have c03 := (b3.cell (p := ⟨b, o, none⟩) (block_lt_of_cell c02)).trans c02
  have b03 : Below w.heap.size w w3 := hop b02 b3
  have HS : Hid (IsSys n S) := HC3.out.sys
  have HF : Hid (B F) := lF
  clear r3 mV hbv lF c02 b02 b3
  go_wp2
  go_loopw [12] (fun v wr => ∃ t q : Nat, t ≤ n ∧ v = .int .i64 t ∧ wr = w3.drewN q) (fun v _ => n - (intOf v).toNat)
  case atStart => exact ⟨0, 0, by omega, rfl, rfl⟩
  case round =>
  obtain ⟨t, q, ht, rfl, rfl⟩ := hrel
  by_cases hlt : t < n
  · obtain ⟨b', o', e, hc⟩ := HM3.out.lies (by omega)
    injection e with e; injection e with e1 e2; subst e1 e2
    have ct := hc t hlt
    have it : (t : Int) < (n : Int) := by omega
    rw [HLt.out t hlt] at ct
    clear hc
    generalize A t = at' at *
    generalize C t = ct' at *
    go_wp2
    go_quiet (fail)
    go_wp2
    go_round
    case rel => exact ⟨t + 1, _, by omega, by go_num, rfl⟩
    case measure => simp [intOf]; omega
  have : t = n := by omega
  subst this
  obtain ⟨W3, hW3⟩ : ∃ W, W = w3.drewN q := ⟨_, rfl⟩
  rw [← hW3]
  have b3d : Below w3.heap.size w3 W3 := by rw [hW3]; exact below_drewN (Below.refl _ _) q
  have HV3 : Hid (Mat W3 va N AV (fun _ => l) CV (mm t S F)) := HV.out.keep b3d
  have HC4 : Hid (Code W3 p t N S) := HC3.out.keep b3d
  have b04 : Below w.heap.size w W3 := hop b03 b3d
  have hNi : (t : Int) + (m : Int) = (N : Int) := by have := HNm.out; omega
  clear hW3 b3d HV HC3 c03 HM3
  have cC := copy_any va N vc AV (fun _ => l) CV (mm t S F) W3 HV3.out (by omega) (fun _ _ => by omega)
  go_wp2_with fail
  go_at_call 20
  refine cC.mono ?_
  rintro e w5 ⟨v5, rfl, bl5, b5⟩
  clear cC
  obtain ⟨hh, c5, A5, C5, rfl, hold5, hb5, hc5, hA5, _⟩ := bl5.hold (by omega) (fun _ => by omega) (mm_B HS.out.lt)
  have H0 : Hid (Hold w5 hh N A5 (fun _ => l) C5 (mm t S F)) := hold5
  have HA0 : Hid (∀ i, i < N → A5 i ≠ none) := fun i hi e => by
    obtain ⟨g, q, _⟩ := hA5 i hi (by omega)
    rw [e] at q; cases q
  have HR2 : Hid (Row W3 a2 n2 f2) := H2.out.keep b04
  clear bl5 hold5 hA5 H2
  go_wp2
  go_loopw [14, 15] (fun s v wr => ∃ (i : Nat) (gn : Nat → Bool) (A' : Nat → Option Addr) (L' C' : Nat → Nat), i ≤ n2 ∧ v = .int .i64 i ∧ s = .int .i64 (((th gn N).length : Nat) : Int) ∧ (th gn N).length ≤ m + 1 ∧ Hold wr hh N A' L' C' (mm t S F) ∧ (∀ i, i < N → (A' i = none ↔ gn i = true) ∧ L' i = if gn i = true then 0 else l) ∧ Below W3.heap.size W3 wr) (fun _ v _ => n2 - (intOf v).toNat)
  case atStart =>
    have e0 : (th (fun _ => false) N).length = 0 := by unfold th; simp
    exact ⟨0, fun _ => false, A5, _, C5, by omega, rfl, by rw [e0]; rfl, by rw [e0]; omega, H0.out, fun i hi => ⟨⟨fun z => absurd z (HA0.out i hi), fun z => by cases z⟩, rfl⟩, b5⟩
  case round =>
  obtain ⟨i, gn, A', L', C', hi, rfl, rfl, hgm, hold, hgn, hb⟩ := hrel
  have HH : Hid (Hold wr hh N A' L' C' (mm t S F)) := hold
  have HG : Hid (∀ i, i < N → (A' i = none ↔ gn i = true) ∧ L' i = if gn i = true then 0 else l) := hgn
  clear hold hgn H0 HA0
  have lg := th_len_le gn N
  obtain ⟨g, hg⟩ : ∃ g, (th gn N).length = g := ⟨_, rfl⟩
  have HGg : Hid ((th gn N).length = g) := hg
  rw [hg] at hgm lg ⊢
  clear hg
  by_cases hgo : i < n2 ∧ g ≤ m
  · obtain ⟨hi2, hgm2⟩ := hgo
    have ii : (i : Int) < (n2 : Int) := by omega
    have ig : (g : Int) ≤ (m : Int) := by omega
    have hR2 := HR2.out.keep hb
    obtain ⟨b2, o2, rfl, hc2⟩ := hR2.lies (by omega)
    have ci := hc2 i hi2
    have lf := HR2.out.lt i
    clear hc2 hR2
    have hN0 : (N : Int) ≠ 0 := by omega
    have er : ((f2 i : Nat) : Int) % (N : Int) = ((f2 i % N : Nat) : Int) := by rw [Int.natCast_emod]
    have hat : f2 i % N < N := Nat.mod_lt _ (by omega)
    have iat : ((f2 i % N : Nat) : Int) < (N : Int) := by omega
    have cz := HH.out.mat.cellAt hat
    have fz := HH.out.soft _ hat
    obtain ⟨at', hat'⟩ : ∃ y, f2 i % N = y := ⟨_, rfl⟩
    rw [hat'] at er hat iat cz fz
    clear hat'
    cases hA : A' at' with
    | none =>
      rw [hA] at cz
      generalize C' at' = xz at *
      obtain ⟨lz, hLz⟩ : ∃ l, L' at' = l := ⟨_, rfl⟩
      rw [hLz] at cz
      generalize f2 i = fi at *
      clear hA hLz fz
      go_wp2
      go_round
      case rel => exact ⟨i + 1, gn, A', L', C', by omega, by go_num, by rw [HGg.out], by rw [HGg.out]; omega, HH.out, HG.out, hb⟩
      case measure => simp [intOf]; omega
    | some ad =>
      have hng : gn at' = false := by
        cases q : gn at' with
        | false => rfl
        | true => rw [((HG.out at' hat).1).2 q] at hA; cases hA
      have HE : Hid (Hold (wr.setCell ⟨hh, at', none⟩ (.slice none 0 0)) hh N (upd A' at' none) (upd L' at' 0) (upd C' at' 0) (mm t S F)) := by
        have := HH.out.set (a := none) (l := 0) (c := 0) (f := mm t S F at') hat ⟨fun j => mm_B HS.out.lt _ _, fun q => absurd q (by omega)⟩ (fun _ => ⟨rfl, rfl⟩) (by omega)
        rwa [upd_id] at this
      have HB : Hid (Below W3.heap.size W3 (wr.setCell ⟨hh, at', none⟩ (.slice none 0 0))) := hb.setCell hb5 _
      have HG2 : Hid (∀ i, i < N → (upd A' at' none i = none ↔ upd gn at' true i = true) ∧ upd L' at' 0 i = if upd gn at' true i = true then 0 else l) := fun j hj => by
        by_cases e : j = at'
        · subst e; rw [upd_at, upd_at, upd_at]; simp
        · rw [upd_ne _ _ e, upd_ne _ _ e, upd_ne _ _ e]; exact HG.out j hj
      have ht1 : (th (upd gn at' true) N).length = g + 1 := by rw [th_upd hat hng, HGg.out]
      have HT : Hid ((th (upd gn at' true) N).length = g + 1) := ht1
      clear ht1
      rw [hA] at cz
      generalize C' at' = xz at *
      obtain ⟨lz, hLz⟩ : ∃ l, L' at' = l := ⟨_, rfl⟩
      rw [hLz] at cz
      generalize f2 i = fi at *
      clear hA hLz hng hb
      go_wp2
      go_round
      case rel => exact ⟨i + 1, upd gn at' true, _, _, _, by omega, by go_num, by rw [HT.out]; go_num, by rw [HT.out]; omega, HE.out, HG2.out, HB.out⟩
      case measure => simp [intOf]; omega
  · have hstop : ¬ (i : Int) < (n2 : Int) ∨ ((i : Int) < (n2 : Int) ∧ ¬ (g : Int) ≤ (m : Int)) := by omega
    have cR := rebuild_any p t N S wr (some ⟨hh, 0, none⟩) c5 A' L' C' (mm t S F) (HC4.out.keep hb) HH.out.mat (fun i hi => by rw [(HG.out i hi).2]; split <;> omega)
    have b06 : Below w.heap.size w wr := hop b04 hb
    have K : Hid (Calls Try.prog 12 #[.pointer (some ⟨p, 0, none⟩), .slice (some ⟨hh, 0, none⟩) N c5] wr fun e w' => Below w.heap.size w w' ∧ Mat w' va N AV (fun _ => l) CV (mm t S F) ∧ Code w' p t N S ∧
        ((g = N ∧ ∃ v, e = .returned (.tuple #[v, .int .i64 0])) ∨ (g ≠ N ∧ m < g ∧ e = .returned (.tuple #[.slice none 0 0, .int .i64 2])) ∨ (g ≠ N ∧ g ≤ m ∧ ∃ h' A' C', e = .returned (.tuple #[.slice (some ⟨h', 0, none⟩) N N, .int .i64 0]) ∧ Mat w' (some ⟨h', 0, none⟩) N A' (fun _ => l) C' (mm t S F)))) := by
      refine cR.mono ?_
      rintro e w7 ⟨hre, b7⟩
      refine ⟨hop b06 b7, (HV3.out.keep hb).keep b7, (HC4.out.keep hb).keep b7, ?_⟩
      have hboth := th_both gn N
      rw [HGg.out] at hboth
      by_cases hgN : g = N
      · have hz : ∀ i, i < N → L' i = 0 := fun i hi => by
          rw [(HG.out i hi).2]
          cases q : gn i with
          | true => rfl
          | false =>
            have := ti_has (p := fun i => !gn i) hi (by simp [q])
            omega
        have hT := isT_zero hz
        obtain ⟨h5, A5, C5, rfl, m5⟩ := reb_good (D := F) (l := 0) hre HS.out HF.out (by omega) (by omega) (fun i hi _ => hz i hi) (fun _ _ _ j hj => absurd hj (by omega)) (by
          rw [th_congr (q := fun _ => true) (fun i _ => hT i), th_all]
          omega)
        exact .inl ⟨hgN, _, rfl⟩
      · obtain ⟨y, hy, hgy⟩ : ∃ y, y < N ∧ gn y = false := by
          obtain ⟨q1, q2⟩ := ti_mem (p := fun i => !gn i) (n := N) (i := 0) (by omega)
          exact ⟨_, q1, by simpa using q2⟩
        have hT0 := isT_pos (L := L') (N := N) (x := y) hy (by rw [(HG.out y hy).2, hgy]; simp; omega)
        have hT : ∀ j, j < N → isT L' N j = !gn j := fun j hj => by
          rw [hT0 j, (HG.out j hj).2]
          cases q : gn j with
          | true => simp
          | false => simp; omega
        have hth : th (isT L' N) N = th (fun j => !gn j) N := th_congr hT
        have hlen : ∀ j, j < N → isT L' N j = true → L' j = l := fun j hj q => by
          rw [hT j hj] at q
          rw [(HG.out j hj).2]
          cases z : gn j with
          | false => rfl
          | true => rw [z] at q; cases q
        have hNm := HNm.out
        by_cases hsh : m < g
        · exact .inr (.inl ⟨hgN, hsh, reb_short (l := l) hre hlen (by rw [hth]; omega) (by rw [hth]; omega)⟩)
        · obtain ⟨h5, A5, C5, rfl, m5⟩ := reb_good (D := F) (l := l) hre HS.out HF.out (by omega) (by omega) hlen (fun _ _ _ _ _ => rfl) (by rw [hth]; omega)
          exact .inr (.inr ⟨hgN, by omega, h5, A5, C5, rfl, m5⟩)
    clear cR hb b06 HG HH hgo HR2
    rcases hstop with hs | ⟨hs1, hs2⟩
    all_goals
      go_wp2_with fail
      go_at_call 12
      refine K.out.mono ?_
      rintro e w7 ⟨b7, m7, hc7, hcase⟩
      rcases hcase with ⟨rfl, v7, rfl⟩ | ⟨hgN, hmg, rfl⟩ | ⟨hgN, hmg, h7, A7, C7, rfl, mm7⟩
      · clear m7 hc7
        go_wp2
        go_ret
        exact ⟨rfl, b7⟩
      · have g3 : (g : Int) ≠ (N : Int) := by omega
        have g4 : (m : Int) < (g : Int) := by omega
        clear m7 hc7
        go_wp2
        go_ret
        exact ⟨rfl, b7⟩
      · first | (exfalso; omega) | skip
        all_goals
          have g3 : (g : Int) ≠ (N : Int) := by omega
          have g4 : ¬ (m : Int) < (g : Int) := by omega
          have cV := verify_any p t N S w7 va vc l AV CV (mm t S F) hc7 m7 hvc (by omega)
          have M7 : Hid (Mat w7 va N AV (fun _ => l) CV (mm t S F)) := m7
          have MM7 : Hid (Mat w7 (some ⟨h7, 0, none⟩) N A7 (fun _ => l) C7 (mm t S F)) := mm7
          clear m7 mm7 hc7
          go_wp2_with fail
          go_at_call 13
          refine cV.mono ?_
          rintro e w8 ⟨hv, b8⟩
          clear cV
          rcases hv with ⟨rfl, _⟩ | ⟨_, hno⟩
          rotate_left
          · exact absurd (fun i _ j _ => enc_enc HS.out HF.out i j) hno
          have cQ := rsame_bel (some ⟨h7, 0, none⟩) va N N vc A7 AV (fun _ => l) (fun _ => l) C7 CV _ _ w8 (MM7.out.keep b8) (M7.out.keep b8) (by unfold maxLen; omega) (fun i hi => ⟨rfl, fun _ _ => rfl⟩)
          go_wp2_with fail
          go_at_call 19
          refine cQ.mono ?_
          rintro e w9 ⟨rfl, b9⟩
          clear cQ
          go_wp2
          go_ret
          exact ⟨rfl, hop b7 (hop b8 b9)⟩


set_option maxRecDepth 100000 in
theorem lifted (os : Os) (started : os.Started) (H : Type) (enc : TypeId × Value → H) :
    ReturnsInHanded {} Try.checked os 5 .any (Rows.rsBackSpec.pre6 enc Try.prog Try.f5 Rows.rsBackRow.domain false) (Rows.rsBackSpec.post enc Try.prog Try.f5 false true false false) := by
  refine returnsInHanded_of_change_sized (C := Try.checked) own started (by kernel_rfl) Try.func5
    (ChangeSpec.witness6 (enc := enc) (C := Try.checked) false ⟨#[], #[.slice none 0 0, .int .u8 0, .slice none 0 0], []⟩ 8 (by kernel_rfl) (by kernel_rfl) (by kernel_rfl) (by kernel_rfl)) ?_
  intro W base args ds gs before hval0 hW hcnd hsz0 _
  have hval : ∀ (j : Nat) t v, Try.f5.params[j]? = some t → args[j]? = some v → Value.okWide Try.prog W .any base t v := hval0
  have hsz : (DataW.weightsEach Try.prog (Try.f5.params.toList ++ Rows.rsBackSpec.plain.varTypes Try.prog) (ds ++ gs)).all (· ≤ reachBytes) = true := hsz0
  have hW' := hW
  obtain ⟨p, q, hA0, hV, rfl, hfz, hnd⟩ := hW
  have hA : DataW.TrodAll enc Try.prog W 0 (fun _ => true) true Try.f5.params.toList args.toList ds p := hA0
  rw [Try.params5] at hA hval hsz
  obtain ⟨v0, vs0, d0, ds0, p0, q0, hargs, rfl, rfl, h0, r0⟩ := trodAll_cons hA
  obtain ⟨v1, vs1, d1, ds1, p1, q1, rfl, rfl, rfl, h1, r1⟩ := trodAll_cons r0
  obtain ⟨v2, vs2, d2, ds2, p2, q2, rfl, rfl, rfl, h2, r2⟩ := trodAll_cons r1
  obtain ⟨rfl, rfl, rfl⟩ := trodAll_nil r2
  obtain rfl : args = #[v0, v1, v2] := by cases args; simp_all
  obtain ⟨rfl, rfl⟩ := trodVars_none hV
  obtain ⟨a0, len0, cap0, rfl⟩ := okWide_slice Try.underlying27 (hval 0 27 v0 rfl rfl)
  have k0 := h0
  have lt0 : ∀ x ∈ p0, x.block < W.heap.size := by obtain ⟨m, hm⟩ := k0; exact DataW.trod_lt m _ _ _ hm
  have hz0 : ∀ x ∈ d0.weights Try.prog 27, x ≤ reachBytes := fun x hx => by
    have := List.all_eq_true.1 hsz x (DataW.weights_mem_each (j := 0) (t := 27) (d := d0) rfl rfl x hx)
    simpa using this
  obtain ⟨A0, L0, C0, F0, m0, e0, g0, z0⟩ := open_mat2 h0 hz0
  have k1 := h1
  have lt1 : ∀ x ∈ p1, x.block < W.heap.size := by obtain ⟨m, hm⟩ := k1; exact DataW.trod_lt m _ _ _ hm
  obtain ⟨x1, e1, rfl⟩ := open_u8 (hval 1 5 v1 rfl rfl) h1
  obtain ⟨a2, len2, cap2, rfl⟩ := okWide_slice Try.underlying30 (hval 2 30 v2 rfl rfl)
  have k2 := h2
  have lt2 : ∀ x ∈ p2, x.block < W.heap.size := by obtain ⟨m, hm⟩ := k2; exact DataW.trod_lt m _ _ _ hm
  obtain ⟨f2, m2, z2, e2⟩ := open_row h2
  clear hA0 hval0 hsz0
  refine (core a0 len0 cap0 A0 L0 C0 F0 x1 a2 len2 cap2 f2 W m0 e0 g0 z0 e1 m2 z2 e2).mono fun e W' ⟨he, bel⟩ => ?_
  subst he
  exact ⟨_, rfl, _, _, _, [], _, [], hW', trodAll_mk1 (shut_bool Try.underlying4 _), (trodAll_cons_mk (Below.trod laidOut (by kernel_rfl) (of_decide_eq_true (by kernel_rfl)) k0 bel lt0) (trodAll_cons_mk (Below.trod laidOut (by kernel_rfl) (of_decide_eq_true (by kernel_rfl)) k1 bel lt1) (trodAll_cons_mk (Below.trod laidOut (by kernel_rfl) (of_decide_eq_true (by kernel_rfl)) k2 bel lt2) trodAll_mk0))), rfl, bel.frame _, fun h => by cases h⟩

theorem over : Rows.rsBackRow.holds Try.pinned (OpenSpec.ofChange Rows.rsBackSpec) :=
  OpenClaim.holds_of_wide 5 Try.f5 rfl rfl rfl rfl rfl rfl rfl ⟨rfl, rfl, rfl, rfl, rfl⟩ rfl rfl rfl rfl rfl (by kernel_rfl) Try.func5 (by kernel_rfl)
    (of_decide_eq_true (by kernel_rfl)) (by unfold Func.isWrapper; first | (rw [if_pos (by decide +kernel)]; kernel_rfl) | (rw [if_neg (by decide +kernel)]; exact ⟨rfl, rfl⟩))
    (fun os started H enc _ => lifted os started H enc)

end rsBack

/-- The statement. -/
theorem rsBack_holds : Rows.RsBackSaid := rsBack.over
#print axioms rsBack_holds
end Go.Proofs.Ytbfhmdphhhjlnaa
