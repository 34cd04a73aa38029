/-
  symMerge, where neither side is one element, the middle on the left of the second part.
-/
import Derived.Test.YtahnkkifegdjeaaStB
import Derived.Test.YtahnkkifegdjeaaPgN
import Derived.Deep.Cut
namespace Go.Proofs.Ytahnkkifegdjeaa
open Go.Shelf Go.RowKit Go.Lib Go.Sort Pg
set_option linter.unusedVariables false

set_option maxHeartbeats 8000000 in
set_option maxRecDepth 1000000 in
theorem merge_hi {P : Program} {α : Type} [Inhabited α] {k : Nat} (L : Ip P k) (enc : α → List Value) (cf : α → α → Int) (hO : SWO (ltOf cf)) (g : Nat) (cb : Array Value) (blk off cap a m b : Nat) (d0 d : Array α) (w0 w : World)
    (eg : ∀ args w, (callFunc g args).run P w = .ok (.enter g args) w) (hC : CmpLays P g cb enc k cf blk off d0.size w0) (R : RowK enc k w0 blk off d0) (hs : d0.size = d.size) (S : SWK enc k w0 blk off d w)
    (ham : a < m) (hmb : m < b) (hb : b ≤ d.size) (hsz : d.size < 1152921504606846976) (h1 : SortedIn (ltOf cf) a m d) (h2 : SortedIn (ltOf cf) m b d)
    (hm1 : a + 1 < m) (hm2 : m + 1 < b) (mid : Nat) (hmid : mid = (a + b) / 2) (hg : mid < m)
    (HRR : ∀ (x y z : Nat) (dk : Array α) (W : World), z - x < b - a → x < y → y < z → z ≤ dk.size → dk.size = d.size → SWK enc k w0 blk off dk W → SortedIn (ltOf cf) x y dk → SortedIn (ltOf cf) y z dk →
      Calls P 37 #[.slice (some ⟨blk, off, none⟩) d.size cap, .int .i64 x, .int .i64 y, .int .i64 z, .func (.func g) #[] cb] W fun e w' => e = .returned (.tuple #[]) ∧ ∃ d', PermIn x z dk d' ∧ SortedIn (ltOf cf) x z d' ∧ SWK enc k w0 blk off d' w') :
    Calls P 37 #[.slice (some ⟨blk, off, none⟩) d.size cap, .int .i64 a, .int .i64 m, .int .i64 b, .func (.func g) #[] cb] w fun e w' => e = .returned (.tuple #[]) ∧ ∃ d', PermIn a b d d' ∧ SortedIn (ltOf cf) a b d' ∧ SWK enc k w0 blk off d' w' := by
  have mixed := L.mixed; have t0 := L.t0; have a0 := L.a0; have z0 := L.z0; have v0 := L.v0; have t3 := L.t3; have a3 := L.a3; have z3 := L.z3; have v3 := L.v3; have t4 := L.t4; have a4 := L.a4; have z4 := L.z4; have v4 := L.v4; have t22 := L.t22; have a22 := L.a22; have z22 := L.z22; have v22 := L.v22; have t60 := L.t60; have a60 := L.a60; have z60 := L.z60; have v60 := L.v60; have t65 := L.t65; have a65 := L.a65; have z65 := L.z65; have v65 := L.v65
  have aE := L.aE; have zE := L.zE
  have FG := L.f37
  have S0 : Aside (SWK enc k w0 blk off d w) := S
  have HC : Aside (CmpLays P g cb enc k cf blk off d0.size w0) := hC
  have HO : Aside (SWO (ltOf cf)) := hO
  have H1 : Aside (SortedIn (ltOf cf) a m d) := h1
  have H2 : Aside (SortedIn (ltOf cf) m b d) := h2
  have e37 : ∀ args w, (callFunc 37 args).run P w = .ok (.enter 37 args) w := enters_of L.f37 (by kernel_rfl) rfl
  have e40 : ∀ args w, (callFunc 40 args).run P w = .ok (.enter 40 args) w := enters_of L.f40 (by kernel_rfl) rfl
  have HR : Aside _ := HRR
  have HROT : Aside (∀ (x y z : Nat) (dk : Array α) (W : World), x < y → y < z → z ≤ dk.size → dk.size = d.size → SWK enc k w0 blk off dk W →
      Calls P 40 #[.slice (some ⟨blk, off, none⟩) d.size cap, .int .i64 x, .int .i64 y, .int .i64 z, .func (.func g) #[] cb] W fun e w' => e = .returned (.tuple #[]) ∧ ∃ d', Rot x y z dk d' ∧ PermIn x z dk d' ∧ SWK enc k w0 blk off d' w') := by
    intro x y z dk W q1 q2 q3 q4 q5
    have := rotate L enc (.func (.func g) #[] cb) blk off cap x y z d0 dk w0 W R (by omega) q5 q1 q2 q3 (by omega)
    rw [q4] at this
    exact this
  obtain ⟨s0, hs0⟩ : ∃ s0, s0 = mid + m - b := ⟨_, rfl⟩
  obtain ⟨r0, hr0⟩ : ∃ r0, r0 = mid := ⟨_, rfl⟩
  have hs0' : s0 = if m > mid then mid + m - b else a := by rw [hs0]; split <;> omega
  have hr0' : r0 = if m > mid then mid else m := by rw [hr0]; split <;> omega
  obtain ⟨b1, b2, b3, b4, b5, b6, b7⟩ := mid_bnd ham hmb hmid hs0' hr0'
  have HS0 : Aside (s0 = if m > mid then mid + m - b else a) := hs0'
  have HR0 : Aside (r0 = if m > mid then mid else m) := hr0'
  have HMID : Aside (mid = (a + b) / 2) := hmid
  have hq : ((m : Int) - (a : Int) == 1) = false := by simp; omega
  have hq2 : ((b : Int) - (m : Int) == 1) = false := by simp; omega
  have HZ : Aside (((a : Int) + (b : Int)) / 2 = (mid : Int)) := by show _ = _; omega
  have HS0Z : Aside ((mid : Int) + (m : Int) - (b : Int) = (s0 : Int)) := by show _ = _; omega
  have HR0Z : Aside (r0 = mid) := hr0
  have wab : IntKind.i64.wrap ((a : Int) + (b : Int)) = (a : Int) + (b : Int) := by rw [IntKind.wrap_i64]; omega
  have wmm : IntKind.i64.wrap ((mid : Int) + (m : Int)) = (mid : Int) + (m : Int) := by rw [IntKind.wrap_i64]; omega
  have wm1 : IntKind.i64.wrap ((mid : Int) + (m : Int) - 1) = (mid : Int) + (m : Int) - 1 := by rw [IntKind.wrap_i64]; omega
  have wmb : IntKind.i64.wrap ((mid : Int) + (m : Int) - (b : Int)) = (mid : Int) + (m : Int) - (b : Int) := by rw [IntKind.wrap_i64]; omega
  have hgz : (mid : Int) < (m : Int) := by omega
  clear S L hC hO h1 h2 HRR hmid hs0 hr0 hs0' hr0'
  go_enter FG, Try.ntmps37
  go_upto_region 25 with fail
  rw [HZ.out]
  go_wp2
  go_loopg [20, 21] (r0 - s0) (fun kx s8 s9 wr => ∃ (i j : Nat), s8 = .int .i64 i ∧ s9 = .int .i64 j ∧ s0 ≤ i ∧ i ≤ j ∧ j ≤ r0 ∧ j - i ≤ kx ∧ Aside (SWK enc k w0 blk off d wr) ∧ Aside ((∀ t, s0 ≤ t → t < i → ltOf cf d[mid + m - 1 - t]! d[t]! = false) ∧ (∀ t, j ≤ t → t < r0 → ltOf cf d[mid + m - 1 - t]! d[t]! = true)))
  case atStart =>
    refine ⟨s0, r0, ?_, ?_, Nat.le_refl _, b2, Nat.le_refl _, Nat.le_refl _, S0, ⟨fun t h3 h4 => by omega, fun t h3 h4 => by omega⟩⟩
    · rw [← HS0Z.out]
    · rw [HR0Z.out]
  case round =>
    clear S0
    obtain ⟨i, j, rfl, rfl, hmi, hij, hjb, hkx, S1, I⟩ := hrel
    by_cases hlt : i < j
    · have hltz : (i : Int) < (j : Int) := by omega
      obtain ⟨h, hh⟩ : ∃ h, h = (i + j) / 2 := ⟨_, rfl⟩
      have hih : i ≤ h := by omega
      have hhj : h < j := by omega
      have HH : Hid (((i : Int) + (j : Int)) / 2 = (h : Int)) := by show _ = _; omega
      clear hh
      have wz : IntKind.i64.wrap ((i : Int) + (j : Int)) = (i : Int) + (j : Int) := by rw [IntKind.wrap_i64]; omega
      have I3 := mid_step (c := h) HO.out ham hmb HMID.out HS0.out HR0.out H1.out H2.out hmi hih hhj hjb
      obtain ⟨pc, hpc⟩ : ∃ pc, pc = mid + m - 1 - h := ⟨_, rfl⟩
      rw [← hpc] at I3
      have hpcz : (mid : Int) + (m : Int) - 1 - (h : Int) = (pc : Int) := by omega
      have hpb : pc < d.size := by omega
      go_upto_region 35 with fail
      rw [HH.out]
      clear hpc
      cases hL : ltOf cf d[pc]! d[h]! with
      | true =>
        have I2 : Aside ((∀ t, s0 ≤ t → t < i → ltOf cf d[mid + m - 1 - t]! d[t]! = false) ∧ (∀ t, h ≤ t → t < r0 → ltOf cf d[mid + m - 1 - t]! d[t]! = true)) := ⟨I.out.1, I3.2 hL⟩
        clear I I3
        have ea441 : ((pc : Int)).toNat = pc := by omega
        have pa441 : (0 : Int) ≤ (pc : Int) := by omega
        have ba441 : (pc : Int) < (d.size : Int) := by omega
        have ra441 : IntKind.i64.wrap ((pc : Int)) = (pc : Int) := by rw [IntKind.wrap_i64]; omega
        have ea442 : ((h : Int)).toNat = h := by omega
        have pa442 : (0 : Int) ≤ (h : Int) := by omega
        have ba442 : (h : Int) < (d.size : Int) := by omega
        have ra442 : IntKind.i64.wrap ((h : Int)) = (h : Int) := by rw [IntKind.wrap_i64]; omega
        obtain ⟨x44, hx44⟩ : ∃ z9, z9 = d[pc]! := ⟨_, rfl⟩
        obtain ⟨y44, hy44⟩ : ∃ z9, z9 = d[h]! := ⟨_, rfl⟩
        have l44a := S1.out.ld R (by omega) P (pc) (by omega)
        have l44b := S1.out.ld R (by omega) P (h) (by omega)
        rw [← hx44] at l44a
        rw [← hy44] at l44b
        have hc44 := S1.out.cmp HC.out (by omega) x44 y44
        have hv44 : cf x44 y44 < 0 := by rw [hx44, hy44]; exact of_decide_eq_true hL
        have hd44 : decide (cf x44 y44 < 0) = true := decide_eq_true hv44
        clear hx44 hy44
        go_wp2_with fail
        go_quiet_grown (first | (go_at_fn g; refine Calls.grown_of (hc44 _ _)))
        have S2 : Aside (SWK enc k w0 blk off d (grow (wr.drewN nq) osq)) := S1.out.grown nq osq
        clear l44a l44b hc44 S1
        generalize grow (wr.drewN nq) osq = w2 at S2 ⊢
        clear nq osq
        clear hL
        go_wp2
        go_roundg (h - i)
        case measure => omega
        case rel => exact ⟨i, h, rfl, by first | rfl | go_num | (congr 1; omega), by omega, by omega, by omega, Nat.le_refl _, S2, I2⟩
      | false =>
        have I2 : Aside ((∀ t, s0 ≤ t → t < h + 1 → ltOf cf d[mid + m - 1 - t]! d[t]! = false) ∧ (∀ t, j ≤ t → t < r0 → ltOf cf d[mid + m - 1 - t]! d[t]! = true)) := ⟨I3.1 hL, I.out.2⟩
        clear I I3
        have ea451 : ((pc : Int)).toNat = pc := by omega
        have pa451 : (0 : Int) ≤ (pc : Int) := by omega
        have ba451 : (pc : Int) < (d.size : Int) := by omega
        have ra451 : IntKind.i64.wrap ((pc : Int)) = (pc : Int) := by rw [IntKind.wrap_i64]; omega
        have ea452 : ((h : Int)).toNat = h := by omega
        have pa452 : (0 : Int) ≤ (h : Int) := by omega
        have ba452 : (h : Int) < (d.size : Int) := by omega
        have ra452 : IntKind.i64.wrap ((h : Int)) = (h : Int) := by rw [IntKind.wrap_i64]; omega
        obtain ⟨x45, hx45⟩ : ∃ z9, z9 = d[pc]! := ⟨_, rfl⟩
        obtain ⟨y45, hy45⟩ : ∃ z9, z9 = d[h]! := ⟨_, rfl⟩
        have l45a := S1.out.ld R (by omega) P (pc) (by omega)
        have l45b := S1.out.ld R (by omega) P (h) (by omega)
        rw [← hx45] at l45a
        rw [← hy45] at l45b
        have hc45 := S1.out.cmp HC.out (by omega) x45 y45
        have hv45 : ¬ cf x45 y45 < 0 := by rw [hx45, hy45]; exact of_decide_eq_false hL
        have hd45 : decide (cf x45 y45 < 0) = false := decide_eq_false hv45
        clear hx45 hy45
        go_wp2_with fail
        go_quiet_grown (first | (go_at_fn g; refine Calls.grown_of (hc45 _ _)))
        have S2 : Aside (SWK enc k w0 blk off d (grow (wr.drewN nq) osq)) := S1.out.grown nq osq
        clear l45a l45b hc45 S1
        generalize grow (wr.drewN nq) osq = w2 at S2 ⊢
        clear nq osq
        clear hL
        go_wp2
        go_roundg (j - (h + 1))
        case measure => omega
        case rel => exact ⟨h + 1, j, by first | rfl | go_num | (congr 1; omega), rfl, by omega, by omega, by omega, Nat.le_refl _, S2, I2⟩
    · have hltz : ¬ (i : Int) < (j : Int) := by omega
      obtain rfl : i = j := by omega
      obtain ⟨⟨c1, c2, c3, c4, c5⟩, F1, F2⟩ := mid_end HO.out ham hmb hb HMID.out HS0.out HR0.out H1.out H2.out hmi hjb I.out.1 I.out.2
      obtain ⟨en, hen⟩ : ∃ en, en = mid + m - i := ⟨_, rfl⟩
      rw [← hen] at c2 c5 F1 F2
      have HEN : Aside ((en : Int) = (mid : Int) + (m : Int) - (i : Int)) := by show _ = _; omega
      have wen : IntKind.i64.wrap ((mid : Int) + (m : Int) - (i : Int)) = (mid : Int) + (m : Int) - (i : Int) := by rw [IntKind.wrap_i64]; omega
      have FA : Aside (∀ d1, Rot i m en d d1 → PermIn i en d d1 → MidA (ltOf cf) a i mid en b d d1) := F1
      have FB : Aside (¬ (i < m ∧ m < en) → MidA (ltOf cf) a i mid en b d d) := F2
      have hmn : en ≤ mid + m - i := by omega
      clear F1 F2 hen I H1 H2 HO HC
      go_upto_region 39 with fail
      rw [← HEN.out]
      by_cases x1 : i < m
      · by_cases x2 : m < en
        · have y1 : (i : Int) < (m : Int) := by omega
          have y2 : (m : Int) < (en : Int) := by omega
          have z1 : decide ((i : Int) < (m : Int)) = true := decide_eq_true y1
          have z2 : decide ((m : Int) < (en : Int)) = true := decide_eq_true y2
          have cR := HROT.out i m en d wr x1 x2 (by omega) rfl S1.out
          go_wp2_with fail
          go_at_fn 40
          refine cR.mono ?_
          rintro e w2 ⟨rfl, d1, r1, r2, S2'⟩
          have S2 : Aside (SWK enc k w0 blk off d1 w2) := S2'
          have MA : Aside (MidA (ltOf cf) a i mid en b d d1) := FA.out d1 r1 r2
          clear S2' r1 r2 cR y1 y2 z1 z2 S1
          have d2z : d1.size = d.size := MA.out.perm.1
          by_cases x3 : a < i
          · by_cases x4 : i < mid
            · have y3 : (a : Int) < (i : Int) := by omega
              have y4 : (i : Int) < (mid : Int) := by omega
              have z3' : decide ((a : Int) < (i : Int)) = true := decide_eq_true y3
              have z4' : decide ((i : Int) < (mid : Int)) = true := decide_eq_true y4
              have cA := HR.out a i mid d1 w2 (by omega) x3 x4 (by omega) d2z S2.out MA.out.s1 MA.out.s2
              clear S2
              go_wp2_with fail
              go_at_fn 37
              refine cA.mono ?_
              rintro e w3 ⟨rfl, d3', r1, r2, S3'⟩
              have S3 : Aside (SWK enc k w0 blk off d3' w3) := S3'
              have MB : Aside (MidB (ltOf cf) a i mid en b d d3') := MA.out.goes r1 r2
              clear r1 r2 S3' MA cA
              have d3 : d3'.size = d.size := MB.out.perm.1
              by_cases x5 : mid < en
              · by_cases x6 : en < b
                · have y5 : (mid : Int) < (en : Int) := by omega
                  have y6 : (en : Int) < (b : Int) := by omega
                  have z5 : decide ((mid : Int) < (en : Int)) = true := decide_eq_true y5
                  have z6 : decide ((en : Int) < (b : Int)) = true := decide_eq_true y6
                  have cB := HR.out mid en b d3' w3 (by omega) x5 x6 (by omega) d3 S3.out MB.out.s3 MB.out.s4
                  clear S3
                  go_wp2_with fail
                  go_at_fn 37
                  refine cB.mono ?_
                  rintro e w4 ⟨rfl, d4, r1, r2, S4⟩
                  go_wp2
                  go_end0
                  have := MB.out.goes r1 r2
                  exact ⟨rfl, d4, this.1, this.2, S4⟩
                · have y5 : (mid : Int) < (en : Int) := by omega
                  have y6 : ¬ (en : Int) < (b : Int) := by omega
                  have z5 : decide ((mid : Int) < (en : Int)) = true := decide_eq_true y5
                  have z6 : decide ((en : Int) < (b : Int)) = false := decide_eq_false y6
                  go_wp2
                  go_end0
                  have := MB.out.skip (by omega)
                  exact ⟨rfl, d3', this.1, this.2, S3.out⟩
              · have y5 : ¬ (mid : Int) < (en : Int) := by omega
                have z5 : decide ((mid : Int) < (en : Int)) = false := decide_eq_false y5
                go_wp2
                go_end0
                have := MB.out.skip (by omega)
                exact ⟨rfl, d3', this.1, this.2, S3.out⟩
            · have y3 : (a : Int) < (i : Int) := by omega
              have y4 : ¬ (i : Int) < (mid : Int) := by omega
              have z3' : decide ((a : Int) < (i : Int)) = true := decide_eq_true y3
              have z4' : decide ((i : Int) < (mid : Int)) = false := decide_eq_false y4
              have MB : Aside (MidB (ltOf cf) a i mid en b d d1) := MA.out.skip (by omega)
              have S3 : Aside (SWK enc k w0 blk off d1 w2) := S2
              clear S2 MA
              have d3 : d1.size = d.size := MB.out.perm.1
              by_cases x5 : mid < en
              · by_cases x6 : en < b
                · have y5 : (mid : Int) < (en : Int) := by omega
                  have y6 : (en : Int) < (b : Int) := by omega
                  have z5 : decide ((mid : Int) < (en : Int)) = true := decide_eq_true y5
                  have z6 : decide ((en : Int) < (b : Int)) = true := decide_eq_true y6
                  have cB := HR.out mid en b d1 w2 (by omega) x5 x6 (by omega) d3 S3.out MB.out.s3 MB.out.s4
                  clear S3
                  go_wp2_with fail
                  go_at_fn 37
                  refine cB.mono ?_
                  rintro e w4 ⟨rfl, d4, r1, r2, S4⟩
                  go_wp2
                  go_end0
                  have := MB.out.goes r1 r2
                  exact ⟨rfl, d4, this.1, this.2, S4⟩
                · have y5 : (mid : Int) < (en : Int) := by omega
                  have y6 : ¬ (en : Int) < (b : Int) := by omega
                  have z5 : decide ((mid : Int) < (en : Int)) = true := decide_eq_true y5
                  have z6 : decide ((en : Int) < (b : Int)) = false := decide_eq_false y6
                  go_wp2
                  go_end0
                  have := MB.out.skip (by omega)
                  exact ⟨rfl, d1, this.1, this.2, S3.out⟩
              · have y5 : ¬ (mid : Int) < (en : Int) := by omega
                have z5 : decide ((mid : Int) < (en : Int)) = false := decide_eq_false y5
                go_wp2
                go_end0
                have := MB.out.skip (by omega)
                exact ⟨rfl, d1, this.1, this.2, S3.out⟩
          · have y3 : ¬ (a : Int) < (i : Int) := by omega
            have z3' : decide ((a : Int) < (i : Int)) = false := decide_eq_false y3
            have MB : Aside (MidB (ltOf cf) a i mid en b d d1) := MA.out.skip (by omega)
            have S3 : Aside (SWK enc k w0 blk off d1 w2) := S2
            clear S2 MA
            have d3 : d1.size = d.size := MB.out.perm.1
            by_cases x5 : mid < en
            · by_cases x6 : en < b
              · have y5 : (mid : Int) < (en : Int) := by omega
                have y6 : (en : Int) < (b : Int) := by omega
                have z5 : decide ((mid : Int) < (en : Int)) = true := decide_eq_true y5
                have z6 : decide ((en : Int) < (b : Int)) = true := decide_eq_true y6
                have cB := HR.out mid en b d1 w2 (by omega) x5 x6 (by omega) d3 S3.out MB.out.s3 MB.out.s4
                clear S3
                go_wp2_with fail
                go_at_fn 37
                refine cB.mono ?_
                rintro e w4 ⟨rfl, d4, r1, r2, S4⟩
                go_wp2
                go_end0
                have := MB.out.goes r1 r2
                exact ⟨rfl, d4, this.1, this.2, S4⟩
              · have y5 : (mid : Int) < (en : Int) := by omega
                have y6 : ¬ (en : Int) < (b : Int) := by omega
                have z5 : decide ((mid : Int) < (en : Int)) = true := decide_eq_true y5
                have z6 : decide ((en : Int) < (b : Int)) = false := decide_eq_false y6
                go_wp2
                go_end0
                have := MB.out.skip (by omega)
                exact ⟨rfl, d1, this.1, this.2, S3.out⟩
            · have y5 : ¬ (mid : Int) < (en : Int) := by omega
              have z5 : decide ((mid : Int) < (en : Int)) = false := decide_eq_false y5
              go_wp2
              go_end0
              have := MB.out.skip (by omega)
              exact ⟨rfl, d1, this.1, this.2, S3.out⟩
        · have y1 : (i : Int) < (m : Int) := by omega
          have y2 : ¬ (m : Int) < (en : Int) := by omega
          have z1 : decide ((i : Int) < (m : Int)) = true := decide_eq_true y1
          have z2 : decide ((m : Int) < (en : Int)) = false := decide_eq_false y2
          have MA : Aside (MidA (ltOf cf) a i mid en b d d) := FB.out (by omega)
          have S2 : Aside (SWK enc k w0 blk off d wr) := S1
          clear S1
          have d2z : d.size = d.size := MA.out.perm.1
          by_cases x3 : a < i
          · by_cases x4 : i < mid
            · have y3 : (a : Int) < (i : Int) := by omega
              have y4 : (i : Int) < (mid : Int) := by omega
              have z3' : decide ((a : Int) < (i : Int)) = true := decide_eq_true y3
              have z4' : decide ((i : Int) < (mid : Int)) = true := decide_eq_true y4
              have cA := HR.out a i mid d wr (by omega) x3 x4 (by omega) d2z S2.out MA.out.s1 MA.out.s2
              clear S2
              go_wp2_with fail
              go_at_fn 37
              refine cA.mono ?_
              rintro e w3 ⟨rfl, d3', r1, r2, S3'⟩
              have S3 : Aside (SWK enc k w0 blk off d3' w3) := S3'
              have MB : Aside (MidB (ltOf cf) a i mid en b d d3') := MA.out.goes r1 r2
              clear r1 r2 S3' MA cA
              have d3 : d3'.size = d.size := MB.out.perm.1
              by_cases x5 : mid < en
              · by_cases x6 : en < b
                · have y5 : (mid : Int) < (en : Int) := by omega
                  have y6 : (en : Int) < (b : Int) := by omega
                  have z5 : decide ((mid : Int) < (en : Int)) = true := decide_eq_true y5
                  have z6 : decide ((en : Int) < (b : Int)) = true := decide_eq_true y6
                  have cB := HR.out mid en b d3' w3 (by omega) x5 x6 (by omega) d3 S3.out MB.out.s3 MB.out.s4
                  clear S3
                  go_wp2_with fail
                  go_at_fn 37
                  refine cB.mono ?_
                  rintro e w4 ⟨rfl, d4, r1, r2, S4⟩
                  go_wp2
                  go_end0
                  have := MB.out.goes r1 r2
                  exact ⟨rfl, d4, this.1, this.2, S4⟩
                · have y5 : (mid : Int) < (en : Int) := by omega
                  have y6 : ¬ (en : Int) < (b : Int) := by omega
                  have z5 : decide ((mid : Int) < (en : Int)) = true := decide_eq_true y5
                  have z6 : decide ((en : Int) < (b : Int)) = false := decide_eq_false y6
                  go_wp2
                  go_end0
                  have := MB.out.skip (by omega)
                  exact ⟨rfl, d3', this.1, this.2, S3.out⟩
              · have y5 : ¬ (mid : Int) < (en : Int) := by omega
                have z5 : decide ((mid : Int) < (en : Int)) = false := decide_eq_false y5
                go_wp2
                go_end0
                have := MB.out.skip (by omega)
                exact ⟨rfl, d3', this.1, this.2, S3.out⟩
            · have y3 : (a : Int) < (i : Int) := by omega
              have y4 : ¬ (i : Int) < (mid : Int) := by omega
              have z3' : decide ((a : Int) < (i : Int)) = true := decide_eq_true y3
              have z4' : decide ((i : Int) < (mid : Int)) = false := decide_eq_false y4
              have MB : Aside (MidB (ltOf cf) a i mid en b d d) := MA.out.skip (by omega)
              have S3 : Aside (SWK enc k w0 blk off d wr) := S2
              clear S2 MA
              have d3 : d.size = d.size := MB.out.perm.1
              by_cases x5 : mid < en
              · by_cases x6 : en < b
                · have y5 : (mid : Int) < (en : Int) := by omega
                  have y6 : (en : Int) < (b : Int) := by omega
                  have z5 : decide ((mid : Int) < (en : Int)) = true := decide_eq_true y5
                  have z6 : decide ((en : Int) < (b : Int)) = true := decide_eq_true y6
                  have cB := HR.out mid en b d wr (by omega) x5 x6 (by omega) d3 S3.out MB.out.s3 MB.out.s4
                  clear S3
                  go_wp2_with fail
                  go_at_fn 37
                  refine cB.mono ?_
                  rintro e w4 ⟨rfl, d4, r1, r2, S4⟩
                  go_wp2
                  go_end0
                  have := MB.out.goes r1 r2
                  exact ⟨rfl, d4, this.1, this.2, S4⟩
                · have y5 : (mid : Int) < (en : Int) := by omega
                  have y6 : ¬ (en : Int) < (b : Int) := by omega
                  have z5 : decide ((mid : Int) < (en : Int)) = true := decide_eq_true y5
                  have z6 : decide ((en : Int) < (b : Int)) = false := decide_eq_false y6
                  go_wp2
                  go_end0
                  have := MB.out.skip (by omega)
                  exact ⟨rfl, d, this.1, this.2, S3.out⟩
              · have y5 : ¬ (mid : Int) < (en : Int) := by omega
                have z5 : decide ((mid : Int) < (en : Int)) = false := decide_eq_false y5
                go_wp2
                go_end0
                have := MB.out.skip (by omega)
                exact ⟨rfl, d, this.1, this.2, S3.out⟩
          · have y3 : ¬ (a : Int) < (i : Int) := by omega
            have z3' : decide ((a : Int) < (i : Int)) = false := decide_eq_false y3
            have MB : Aside (MidB (ltOf cf) a i mid en b d d) := MA.out.skip (by omega)
            have S3 : Aside (SWK enc k w0 blk off d wr) := S2
            clear S2 MA
            have d3 : d.size = d.size := MB.out.perm.1
            by_cases x5 : mid < en
            · by_cases x6 : en < b
              · have y5 : (mid : Int) < (en : Int) := by omega
                have y6 : (en : Int) < (b : Int) := by omega
                have z5 : decide ((mid : Int) < (en : Int)) = true := decide_eq_true y5
                have z6 : decide ((en : Int) < (b : Int)) = true := decide_eq_true y6
                have cB := HR.out mid en b d wr (by omega) x5 x6 (by omega) d3 S3.out MB.out.s3 MB.out.s4
                clear S3
                go_wp2_with fail
                go_at_fn 37
                refine cB.mono ?_
                rintro e w4 ⟨rfl, d4, r1, r2, S4⟩
                go_wp2
                go_end0
                have := MB.out.goes r1 r2
                exact ⟨rfl, d4, this.1, this.2, S4⟩
              · have y5 : (mid : Int) < (en : Int) := by omega
                have y6 : ¬ (en : Int) < (b : Int) := by omega
                have z5 : decide ((mid : Int) < (en : Int)) = true := decide_eq_true y5
                have z6 : decide ((en : Int) < (b : Int)) = false := decide_eq_false y6
                go_wp2
                go_end0
                have := MB.out.skip (by omega)
                exact ⟨rfl, d, this.1, this.2, S3.out⟩
            · have y5 : ¬ (mid : Int) < (en : Int) := by omega
              have z5 : decide ((mid : Int) < (en : Int)) = false := decide_eq_false y5
              go_wp2
              go_end0
              have := MB.out.skip (by omega)
              exact ⟨rfl, d, this.1, this.2, S3.out⟩
      · have y1 : ¬ (i : Int) < (m : Int) := by omega
        have z1 : decide ((i : Int) < (m : Int)) = false := decide_eq_false y1
        have MA : Aside (MidA (ltOf cf) a i mid en b d d) := FB.out (by omega)
        have S2 : Aside (SWK enc k w0 blk off d wr) := S1
        clear S1
        have d2z : d.size = d.size := MA.out.perm.1
        by_cases x3 : a < i
        · by_cases x4 : i < mid
          · have y3 : (a : Int) < (i : Int) := by omega
            have y4 : (i : Int) < (mid : Int) := by omega
            have z3' : decide ((a : Int) < (i : Int)) = true := decide_eq_true y3
            have z4' : decide ((i : Int) < (mid : Int)) = true := decide_eq_true y4
            have cA := HR.out a i mid d wr (by omega) x3 x4 (by omega) d2z S2.out MA.out.s1 MA.out.s2
            clear S2
            go_wp2_with fail
            go_at_fn 37
            refine cA.mono ?_
            rintro e w3 ⟨rfl, d3', r1, r2, S3'⟩
            have S3 : Aside (SWK enc k w0 blk off d3' w3) := S3'
            have MB : Aside (MidB (ltOf cf) a i mid en b d d3') := MA.out.goes r1 r2
            clear r1 r2 S3' MA cA
            have d3 : d3'.size = d.size := MB.out.perm.1
            by_cases x5 : mid < en
            · by_cases x6 : en < b
              · have y5 : (mid : Int) < (en : Int) := by omega
                have y6 : (en : Int) < (b : Int) := by omega
                have z5 : decide ((mid : Int) < (en : Int)) = true := decide_eq_true y5
                have z6 : decide ((en : Int) < (b : Int)) = true := decide_eq_true y6
                have cB := HR.out mid en b d3' w3 (by omega) x5 x6 (by omega) d3 S3.out MB.out.s3 MB.out.s4
                clear S3
                go_wp2_with fail
                go_at_fn 37
                refine cB.mono ?_
                rintro e w4 ⟨rfl, d4, r1, r2, S4⟩
                go_wp2
                go_end0
                have := MB.out.goes r1 r2
                exact ⟨rfl, d4, this.1, this.2, S4⟩
              · have y5 : (mid : Int) < (en : Int) := by omega
                have y6 : ¬ (en : Int) < (b : Int) := by omega
                have z5 : decide ((mid : Int) < (en : Int)) = true := decide_eq_true y5
                have z6 : decide ((en : Int) < (b : Int)) = false := decide_eq_false y6
                go_wp2
                go_end0
                have := MB.out.skip (by omega)
                exact ⟨rfl, d3', this.1, this.2, S3.out⟩
            · have y5 : ¬ (mid : Int) < (en : Int) := by omega
              have z5 : decide ((mid : Int) < (en : Int)) = false := decide_eq_false y5
              go_wp2
              go_end0
              have := MB.out.skip (by omega)
              exact ⟨rfl, d3', this.1, this.2, S3.out⟩
          · have y3 : (a : Int) < (i : Int) := by omega
            have y4 : ¬ (i : Int) < (mid : Int) := by omega
            have z3' : decide ((a : Int) < (i : Int)) = true := decide_eq_true y3
            have z4' : decide ((i : Int) < (mid : Int)) = false := decide_eq_false y4
            have MB : Aside (MidB (ltOf cf) a i mid en b d d) := MA.out.skip (by omega)
            have S3 : Aside (SWK enc k w0 blk off d wr) := S2
            clear S2 MA
            have d3 : d.size = d.size := MB.out.perm.1
            by_cases x5 : mid < en
            · by_cases x6 : en < b
              · have y5 : (mid : Int) < (en : Int) := by omega
                have y6 : (en : Int) < (b : Int) := by omega
                have z5 : decide ((mid : Int) < (en : Int)) = true := decide_eq_true y5
                have z6 : decide ((en : Int) < (b : Int)) = true := decide_eq_true y6
                have cB := HR.out mid en b d wr (by omega) x5 x6 (by omega) d3 S3.out MB.out.s3 MB.out.s4
                clear S3
                go_wp2_with fail
                go_at_fn 37
                refine cB.mono ?_
                rintro e w4 ⟨rfl, d4, r1, r2, S4⟩
                go_wp2
                go_end0
                have := MB.out.goes r1 r2
                exact ⟨rfl, d4, this.1, this.2, S4⟩
              · have y5 : (mid : Int) < (en : Int) := by omega
                have y6 : ¬ (en : Int) < (b : Int) := by omega
                have z5 : decide ((mid : Int) < (en : Int)) = true := decide_eq_true y5
                have z6 : decide ((en : Int) < (b : Int)) = false := decide_eq_false y6
                go_wp2
                go_end0
                have := MB.out.skip (by omega)
                exact ⟨rfl, d, this.1, this.2, S3.out⟩
            · have y5 : ¬ (mid : Int) < (en : Int) := by omega
              have z5 : decide ((mid : Int) < (en : Int)) = false := decide_eq_false y5
              go_wp2
              go_end0
              have := MB.out.skip (by omega)
              exact ⟨rfl, d, this.1, this.2, S3.out⟩
        · have y3 : ¬ (a : Int) < (i : Int) := by omega
          have z3' : decide ((a : Int) < (i : Int)) = false := decide_eq_false y3
          have MB : Aside (MidB (ltOf cf) a i mid en b d d) := MA.out.skip (by omega)
          have S3 : Aside (SWK enc k w0 blk off d wr) := S2
          clear S2 MA
          have d3 : d.size = d.size := MB.out.perm.1
          by_cases x5 : mid < en
          · by_cases x6 : en < b
            · have y5 : (mid : Int) < (en : Int) := by omega
              have y6 : (en : Int) < (b : Int) := by omega
              have z5 : decide ((mid : Int) < (en : Int)) = true := decide_eq_true y5
              have z6 : decide ((en : Int) < (b : Int)) = true := decide_eq_true y6
              have cB := HR.out mid en b d wr (by omega) x5 x6 (by omega) d3 S3.out MB.out.s3 MB.out.s4
              clear S3
              go_wp2_with fail
              go_at_fn 37
              refine cB.mono ?_
              rintro e w4 ⟨rfl, d4, r1, r2, S4⟩
              go_wp2
              go_end0
              have := MB.out.goes r1 r2
              exact ⟨rfl, d4, this.1, this.2, S4⟩
            · have y5 : (mid : Int) < (en : Int) := by omega
              have y6 : ¬ (en : Int) < (b : Int) := by omega
              have z5 : decide ((mid : Int) < (en : Int)) = true := decide_eq_true y5
              have z6 : decide ((en : Int) < (b : Int)) = false := decide_eq_false y6
              go_wp2
              go_end0
              have := MB.out.skip (by omega)
              exact ⟨rfl, d, this.1, this.2, S3.out⟩
          · have y5 : ¬ (mid : Int) < (en : Int) := by omega
            have z5 : decide ((mid : Int) < (en : Int)) = false := decide_eq_false y5
            go_wp2
            go_end0
            have := MB.out.skip (by omega)
            exact ⟨rfl, d, this.1, this.2, S3.out⟩
end Go.Proofs.Ytahnkkifegdjeaa
