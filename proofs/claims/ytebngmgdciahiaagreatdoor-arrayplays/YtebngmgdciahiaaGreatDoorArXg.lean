/-
  The document's Format, Voice.
-/
import Derived.Test.YtebngmgdciahiaaGreatDoorArXf
import Derived.Deep.RegionHeldLaw
set_option maxRecDepth 100000
namespace Go.Proofs.YtebngmgdciahiaaGreatDoor
open Go.RowKit Crc
open _root_.Go.Proofs.YtebngmgdciahiaaGreatDoor.Nm _root_.Go.Proofs.YtebngmgdciahiaaGreatDoor.Dk
attribute [local go_sem ↓] Go.wp_at_zero Go.wp_at_succ
set_option linter.unusedVariables false
theorem rformat_no {w : World} {b k m bl : Nat} {P : Nat → Pc} (h : VX w b k m bl P) {i : Int} (hi : i < 0 ∨ ((k + m : Nat) : Int) ≤ i) :
    Calls Tryz.prog 9 #[.pointer (some ⟨b, 0, none⟩), .int .i64 i] w fun e w' => e = .returned (.int .i64 1) ∧ w' = w := by
  obtain ⟨g, cap, _, _, c4, _⟩ := h.cells
  obtain ⟨n, hn⟩ : ∃ n, k + m = n := ⟨_, rfl⟩
  rw [hn] at c4 hi
  clear h
  by_cases h0 : i < 0
  · have g0 : decide (i < 0) = true := decide_eq_true h0
    clear hi h0
    go_enter Tryz.func9, Tryz.ntmps9
    go_wp2
    go_ret
    exact ⟨rfl, rfl⟩
  · have g0 : decide (i < 0) = false := decide_eq_false h0
    have g1 : decide ((n : Int) ≤ i) = true := decide_eq_true (by omega)
    clear hi h0
    go_enter Tryz.func9, Tryz.ntmps9
    go_wp2
    go_ret
    exact ⟨rfl, rfl⟩
theorem rvoice_no {w : World} {b k m bl : Nat} {P : Nat → Pc} (h : VX w b k m bl P) {i : Int} (hi : i < 0 ∨ ((k + m : Nat) : Int) ≤ i) :
    Calls Tryz.prog 11 #[.pointer (some ⟨b, 0, none⟩), .int .i64 i] w fun e w' => e = .returned (.tuple #[.bool false, .int .i64 1]) ∧ w' = w := by
  obtain ⟨g, cap, _, _, c4, _⟩ := h.cells
  obtain ⟨n, hn⟩ : ∃ n, k + m = n := ⟨_, rfl⟩
  rw [hn] at c4 hi
  clear h
  by_cases h0 : i < 0
  · have g0 : decide (i < 0) = true := decide_eq_true h0
    clear hi h0
    go_enter Tryz.func11, Tryz.ntmps11
    go_wp2
    go_ret2
    exact ⟨rfl, rfl⟩
  · have g0 : decide (i < 0) = false := decide_eq_false h0
    have g1 : decide ((n : Int) ≤ i) = true := decide_eq_true (by omega)
    clear hi h0
    go_enter Tryz.func11, Tryz.ntmps11
    go_wp2
    go_ret2
    exact ⟨rfl, rfl⟩
theorem rfmt_at {w : World} {b k m bl : Nat} {P : Nat → Pc} (h : VX w b k m bl P) (hn : k + m ≤ 255) {i : Nat} (hi : i ≤ 255) :
    Calls Tryz.prog 32 #[.pointer (some ⟨b, 0, none⟩), .int .i64 (i : Int)] w fun e w' => ∃ a c, e = .returned (.slice a 11 c) ∧ Hid (Inp w' a 11 c (fmtB k m i) ∧ Below w.heap.size w w') := by
  have := rfmt_any h hn (i : Int)
  rw [show ((i : Int) % 256).toNat = i by omega] at this
  exact this
theorem ba_beq (x y : ByteArray) : (x.toList == y.toList) = decide (x = y) := by
  rw [tx_beq, decide_eq_decide]
  exact ⟨tx_inj, fun e => by rw [e]⟩
theorem qR_fmt (z : Option Fz) (s : St) (y : ByteArray) : qR z s pFmt y := fun _ _ e => absurd e (by decide)
set_option maxHeartbeats 4000000 in
theorem rformat_any {w0 w : World} {R : Rg} {q g : Option Nat} {S T : Nat → St} {z z2 : Option Fz} {j b k m bl : Nat} (h : Ar w0 w R q g S T z z2) (a : Vs R b k m bl) (hN : R.n = k + m) (hn : k + m ≤ 255) {i : Nat} (hi : i < k + m) (hz : ZN j z2) (hj : j ≤ 900000) :
    Calls Tryz.prog 9 #[.pointer (some ⟨b, 0, none⟩), .int .i64 (i : Int)] w fun e w' => e = .returned (.int .i64 (savZ z2 (T i) pFmt (fmtB k m i)).1) ∧ Ar w0 w' R q g S (up T i (savZ z2 (T i) pFmt (fmtB k m i)).2.2) z (savZ z2 (T i) pFmt (fmtB k m i)).2.1 ∧ Kd w w' := by
  have cF := rfmt_at (h.vx a) hn (i := i) (by omega)
  obtain ⟨vg, vcap, _, _, c4, _⟩ := (h.vx a).cells
  have cS := fun w1 (b1 : Below w.heap.size w w1) (va : Option Addr) (vc : Nat) (hin : Inp w1 va 11 vc (fmtB k m i)) => rsave_any (h.keep b1) a hN hi hz hj (x := pFmt) (by unfold maxLen; decide) hin (by unfold maxLen; omega) (qR_fmt _ _ _)
  obtain ⟨E, hE⟩ : ∃ E, savZ z2 (T i) pFmt (fmtB k m i) = E := ⟨_, rfl⟩
  rw [hE] at cS ⊢
  obtain ⟨e0, z0', s0⟩ := E
  dsimp only at cS ⊢
  have CS : Hid (∀ w1, Below w.heap.size w w1 → ∀ (va : Option Addr) (vc : Nat), Inp w1 va 11 vc (fmtB k m i) → Calls Tryz.prog 13 #[.pointer (some ⟨b, 0, none⟩), .int .i64 (i : Int), .string ⟨#[102, 111, 114, 109, 97, 116]⟩, .slice va 11 vc] w1 fun e w' => e = .returned (.int .i64 e0) ∧ Ar w0 w' R q g S (up T i s0) z z0' ∧ Kd w1 w') := cS
  obtain ⟨nn, hnn⟩ : ∃ nn, k + m = nn := ⟨_, rfl⟩
  have ij2 : decide ((nn : Int) ≤ (i : Int)) = false := decide_eq_false (by omega)
  have ij : (i : Int) < (nn : Int) := by omega
  have ij3 : i < nn := by omega
  rw [hnn] at c4
  clear h a hz hj hE cS hi hN hn hnn
  go_enter Tryz.func9, Tryz.ntmps9
  go_wp2_with fail
  go_at_call 32
  refine cF.mono ?_
  rintro e w1 ⟨va, vc, rfl, HH⟩
  clear cF c4
  have cS := CS.out w1 HH.out.2 va vc HH.out.1
  go_wp2_with fail
  go_at_call 13
  refine cS.mono ?_
  rintro e w2 ⟨rfl, h2, k2⟩
  have HE : Hid (Ar w0 w2 R q g S (up T i s0) z z0' ∧ Kd w w2) := ⟨h2, (Kd.of HH.out.2).trans k2⟩
  clear cS h2 k2
  go_wp2
  go_ret
  exact ⟨rfl, HE.out⟩
set_option maxHeartbeats 8000000 in
theorem rvoice_any {w0 w : World} {R : Rg} {q g : Option Nat} {S T : Nat → St} {z z2 : Option Fz} {b k m bl : Nat} (h : Ar w0 w R q g S T z z2) (a : Vs R b k m bl) (hN : R.n = k + m) (hn : k + m ≤ 255) {i : Nat} (hi : i < k + m) (hz : Zb z2) :
    Calls Tryz.prog 11 #[.pointer (some ⟨b, 0, none⟩), .int .i64 (i : Int)] w fun e w' => e = .returned (.tuple #[.bool (voiZ z2 (T i) (fmtB k m i)).1, .int .i64 (voiZ z2 (T i) (fmtB k m i)).2]) ∧ Ar w0 w' R q g S (up T i (askZ z2 (T i) [pFmt]).2.2) z (tickO z2) ∧ Kd w w' := by
  obtain ⟨vg, vcap, _, _, c4, cD⟩ := (h.vx a).cells
  have cD := cD i hi
  have hR : i < R.n := by rw [hN]; exact hi
  have k1 := ad_read h hR hz (x := pFmt) (by unfold maxLen; decide)
  have CF : Hid (∀ w1 T' z', Ar w0 w1 R q g S T' z z' → ∀ w2, Below w1.heap.size w1 w2 → Calls Tryz.prog 32 #[.pointer (some ⟨b, 0, none⟩), .int .i64 (i : Int)] w2 fun e w' => ∃ a c, e = .returned (.slice a 11 c) ∧ Hid (Inp w' a 11 c (fmtB k m i) ∧ Below w2.heap.size w2 w')) := fun w1 T' z' h1 w2 b2 => rfmt_at ((h1.keep b2).vx a) hn (i := i) (by omega)
  have hv : voiZ z2 (T i) (fmtB k m i) = voiZ z2 (T i) (fmtB k m i) := rfl
  conv at hv => rhs; unfold voiZ
  obtain ⟨A, hA⟩ : ∃ A, voiZ z2 (T i) (fmtB k m i) = A := ⟨_, rfl⟩
  rw [hA] at hv ⊢
  obtain ⟨E, hE⟩ : ∃ E, readZ z2 (T i) pFmt = E := ⟨_, rfl⟩
  rw [hE] at k1 hv
  obtain ⟨rb, re⟩ := E
  dsimp only at k1 hv
  obtain ⟨s1, hs1⟩ : ∃ s1, (askZ z2 (T i) [pFmt]).2.2 = s1 := ⟨_, rfl⟩
  rw [hs1] at k1 ⊢
  have HV : Hid (A = if re = 0 then (decide (rb = fmtB k m i), 0) else if re = 6 then (false, 0) else (false, re)) := hv
  unfold pFmt at k1
  obtain ⟨nn, hnn⟩ : ∃ nn, k + m = nn := ⟨_, rfl⟩
  have ij2 : decide ((nn : Int) ≤ (i : Int)) = false := decide_eq_false (by omega)
  have ij : (i : Int) < (nn : Int) := by omega
  rw [hnn] at c4
  clear h a hi hz hR hE hs1 hA hv hN hn hnn
  go_enter Tryz.func11, Tryz.ntmps11
  go_wp2_with fail
  go_at_call 35
  refine k1.mono ?_
  rintro e w1 ⟨⟨ra, rn, rc, rfl, hin⟩, hA1, hk1⟩
  clear k1 c4 cD
  have HA1 : Hid (Ar w0 w1 R q g S (up T i s1) z (tickO z2) ∧ Kd w w1) := ⟨hA1, hk1⟩
  have HI : Hid (Inp w1 ra rn rc rb) := hin
  have CG : Hid (∀ w2, Below w1.heap.size w1 w2 → Calls Tryz.prog 32 #[.pointer (some ⟨b, 0, none⟩), .int .i64 (i : Int)] w2 fun e w' => ∃ a c, e = .returned (.slice a 11 c) ∧ Hid (Inp w' a 11 c (fmtB k m i) ∧ Below w2.heap.size w2 w')) := fun w2 b2 => CF.out w1 _ _ hA1 w2 b2
  clear hin hA1 hk1 CF
  by_cases g0 : re = 0
  · subst g0
    have e9 := HV.out
    rw [if_pos rfl] at e9
    have HA : Hid (A = (decide (rb = fmtB k m i), 0)) := e9
    have cF := CG.out w1.drew (Below.refl _ _).drew
    have v1 := (HI.out.keep (Below.refl w1.heap.size w1).drew).conv
    clear e9
    go_wp2_with fail
    go_region_held_law (fun Y => True) (exact trivial)
      (first
        | (go_at_call 32; refine cF.mono ?_; rintro e w2 ⟨fa, fc, rfl, HH⟩; have v1 := ((HI.out.keep (Below.refl w1.heap.size w1).drew).keep HH.out.2).conv; have v2 := HH.out.1.conv))
    all_goals
      have HE : Hid (Ar w0 w2 R q g S (up T i s1) z (tickO z2) ∧ Kd w w2) := by
        have b9 := (Below.refl w1.heap.size w1).drew.trans HH.out.2
        exact ⟨HA1.out.1.keep b9, HA1.out.2.trans (Kd.of b9)⟩
    all_goals clear HH HI HA1 v1 v2 CG cF
    all_goals go_wp2
    all_goals go_ret2
    all_goals exact ⟨by rw [HA.out, ba_beq]; rfl, HE.out⟩
  · have g1 : (re == 0) = false := by simpa using g0
    have g3 : (re != 0) = true := by simpa using g0
    by_cases g6 : re = 6
    · subst g6
      have HA : Hid (A = (false, 0)) := by have := HV.out; rw [if_neg (by decide), if_pos rfl] at this; exact this
      clear g0
      go_wp2
      go_ret2
      exact ⟨by rw [HA.out]; rfl, HA1.out⟩
    · have g7 : (re == 6) = false := by simpa using g6
      have HA : Hid (A = (false, re)) := by have := HV.out; rw [if_neg g0, if_neg g6] at this; exact this
      clear g0 g6
      go_wp2
      go_ret2
      exact ⟨by rw [HA.out]; rfl, HA1.out⟩
end Go.Proofs.YtebngmgdciahiaaGreatDoor
