/-
  Format, Voice, Voices of an array of the program.
-/
import Derived.Test.YtebngmgdciahiaaGreatDoorArC
set_option maxRecDepth 100000
namespace Go.Proofs.YtebngmgdciahiaaGreatDoor
open Go.RowKit Crc
open _root_.Go.Proofs.YtebngmgdciahiaaGreatDoor.Nm _root_.Go.Proofs.YtebngmgdciahiaaGreatDoor.Dk
attribute [local go_sem ↓] Go.wp_at_zero Go.wp_at_succ
set_option linter.unusedVariables false

theorem Ar.tab {w0 w : World} {R : Rg} {q g : Option Nat} {S T : Nat → St} {z z2 : Option Fz} (h : Ar w0 w R q g S T z z2) (t : HalfT w0) : HalfT w := t.keep h.b
set_option maxHeartbeats 4000000 in
theorem format_no {w : World} {b k m bl : Nat} {P : Nat → Pc} (h : AX w b k m bl P) (t : HalfT w) {i : Int} (hi : i < 0 ∨ ((k + m : Nat) : Int) ≤ i) :
    Calls Tryz.prog 8 #[.pointer (some ⟨b, 0, none⟩), .int .i64 i] w fun e w' => e = .returned (.int .i64 1) ∧ Below w.heap.size w w' := by
  have cF := fmt_any h t i
  have CS : Hid (∀ w1, Below w.heap.size w w1 → ∀ (va : Option Addr) (vc : Nat), Calls Tryz.prog 12 #[.pointer (some ⟨b, 0, none⟩), .int .i64 i, .string ⟨#[102, 111, 114, 109, 97, 116]⟩, .slice va 11 vc] w1 fun e w' => e = .returned (.int .i64 1) ∧ w' = w1) := fun w1 b1 va vc => save_no (h.keep b1) hi _ _
  clear h t hi
  go_enter Tryz.func8, Tryz.ntmps8
  go_wp2_with fail
  go_at_call 31
  refine cF.mono ?_
  rintro e w1 ⟨va, vc, rfl, HH⟩
  clear cF
  have cS := CS.out w1 HH.out.2 va vc
  go_wp2_with fail
  go_at_call 12
  refine cS.mono ?_
  rintro e w2 ⟨rfl, rfl⟩
  clear cS
  go_wp2
  go_ret
  exact ⟨rfl, HH.out.2⟩
set_option maxHeartbeats 4000000 in
theorem format_any {w0 w : World} {R : Rg} {q g : Option Nat} {S T : Nat → St} {z z2 : Option Fz} {j b k m bl : Nat} (h : Ar w0 w R q g S T z z2) (t : HalfT w0) (a : Hs R b k m bl) {i : Nat} (hi : i < k + m) (hz : ZN j z) (hj : j ≤ 900000) :
    Calls Tryz.prog 8 #[.pointer (some ⟨b, 0, none⟩), .int .i64 (i : Int)] w fun e w' => e = .returned (.int .i64 (savZ z (S i) pFmt (fmtB k m i)).1) ∧ Ar w0 w' R q g (up S i (savZ z (S i) pFmt (fmtB k m i)).2.2) T (savZ z (S i) pFmt (fmtB k m i)).2.1 z2 ∧ Kd w w' := by
  have cF := fmt_at (h.ax a) (h.tab t) (i := i) (by have := a.n; omega)
  have cS := fun w1 (b1 : Below w.heap.size w w1) (va : Option Addr) (vc : Nat) (hin : Inp w1 va 11 vc (fmtB k m i)) => save_any (h.keep b1) a hi hz hj (x := pFmt) (by unfold maxLen; decide) hin (by unfold maxLen; omega)
  obtain ⟨E, hE⟩ : ∃ E, savZ z (S i) pFmt (fmtB k m i) = E := ⟨_, rfl⟩
  rw [hE] at cS ⊢
  obtain ⟨e0, z0', s0⟩ := E
  dsimp only at cS ⊢
  have CS : Hid (∀ w1, Below w.heap.size w w1 → ∀ (va : Option Addr) (vc : Nat), Inp w1 va 11 vc (fmtB k m i) → Calls Tryz.prog 12 #[.pointer (some ⟨b, 0, none⟩), .int .i64 (i : Int), .string ⟨#[102, 111, 114, 109, 97, 116]⟩, .slice va 11 vc] w1 fun e w' => e = .returned (.int .i64 e0) ∧ Ar w0 w' R q g (up S i s0) T z0' z2 ∧ Kd w1 w') := cS
  clear h t a hz hj hE cS hi
  go_enter Tryz.func8, Tryz.ntmps8
  go_wp2_with fail
  go_at_call 31
  refine cF.mono ?_
  rintro e w1 ⟨va, vc, rfl, HH⟩
  clear cF
  have cS := CS.out w1 HH.out.2 va vc HH.out.1
  go_wp2_with fail
  go_at_call 12
  refine cS.mono ?_
  rintro e w2 ⟨rfl, h2, k2⟩
  have HE : Hid (Ar w0 w2 R q g (up S i s0) T z0' z2 ∧ Kd w w2) := ⟨h2, (Kd.of HH.out.2).trans k2⟩
  clear cS h2 k2
  go_wp2
  go_ret
  exact ⟨rfl, HE.out⟩
/-- What Voice answers. -/
def voiZ (z : Option Fz) (s : St) (f : ByteArray) : Bool × Int := if (readZ z s pFmt).2 = 0 then (decide ((readZ z s pFmt).1 = f), 0) else if (readZ z s pFmt).2 = 6 then (false, 0) else (false, (readZ z s pFmt).2)
theorem ar_read {w0 w : World} {R : Rg} {q g : Option Nat} {S T : Nat → St} {z z2 : Option Fz} (h : Ar w0 w R q g S T z z2) {i : Nat} (hi : i < R.n) (hb : Zb z) {x : ByteArray} (hx : x.size ≤ maxLen) :
    Calls Tryz.prog 60 #[.pointer (some ⟨(R.P i).p, 0, none⟩), .string x] w fun e w' => (∃ a n c, e = .returned (.tuple #[.slice a n c, .int .i64 (readZ z (S i) x).2]) ∧ Inp w' a n c (readZ z (S i) x).1) ∧ Ar w0 w' R q g (up S i (askZ z (S i) [x]).2.2) T (tickO z) z2 ∧ Kd w w' :=
  h.prog (s' := (askZ z (S i) [x]).2.2) (z' := tickO z) (X := fun e w' => ∃ a n c, e = .returned (.tuple #[.slice a n c, .int .i64 (readZ z (S i) x).2]) ∧ Inp w' a n c (readZ z (S i) x).1) hi fun V F0 hp => (pread_any _ _ V q (S i) F0 z x w hp h.fz hb hx).mono fun e w' hk => by
    obtain ⟨⟨a, n, c⟩, rfl, k0, F', k1, k2, k3⟩ := hk
    have hp := k0 ⟨#[]⟩ false
    obtain ⟨f, h1, h2, h3⟩ := hp.row
    have hn : n = (readZ z (S i) x).1.size := hp.n
    rw [ask_z] at k2
    refine ⟨⟨a, n, c, rfl, ⟨f, h1, by rw [hn]; exact h2, by rw [hn]; exact h3⟩, hn, fun e => ?_⟩, V, F', k1, k2, k3.mono fun k _ e => mk_ms e, Gw.refl _ _⟩
    have hz : c = 0 := hp.z e
    have hc : (readZ z (S i) x).1.size ≤ c := hp.c
    exact ⟨by omega, hz⟩
set_option maxHeartbeats 2000000 in
theorem bytes_eq {w : World} {a a' : Option Addr} {n n' c c' : Nat} {x y : ByteArray} (h : Inp w a n c x) (h' : Inp w a' n' c' y) :
    Calls Tryz.prog 34 #[.slice a n c, .slice a' n' c'] w fun e w' => e = .returned (.bool (decide (x = y))) ∧ w' = w := by
  have c1 := h.conv
  have c2 := h'.conv
  by_cases hxy : x = y
  · subst hxy
    have hd : decide (x = x) = true := by simp
    rw [hd]
    clear h h' hd
    go_enter Tryz.func34, Tryz.ntmps34
    go_wp2
    go_ret
    exact ⟨rfl, rfl⟩
  · have hd : decide (x = y) = false := decide_eq_false hxy
    have ht := (toList_ne hxy).1
    rw [hd]
    clear h h' hd hxy
    go_enter Tryz.func34, Tryz.ntmps34
    go_wp2
    go_ret
    exact ⟨rfl, rfl⟩
set_option maxHeartbeats 4000000 in
theorem voice_no {w : World} {b k m bl : Nat} {P : Nat → Pc} (h : AX w b k m bl P) {i : Int} (hi : i < 0 ∨ ((k + m : Nat) : Int) ≤ i) :
    Calls Tryz.prog 10 #[.pointer (some ⟨b, 0, none⟩), .int .i64 i] w fun e w' => e = .returned (.tuple #[.bool false, .int .i64 1]) ∧ w' = w := by
  have cD := disk_no h hi
  clear h hi
  go_enter Tryz.func10, Tryz.ntmps10
  go_wp2_with fail
  go_at_call 33
  refine cD.mono ?_
  rintro e w' ⟨rfl, rfl⟩
  go_wp2
  go_ret2
  exact ⟨rfl, rfl⟩
set_option maxHeartbeats 8000000 in
theorem voice_any {w0 w : World} {R : Rg} {q g : Option Nat} {S T : Nat → St} {z z2 : Option Fz} {b k m bl : Nat} (h : Ar w0 w R q g S T z z2) (t : HalfT w0) (a : Hs R b k m bl) {i : Nat} (hi : i < k + m) (hz : Zb z) :
    Calls Tryz.prog 10 #[.pointer (some ⟨b, 0, none⟩), .int .i64 (i : Int)] w fun e w' => e = .returned (.tuple #[.bool (voiZ z (S i) (fmtB k m i)).1, .int .i64 (voiZ z (S i) (fmtB k m i)).2]) ∧ Ar w0 w' R q g (up S i (askZ z (S i) [pFmt]).2.2) T (tickO z) z2 ∧ Kd w w' := by
  have cD : Calls Tryz.prog 33 #[.pointer (some ⟨b, 0, none⟩), .int .i64 (i : Int)] w fun e w' => e = .returned (.tuple #[.iface 61 (.pointer (some ⟨(R.P i).p, 0, none⟩)), .bool true]) ∧ w' = w := disk_yes (h.ax a) hi
  have hR : i < R.n := by rw [a.N]; exact hi
  have mR := fun w => mth_rea ⟨(R.P i).p, 0, none⟩ w
  have k1 := ar_read h hR hz (x := pFmt) (by unfold maxLen; decide)
  have CF : Hid (∀ w1 S' z', Ar w0 w1 R q g S' T z' z2 → Calls Tryz.prog 31 #[.pointer (some ⟨b, 0, none⟩), .int .i64 (i : Int)] w1 fun e w' => ∃ a c, e = .returned (.slice a 11 c) ∧ Hid (Inp w' a 11 c (fmtB k m i) ∧ Below w1.heap.size w1 w')) := fun w1 S' z' h1 => fmt_at (h1.ax a) (h1.tab t) (i := i) (by have := a.n; omega)
  have hv : voiZ z (S i) (fmtB k m i) = voiZ z (S i) (fmtB k m i) := rfl
  conv at hv => rhs; unfold voiZ
  obtain ⟨A, hA⟩ : ∃ A, voiZ z (S i) (fmtB k m i) = A := ⟨_, rfl⟩
  rw [hA] at hv ⊢
  obtain ⟨E, hE⟩ : ∃ E, readZ z (S i) pFmt = E := ⟨_, rfl⟩
  rw [hE] at k1 hv
  obtain ⟨rb, re⟩ := E
  dsimp only at k1 hv
  obtain ⟨s1, hs1⟩ : ∃ s1, (askZ z (S i) [pFmt]).2.2 = s1 := ⟨_, rfl⟩
  rw [hs1] at k1 ⊢
  have HV : Hid (A = if re = 0 then (decide (rb = fmtB k m i), 0) else if re = 6 then (false, 0) else (false, re)) := hv
  unfold pFmt at k1
  clear h t a hi hz hR hE hs1 hA hv
  go_enter Tryz.func10, Tryz.ntmps10
  go_wp2_with fail
  go_at_call 33
  refine cD.mono ?_
  rintro e w' ⟨rfl, rfl⟩
  clear cD
  go_wp2_with fail
  go_at_call 60
  refine k1.mono ?_
  rintro e w1 ⟨⟨ra, rn, rc, rfl, hin⟩, hA1, hk1⟩
  clear k1 mR
  have HA1 : Hid (Ar w0 w1 R q g (up S i s1) T (tickO z) z2 ∧ Kd w' w1) := ⟨hA1, hk1⟩
  have HI : Hid (Inp w1 ra rn rc rb) := hin
  have cF := CF.out w1 _ _ hA1
  clear hin hA1 hk1
  by_cases g0 : re = 0
  · subst g0
    have e9 := HV.out
    rw [if_pos rfl] at e9
    have HA : Hid (A = (decide (rb = fmtB k m i), 0)) := e9
    clear e9
    go_wp2_with fail
    go_at_call 31
    refine cF.mono ?_
    rintro e w2 ⟨fa, fc, rfl, HH⟩
    have cE := bytes_eq (HI.out.keep HH.out.2) HH.out.1
    have HA2 : Hid (Ar w0 w2 R q g (up S i s1) T (tickO z) z2 ∧ Kd w' w2) := ⟨HA1.out.1.keep HH.out.2, HA1.out.2.trans (Kd.of HH.out.2)⟩
    obtain ⟨D, hD⟩ : ∃ D, decide (rb = fmtB k m i) = D := ⟨_, rfl⟩
    rw [hD] at cE
    have HD : Hid (decide (rb = fmtB k m i) = D) := hD
    clear cF hD
    go_wp2_with fail
    go_at_call 34
    refine cE.mono ?_
    rintro e w3 ⟨rfl, rfl⟩
    clear cE
    go_wp2
    go_ret2
    exact ⟨by rw [HA.out, HD.out]; rfl, HA2.out⟩
  · have g1 : (re == 0) = false := by simpa using g0
    by_cases g6 : re = 6
    · subst g6
      have e9 := HV.out
      rw [if_neg (by decide), if_pos rfl] at e9
      have HA : Hid (A = (false, 0)) := e9
      clear e9 cF g0
      go_wp2
      go_ret2
      exact ⟨by rw [HA.out]; rfl, HA1.out⟩
    · have g2 : (re == 6) = false := by simpa using g6
      have e9 := HV.out
      rw [if_neg g0, if_neg g6] at e9
      have HA : Hid (A = (false, re)) := e9
      clear e9 cF g0 g6
      go_wp2
      go_ret2
      exact ⟨by rw [HA.out]; rfl, HA1.out⟩
end Go.Proofs.YtebngmgdciahiaaGreatDoor
