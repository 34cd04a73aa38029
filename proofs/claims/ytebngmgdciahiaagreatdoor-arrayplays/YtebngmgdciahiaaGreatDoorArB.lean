/-
  Save of an array of the program: written to tmp, made sure, renamed.
-/
import Derived.Test.YtebngmgdciahiaaGreatDoorArA
import Derived.Test.YtebngmgdciahiaaGreatDoorArZ
set_option maxRecDepth 100000
namespace Go.Proofs.YtebngmgdciahiaaGreatDoor
open Go.RowKit
open _root_.Go.Proofs.YtebngmgdciahiaaGreatDoor.Nm _root_.Go.Proofs.YtebngmgdciahiaaGreatDoor.Dk
attribute [local go_sem ↓] Go.wp_at_zero Go.wp_at_succ
set_option linter.unusedVariables false

/-- tmp, format. -/
def pTmp : ByteArray := ⟨#[116, 109, 112]⟩
def pFmt : ByteArray := ⟨#[102, 111, 114, 109, 97, 116]⟩
/-- What Save answers, and leaves. -/
def savZ (z : Option Fz) (s : St) (x b : ByteArray) : Int × Option Fz × St :=
  if (wriZ z s pTmp b).1 ≠ 0 then ((wriZ z s pTmp b).1, tickO z, (wriZ z s pTmp b).2)
  else if (synZ (tickO z) (wriZ z s pTmp b).2 pTmp).1 ≠ 0 then ((synZ (tickO z) (wriZ z s pTmp b).2 pTmp).1, tickO (tickO z), (synZ (tickO z) (wriZ z s pTmp b).2 pTmp).2)
  else ((renZ (tickO (tickO z)) (synZ (tickO z) (wriZ z s pTmp b).2 pTmp).2 pTmp x).1, tickO (tickO (tickO z)), (renZ (tickO (tickO z)) (synZ (tickO z) (wriZ z s pTmp b).2 pTmp).2 pTmp x).2)
theorem zn_zb {j : Nat} {z : Option Fz} (h : ZN j z) (hj : j ≤ 1000000) : Zb z := fun y e => by
  obtain ⟨u, e2, h0, h1⟩ := h
  rw [e2] at e
  injection e with e
  subst e
  exact ⟨h0, by omega⟩
theorem zn_up {j : Nat} {z : Option Fz} (h : ZN j z) {l : Nat} (hl : j ≤ l) : ZN l z := by
  obtain ⟨u, e2, h0, h1⟩ := h
  exact ⟨u, e2, h0, by omega⟩
theorem savZ_zn {j : Nat} {z : Option Fz} (h : ZN j z) (s : St) (x b : ByteArray) : ZN (j + 3) (savZ z s x b).2.1 := by
  unfold savZ
  split
  · exact zn_up h.tick (by omega)
  · split
    · exact zn_up h.tick.tick (by omega)
    · exact h.tick.tick.tick
section
variable {w0 w : World} {R : Rg} {q g : Option Nat} {S T : Nat → St} {z z2 : Option Fz}
theorem up_i {α : Type} (f : Nat → α) (i : Nat) (u v : α) : up (up f i u) i v = up f i v := up_up f i u v
theorem ar_wri (h : Ar w0 w R q g S T z z2) {i : Nat} (hi : i < R.n) (hb : Zb z) {x : ByteArray} (hx : x.size ≤ maxLen) {va : Option Addr} {vn vc : Nat} {b : ByteArray} (hin : Inp w va vn vc b) (hvn : vn ≤ maxLen) :
    Calls Tryz.prog 61 #[.pointer (some ⟨(R.P i).p, 0, none⟩), .string x, .slice va vn vc] w fun e w' => e = .returned (.int .i64 (wriZ z (S i) x b).1) ∧ Ar w0 w' R q g (up S i (wriZ z (S i) x b).2) T (tickO z) z2 ∧ Kd w w' :=
  h.prog (s' := (wriZ z (S i) x b).2) (z' := tickO z) (X := fun e w' => e = .returned (.int .i64 (wriZ z (S i) x b).1)) hi fun V F0 hp => (pwrite_any _ _ V q (S i) F0 z x va vn vc b w hp h.fz hb hx hin hvn).mono fun e w' k => ⟨k.1, by
    obtain ⟨V', F', k1, k2, k3, k4⟩ := k.2
    rw [ask_z] at k2
    exact ⟨V', F', k1, k2, k3, k4⟩⟩
theorem ar_syn (h : Ar w0 w R q g S T z z2) {i : Nat} (hi : i < R.n) (hb : Zb z) {x : ByteArray} (hx : x.size ≤ maxLen) :
    Calls Tryz.prog 62 #[.pointer (some ⟨(R.P i).p, 0, none⟩), .string x] w fun e w' => e = .returned (.int .i64 (synZ z (S i) x).1) ∧ Ar w0 w' R q g (up S i (synZ z (S i) x).2) T (tickO z) z2 ∧ Kd w w' :=
  h.prog (s' := (synZ z (S i) x).2) (z' := tickO z) (X := fun e w' => e = .returned (.int .i64 (synZ z (S i) x).1)) hi fun V F0 hp => (psync_any _ _ V q (S i) F0 z x w hp h.fz hb hx).mono fun e w' k => ⟨k.1, by
    obtain ⟨V', F', k1, k2, k3, k4⟩ := k.2
    rw [ask_z] at k2
    exact ⟨V', F', k1, k2, k3, k4⟩⟩
theorem ar_ren (h : Ar w0 w R q g S T z z2) {i : Nat} (hi : i < R.n) (hb : Zb z) {x y : ByteArray} (hx : x.size ≤ maxLen) (hy : y.size ≤ maxLen) :
    Calls Tryz.prog 63 #[.pointer (some ⟨(R.P i).p, 0, none⟩), .string x, .string y] w fun e w' => e = .returned (.int .i64 (renZ z (S i) x y).1) ∧ Ar w0 w' R q g (up S i (renZ z (S i) x y).2) T (tickO z) z2 ∧ Kd w w' :=
  h.prog (s' := (renZ z (S i) x y).2) (z' := tickO z) (X := fun e w' => e = .returned (.int .i64 (renZ z (S i) x y).1)) hi fun V F0 hp => (prename_any _ _ V q (S i) F0 z x y w hp h.fz hb hx hy).mono fun e w' k => ⟨k.1, by
    obtain ⟨V', F', k1, k2, k3, k4⟩ := k.2
    rw [ask_z] at k2
    exact ⟨V', F', k1, k2, k3, k4⟩⟩
end
set_option maxHeartbeats 4000000 in
theorem save_no {w : World} {b k m bl : Nat} {P : Nat → Pc} (h : AX w b k m bl P) {i : Int} (hi : i < 0 ∨ ((k + m : Nat) : Int) ≤ i) (x : ByteArray) (v : Value) :
    Calls Tryz.prog 12 #[.pointer (some ⟨b, 0, none⟩), .int .i64 i, .string x, v] w fun e w' => e = .returned (.int .i64 1) ∧ w' = w := by
  have cD := disk_no h hi
  clear h hi
  go_enter Tryz.func12, Tryz.ntmps12
  go_wp2_with fail
  go_at_call 33
  refine cD.mono ?_
  rintro e w' ⟨rfl, rfl⟩
  go_wp2
  go_ret
  exact ⟨rfl, rfl⟩
theorem mth_wri (a : Addr) (w : World) : Sem.run Tryz.prog (method 343 61 (.pointer (some a)) "Write") w = .ok (61, .pointer (some a)) w := by kernel_rfl
theorem mth_syn (a : Addr) (w : World) : Sem.run Tryz.prog (method 343 61 (.pointer (some a)) "Sync") w = .ok (62, .pointer (some a)) w := by kernel_rfl
theorem mth_ren (a : Addr) (w : World) : Sem.run Tryz.prog (method 343 61 (.pointer (some a)) "Rename") w = .ok (63, .pointer (some a)) w := by kernel_rfl
theorem mth_rea (a : Addr) (w : World) : Sem.run Tryz.prog (method 343 61 (.pointer (some a)) "Read") w = .ok (60, .pointer (some a)) w := by kernel_rfl
set_option maxHeartbeats 4000000 in
theorem save_any {w0 w : World} {R : Rg} {q g : Option Nat} {S T : Nat → St} {z z2 : Option Fz} {j b k m bl : Nat} (h : Ar w0 w R q g S T z z2) (a : Hs R b k m bl) {i : Nat} (hi : i < k + m) (hz : ZN j z) (hj : j ≤ 900000) {x : ByteArray} (hx : x.size ≤ maxLen) {va : Option Addr} {vn vc : Nat} {y : ByteArray} (hin : Inp w va vn vc y) (hvn : vn ≤ maxLen) :
    Calls Tryz.prog 12 #[.pointer (some ⟨b, 0, none⟩), .int .i64 (i : Int), .string x, .slice va vn vc] w fun e w' => e = .returned (.int .i64 (savZ z (S i) x y).1) ∧ Ar w0 w' R q g (up S i (savZ z (S i) x y).2.2) T (savZ z (S i) x y).2.1 z2 ∧ Kd w w' := by
  have cD : Calls Tryz.prog 33 #[.pointer (some ⟨b, 0, none⟩), .int .i64 (i : Int)] w fun e w' => e = .returned (.tuple #[.iface 61 (.pointer (some ⟨(R.P i).p, 0, none⟩)), .bool true]) ∧ w' = w := disk_yes (h.ax a) hi
  have hR : i < R.n := by rw [a.N]; exact hi
  have ht : pTmp.size ≤ maxLen := by unfold maxLen; decide
  have mW := fun w => mth_wri ⟨(R.P i).p, 0, none⟩ w
  have mS := fun w => mth_syn ⟨(R.P i).p, 0, none⟩ w
  have mR := fun w => mth_ren ⟨(R.P i).p, 0, none⟩ w
  -- the three calls
  have k1 := ar_wri h hR (zn_zb hz (by omega)) ht hin hvn
  have hsav : savZ z (S i) x y = savZ z (S i) x y := rfl
  conv at hsav => rhs; unfold savZ
  obtain ⟨A, hA⟩ : ∃ A, savZ z (S i) x y = A := ⟨_, rfl⟩
  rw [hA] at hsav ⊢
  obtain ⟨E1, hE1⟩ : ∃ E1, wriZ z (S i) pTmp y = E1 := ⟨_, rfl⟩
  rw [hE1] at k1 hsav
  obtain ⟨e1, s1⟩ := E1
  dsimp only at k1 hsav
  obtain ⟨E2, hE2⟩ : ∃ E2, synZ (tickO z) s1 pTmp = E2 := ⟨_, rfl⟩
  rw [hE2] at hsav
  obtain ⟨e2, s2⟩ := E2
  dsimp only at hsav
  obtain ⟨E3, hE3⟩ : ∃ E3, renZ (tickO (tickO z)) s2 pTmp x = E3 := ⟨_, rfl⟩
  rw [hE3] at hsav
  obtain ⟨e3, s3⟩ := E3
  dsimp only at hsav
  have k2 : ∀ w', Ar w0 w' R q g (up S i s1) T (tickO z) z2 → Calls Tryz.prog 62 #[.pointer (some ⟨(R.P i).p, 0, none⟩), .string pTmp] w' fun e w'' => e = .returned (.int .i64 e2) ∧ Ar w0 w'' R q g (up S i s2) T (tickO (tickO z)) z2 ∧ Kd w' w'' := fun w' h1 => by
    have := ar_syn h1 hR (zn_zb hz.tick (by omega)) ht
    rw [up_at, up_up, hE2] at this
    exact this
  have k3 : ∀ w', Ar w0 w' R q g (up S i s2) T (tickO (tickO z)) z2 → Calls Tryz.prog 63 #[.pointer (some ⟨(R.P i).p, 0, none⟩), .string pTmp, .string x] w' fun e w'' => e = .returned (.int .i64 e3) ∧ Ar w0 w'' R q g (up S i s3) T (tickO (tickO (tickO z))) z2 ∧ Kd w' w'' := fun w' h1 => by
    have := ar_ren h1 hR (zn_zb hz.tick.tick (by omega)) ht hx
    rw [up_at, up_up, hE3] at this
    exact this
  have HS : Hid (A = if e1 ≠ 0 then (e1, tickO z, s1) else if e2 ≠ 0 then (e2, tickO (tickO z), s2) else (e3, tickO (tickO (tickO z)), s3)) := hsav
  have K2 : Hid (∀ w', Ar w0 w' R q g (up S i s1) T (tickO z) z2 → Calls Tryz.prog 62 #[.pointer (some ⟨(R.P i).p, 0, none⟩), .string pTmp] w' fun e w'' => e = .returned (.int .i64 e2) ∧ Ar w0 w'' R q g (up S i s2) T (tickO (tickO z)) z2 ∧ Kd w' w'') := k2
  have K3 : Hid (∀ w', Ar w0 w' R q g (up S i s2) T (tickO (tickO z)) z2 → Calls Tryz.prog 63 #[.pointer (some ⟨(R.P i).p, 0, none⟩), .string pTmp, .string x] w' fun e w'' => e = .returned (.int .i64 e3) ∧ Ar w0 w'' R q g (up S i s3) T (tickO (tickO (tickO z))) z2 ∧ Kd w' w'') := k3
  clear hE1 hE2 hE3 hA hsav k2 k3 h a hi hR ht hz hin hvn hx
  go_enter Tryz.func12, Tryz.ntmps12
  go_wp2_with fail
  go_at_call 33
  refine cD.mono ?_
  rintro e w' ⟨rfl, rfl⟩
  clear cD
  go_wp2_with fail
  go_at_call 61
  refine k1.mono ?_
  rintro e w1 ⟨rfl, hA1, hk1⟩
  clear k1 mW
  have HA1 : Hid (Ar w0 w1 R q g (up S i s1) T (tickO z) z2 ∧ Kd w' w1) := ⟨hA1, hk1⟩
  by_cases g1 : e1 = 0
  · subst g1
    have k2 := K2.out _ hA1
    clear hA1 hk1
    unfold pTmp at k2
    go_wp2_with fail
    go_at_call 62
    refine k2.mono ?_
    rintro e w2 ⟨rfl, hA2, hk2⟩
    clear k2 mS
    have HA2 : Hid (Ar w0 w2 R q g (up S i s2) T (tickO (tickO z)) z2 ∧ Kd w' w2) := ⟨hA2, HA1.out.2.trans hk2⟩
    by_cases g2 : e2 = 0
    · subst g2
      have k3 := K3.out _ hA2
      clear hA2 hk2
      unfold pTmp at k3
      go_wp2_with fail
      go_at_call 63
      refine k3.mono ?_
      rintro e w3 ⟨rfl, hA3, hk3⟩
      have HA3 : Hid (Ar w0 w3 R q g (up S i s3) T (tickO (tickO (tickO z))) z2 ∧ Kd w' w3) := ⟨hA3, HA2.out.2.trans hk3⟩
      clear hA3 hk3 k3
      go_wp2
      go_ret
      have e9 := HS.out
      rw [if_neg (fun k => k rfl), if_neg (fun k => k rfl)] at e9
      subst e9
      exact ⟨rfl, HA3.out⟩
    · have g3 : (e2 == 0) = false := by simpa using g2
      have g4 : (e2 != 0) = true := by simpa using g2
      have HG : Hid (e2 ≠ 0) := g2
      clear hA2 hk2 g2
      go_wp2
      go_ret
      have e9 := HS.out
      rw [if_neg (fun k => k rfl), if_pos HG.out] at e9
      subst e9
      exact ⟨rfl, HA2.out⟩
  · have g3 : (e1 == 0) = false := by simpa using g1
    have g4 : (e1 != 0) = true := by simpa using g1
    have HG : Hid (e1 ≠ 0) := g1
    clear hA1 hk1 g1
    go_wp2
    go_ret
    have e9 := HS.out
    rw [if_pos HG.out] at e9
    subst e9
    exact ⟨rfl, HA1.out⟩
end Go.Proofs.YtebngmgdciahiaaGreatDoor
