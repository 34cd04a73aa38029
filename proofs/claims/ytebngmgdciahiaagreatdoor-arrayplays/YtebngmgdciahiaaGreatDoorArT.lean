/-
  What befalls a disk of an array; small disks.
-/
import Derived.Test.YtebngmgdciahiaaGreatDoorArI
set_option maxRecDepth 100000
namespace Go.Proofs.YtebngmgdciahiaaGreatDoor
open Go.RowKit Crc
open _root_.Go.Proofs.YtebngmgdciahiaaGreatDoor.Nm _root_.Go.Proofs.YtebngmgdciahiaaGreatDoor.Dk
set_option linter.unusedVariables false

section
variable {w0 w : World} {R : Rg} {q g : Option Nat} {S T : Nat → St} {z z2 : Option Fz}
theorem ar_off (h : Ar w0 w R q g S T z z2) {i : Nat} (hi : i < R.n) (b : Bool) :
    Calls Tryz.prog 69 #[.pointer (some ⟨(R.P i).p, 0, none⟩), .bool b] w fun e w' => e = .returned (.tuple #[]) ∧ Ar w0 w' R q g (up S i { S i with off := b }) T z z2 ∧ Kd w w' :=
  h.prog (s' := { S i with off := b }) (z' := z) (X := fun e w' => e = .returned (.tuple #[])) hi fun V F0 hp => (offline_any _ _ V q (S i) F0 b w hp).mono fun e w' c => ⟨c.1, V, F0, c.2.1, fz_pm (h.on hi) (c.2.2.mono fun _ _ e => .inl e), c.2.2.mono fun _ _ e => .inl e, Gw.refl _ _⟩
theorem ar_fail (h : Ar w0 w R q g S T z z2) {i : Nat} (hi : i < R.n) {n : Int} (h0 : -9223372036854775808 ≤ n) (h1 : n ≤ 9223372036854775807) :
    Calls Tryz.prog 70 #[.pointer (some ⟨(R.P i).p, 0, none⟩), .int .i64 n] w fun e w' => e = .returned (.tuple #[]) ∧ Ar w0 w' R q g (up S i { S i with bad := max n 0 }) T z z2 ∧ Kd w w' :=
  h.prog (s' := { S i with bad := max n 0 }) (z' := z) (X := fun e w' => e = .returned (.tuple #[])) hi fun V F0 hp => (fail_any _ _ V q (S i) F0 n w hp h0 h1).mono fun e w' c => ⟨c.1, V, n, c.2.1, fz_pm (h.on hi) (c.2.2.mono fun _ _ e => .inl e), c.2.2.mono fun _ _ e => .inl e, Gw.refl _ _⟩
theorem ar_wipe (h : Ar w0 w R q g S T z z2) {i : Nat} (hi : i < R.n) :
    Calls Tryz.prog 71 #[.pointer (some ⟨(R.P i).p, 0, none⟩)] w fun e w' => e = .returned (.tuple #[]) ∧ Ar w0 w' R q g (up S i { S i with fs := [] }) T z z2 ∧ Kd w w' :=
  h.prog (s' := { S i with fs := [] }) (z' := z) (X := fun e w' => e = .returned (.tuple #[])) hi fun V F0 hp => (wipe_any _ _ V q (S i) F0 w hp).mono fun e w' c => ⟨c.1, [], F0, c.2.1, fz_pm (h.on hi) c.2.2, c.2.2.mono fun _ _ e => pm_ms e, fun y hy => by cases hy⟩
theorem ar_del (h : Ar w0 w R q g S T z z2) {i : Nat} (hi : i < R.n) (hb : Zb z) {x : ByteArray} (hx : x.size ≤ maxLen) :
    Calls Tryz.prog 64 #[.pointer (some ⟨(R.P i).p, 0, none⟩), .string x] w fun e w' => e = .returned (.int .i64 (delZ z (S i) x).1) ∧ Ar w0 w' R q g (up S i (delZ z (S i) x).2) T (tickO z) z2 ∧ Kd w w' :=
  h.prog (s' := (delZ z (S i) x).2) (z' := tickO z) (X := fun e w' => e = .returned (.int .i64 (delZ z (S i) x).1)) hi fun V F0 hp => (pdelete_any _ _ V q (S i) F0 z x w hp h.fz hb hx).mono fun e w' k => ⟨k.1, by
    obtain ⟨V', F', k1, k2, k3, k4⟩ := k.2
    rw [ask_z] at k2
    exact ⟨V', F', k1, k2, k3, k4⟩⟩
end
theorem str_at_inj {f g : Nat → Nat} {n : Nat} (hf : ∀ i, f i < 256) (hg : ∀ i, g i < 256) (h : str f n = str g n) {i : Nat} (hi : i < n) : f i = g i := by
  have h1 := congrArg tx h
  rw [str_tx, str_tx] at h1
  have h2 := congrArg (fun l => l[i]?) h1
  simp [hi] at h2
  have h3 := congrArg UInt8.toNat h2
  have h4 := hf i
  have h5 := hg i
  simp at h3
  omega
theorem fmt_inj {k m i j : Nat} (hi : i < 256) (hj : j < 256) (h : fmtB k m i = fmtB k m j) : i = j := by
  have := str_at_inj (fmf_lt k m i) (fmf_lt k m j) h (i := 6) (by decide)
  unfold fmf fmh cat at this
  simp at this
  omega
def sbf : ByteArray := ⟨#[83, 66, 70, 49]⟩
theorem sbf_ne (k m i : Nat) : sbf ≠ fmtB k m i := fun h => by
  have := congrArg ByteArray.size h
  rw [fmtB_sz] at this
  exact absurd this (by decide)
/-- A disk that is offline, that is to fail once. -/
theorem voi_off (d : Int) (l : List Fl) (mo : Int) (f : ByteArray) : voiZ (cz d) { s1 l mo with off := true } f = (false, 10) ∧ (askZ (cz d) { s1 l mo with off := true } [pFmt]).2.2 = { s1 l mo with off := true } := ⟨rfl, rfl⟩
theorem voi_bad (d : Int) (l : List Fl) (mo : Int) (f : ByteArray) : voiZ (cz d) { s1 l mo with bad := 1 } f = (false, 9) ∧ (askZ (cz d) { s1 l mo with bad := 1 } [pFmt]).2.2 = s1 l mo := ⟨rfl, rfl⟩
theorem up_fill {α : Type} (E : α) (F : Nat → α) (j : Nat) (v : α) : up (fun i => if i < j then F i else E) j v = fun i => if i < j + 1 then (up F j v) i else E := by
  funext i
  by_cases e : i = j
  · subst e
    rw [up_at, if_pos (by omega), up_at]
  · rw [up_of _ _ e]
    by_cases l : i < j
    · rw [if_pos l, if_pos (by omega), up_of _ _ e]
    · rw [if_neg l, if_neg (by omega)]
end Go.Proofs.YtebngmgdciahiaaGreatDoor
