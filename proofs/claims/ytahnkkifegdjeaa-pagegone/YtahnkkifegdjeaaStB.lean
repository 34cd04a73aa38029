/-
  The stable sort's rotation over a row of elements of k cells.
-/
import Derived.Test.YtahnkkifegdjeaaStA
namespace Go.Proofs.Ytahnkkifegdjeaa
open Go.Shelf Go.RowKit Go.Lib Go.Sort Pg
set_option linter.unusedVariables false

set_option maxHeartbeats 4000000 in
set_option maxRecDepth 1000000 in
theorem rotate {P : Program} {α : Type} [Inhabited α] {k : Nat} (L : Ip P k) (enc : α → List Value) (fv : Value) (blk off cap a m b : Nat) (d0 d : Array α) (w0 w : World)
    (R : RowK enc k w0 blk off d0) (hs : d0.size = d.size) (S : SWK enc k w0 blk off d w) (ham : a < m) (hmb : m < b) (hb : b ≤ d.size) (hsz : d.size < 1152921504606846976) :
    Calls P 40 #[.slice (some ⟨blk, off, none⟩) d.size cap, .int .i64 a, .int .i64 m, .int .i64 b, fv] w fun e w' => e = .returned (.tuple #[]) ∧ ∃ d', Rot a m b d d' ∧ PermIn a b d d' ∧ SWK enc k w0 blk off d' w' := by
  have mixed := L.mixed; have t0 := L.t0; have a0 := L.a0; have z0 := L.z0; have v0 := L.v0; have t3 := L.t3; have a3 := L.a3; have z3 := L.z3; have v3 := L.v3; have t4 := L.t4; have a4 := L.a4; have z4 := L.z4; have v4 := L.v4; have t22 := L.t22; have a22 := L.a22; have z22 := L.z22; have v22 := L.v22; have t60 := L.t60; have a60 := L.a60; have z60 := L.z60; have v60 := L.v60
  have FG := L.f40
  have S0 : Aside (SWK enc k w0 blk off d w) := S
  have HL : Aside (Ip P k) := L
  have HSW : Aside (∀ (x y n : Nat) (dk : Array α) (W : World), dk.size = d.size → SWK enc k w0 blk off dk W → x + n ≤ y → y + n ≤ b → a ≤ x →
      Calls P 41 #[.slice (some ⟨blk, off, none⟩) d.size cap, .int .i64 x, .int .i64 y, .int .i64 n, fv] W fun e w' => e = .returned (.tuple #[]) ∧ ∃ d', Swr x y n dk d' ∧ PermIn a b dk d' ∧ SWK enc k w0 blk off d' w') := by
    intro x y n dk W h1 h2 h3 h4 h5
    have := swapRange L enc fv blk off cap x y n a b d0 dk w0 W R (by omega) h2 h3 h4 (by omega) h5 (by omega)
    rw [h1] at this
    exact this
  have en : ∀ args w, (callFunc 41 args).run P w = .ok (.enter 41 args) w := enters_of L.f41 (by kernel_rfl) rfl
  clear S L
  go_enter FG, Try.ntmps40
  go_wp2
  go_loopg [10, 11] (b - a) (fun kx s8 s9 wr => ∃ (i j : Nat) (dk : Array α), s8 = .int .i64 i ∧ s9 = .int .i64 j ∧ 0 < i ∧ 0 < j ∧ i + a ≤ m ∧ m + j ≤ b ∧ i + j ≤ kx ∧ dk.size = d.size ∧ Aside (SWK enc k w0 blk off dk wr) ∧ Aside ((∀ t, rot (m - i) m (m + j) (fun t => dk[t]!) t = rot a m b (fun t => d[t]!) t) ∧ PermIn a b d dk))
  case atStart =>
    refine ⟨m - a, b - m, d, ?_, ?_, by omega, by omega, by omega, by omega, by omega, rfl, S0, ⟨fun t => by rw [show m - (m - a) = a by omega, show m + (b - m) = b by omega], permIn_refl _ _ _⟩⟩
    · first | (congr 1; omega) | go_num
    · first | (congr 1; omega) | go_num
  case round =>
    clear S0
    obtain ⟨i, j, dk, rfl, rfl, hi0, hj0, him, hjb, hkx, hds, S1, H1⟩ := hrel
    by_cases hne : i = j
    · subst hne
      have hc := HSW.out (m - i) m i dk wr hds S1.out (by omega) (by omega) (by omega)
      have hb1 : ((i : Int) != (i : Int)) = false := by simp
      have e1 : ((m - i : Nat) : Int) = (m : Int) - (i : Int) := by omega
      have e2 : IntKind.i64.wrap ((m : Int) - (i : Int)) = (m : Int) - (i : Int) := by rw [IntKind.wrap_i64]; omega
      rw [e1] at hc
      clear HSW S1
      go_wp2_with (go_at_call 41; refine hc.mono ?_; rintro e w' ⟨rfl, d', h1, h2, h3⟩)
      go_end0
      refine ⟨rfl, d', ⟨h1.1.trans hds, fun t => ?_⟩, permIn_trans _ _ _ _ _ H1.out.2 h2, h3⟩
      rw [← H1.out.1 t]; exact rot_last (by omega) h1 t
    · have hb1 : ((i : Int) != (j : Int)) = true := by simp; omega
      have hne' : ¬ (i : Int) = (j : Int) := by omega
      by_cases hgt : j < i
      · have hgt' : (j : Int) < (i : Int) := by omega
        have hc := HSW.out (m - i) m j dk wr hds S1.out (by omega) (by omega) (by omega)
        have e1 : ((m - i : Nat) : Int) = (m : Int) - (i : Int) := by omega
        have e2 : IntKind.i64.wrap ((m : Int) - (i : Int)) = (m : Int) - (i : Int) := by rw [IntKind.wrap_i64]; omega
        rw [e1] at hc
        clear HSW S1
        go_wp2_with (go_at_call 41; refine hc.mono ?_; rintro e w' ⟨rfl, d', h1, h2, h3⟩)
        go_roundg (i - j + j)
        case measure => omega
        case rel =>
          refine ⟨i - j, j, d', ?_, rfl, by omega, hj0, by omega, hjb, Nat.le_refl _, h1.1.trans hds, h3, ⟨fun t => ?_, permIn_trans _ _ _ _ _ H1.out.2 h2⟩⟩
          · first | (congr 1; omega) | go_num
          · rw [← H1.out.1 t]; exact rot_more (by omega) hgt h1 t
      · have hgt' : ¬ (j : Int) < (i : Int) := by omega
        have hc := HSW.out (m - i) (m + j - i) i dk wr hds S1.out (by omega) (by omega) (by omega)
        have e1 : ((m - i : Nat) : Int) = (m : Int) - (i : Int) := by omega
        have e2 : IntKind.i64.wrap ((m : Int) - (i : Int)) = (m : Int) - (i : Int) := by rw [IntKind.wrap_i64]; omega
        have e3 : ((m + j - i : Nat) : Int) = (m : Int) + (j : Int) - (i : Int) := by omega
        rw [e1, e3] at hc
        clear HSW S1
        go_wp2_with (go_at_call 41; refine hc.mono ?_; rintro e w' ⟨rfl, d', h1, h2, h3⟩)
        go_roundg (i + (j - i))
        case measure => omega
        case rel =>
          refine ⟨i, j - i, d', rfl, ?_, hi0, by omega, him, by omega, Nat.le_refl _, h1.1.trans hds, h3, ⟨fun t => ?_, permIn_trans _ _ _ _ _ H1.out.2 h2⟩⟩
          · first | (congr 1; omega) | go_num
          · rw [← H1.out.1 t]; exact rot_less (by omega) (by omega) h1 t
end Go.Proofs.Ytahnkkifegdjeaa
