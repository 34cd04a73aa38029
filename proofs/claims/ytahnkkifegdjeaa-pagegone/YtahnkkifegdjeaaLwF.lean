/-
  What the law's helper Fair answers.
-/
import Derived.Test.YtahnkkifegdjeaaLwA
namespace Go.Proofs.Ytahnkkifegdjeaa
open Go.RowKit Go.Shelf Go.Sort Nq
attribute [local go_sem ↓] Go.wp_at_zero Go.wp_at_succ
set_option linter.unusedVariables false

def NotAl (L : List En) (i n : Nat) : Prop := ∀ j, j < n → j ≠ i → L[j]!.key = L[i]!.key → L[j]!.id ≠ L[i]!.id
def Top (L : List En) (i n : Nat) : Prop := ∀ j, j < n → j ≠ i → L[j]!.key = L[i]!.key → L[j]!.id < L[i]!.id
def FairAt (L : List En) (i : Nat) : Prop := tx L[i]!.key ≠ [] ∧ NotAl L i L.length ∧ (L[i]!.la = true ↔ Top L i L.length)
def FairP (L : List En) : Prop := ∀ i, i < L.length → FairAt L i
theorem NotAl.succ {L : List En} {i n : Nat} (h : NotAl L i n) (hn : n ≠ i → L[n]!.key = L[i]!.key → L[n]!.id ≠ L[i]!.id) : NotAl L i (n + 1) := fun j hj hji hk => by
  by_cases e : j = n
  · subst e; exact hn hji hk
  · exact h j (by omega) hji hk
theorem Top.succ {L : List En} {i n : Nat} {m : Bool} (h : m = true ↔ Top L i n) (m' : Bool) (hn : m' = true ↔ (m = true ∧ (n ≠ i → L[n]!.key = L[i]!.key → L[n]!.id < L[i]!.id))) : m' = true ↔ Top L i (n + 1) := by
  rw [hn, h]
  refine ⟨fun q j hj hji hk => ?_, fun q => ⟨fun j hj => q j (by omega), q n (by omega)⟩⟩
  by_cases e : j = n
  · subst e; exact q.2 hji hk
  · exact q.1 j (by omega) hji hk

set_option maxRecDepth 100000 in
set_option maxHeartbeats 4000000 in
theorem fair_any (a : Option Addr) (c : Nat) (L : List En) (w : World) (h : Es w a L) (hn : L.length ≤ 1000000) :
    Calls Try.prog 10 #[.slice a L.length c] w fun r w' => BoolEnd (FairP L) r ∧ ∃ q, w' = w.drewN q := by
  have HE : Aside (Es w a L) := h
  clear h
  go_enter Try.func10, Try.ntmps10
  go_wp2
  go_loopg [3] (L.length) (fun kx s3 wr => ∃ i : Nat, s3 = .int .i64 i ∧ i ≤ L.length ∧ L.length - i ≤ kx ∧ Aside (∀ t, t < i → FairAt L t) ∧ ∃ q, wr = w.drewN q)
  case atStart =>
    have h0 : Aside (∀ t, t < 0 → FairAt L t) := fun t ht => absurd ht (Nat.not_lt_zero _)
    exact ⟨0, rfl, Nat.zero_le _, by omega, h0, 0, rfl⟩
  case round =>
    obtain ⟨i, rfl, hi, hkx, HF, q, rfl⟩ := hrel
    by_cases hlt : i < L.length
    rotate_left
    · have hiz : ¬ (i : Int) < (L.length : Int) := by omega
      have HR : Aside (FairP L) := fun t ht => HF.out t (by omega)
      clear HF
      go_wp2
      go_ret
      exact ⟨⟨_, rfl, fun _ => HR.out⟩, _, rfl⟩
    obtain ⟨b, o, rfl, hc⟩ := HE.out (by omega)
    have HC : Aside (∀ i, i < L.length → EAt w b (o + i * 6) L[i]!) := hc
    obtain ⟨c0, c1, c2, c3, c4, c5⟩ := hc i hlt
    have hiz : (i : Int) < (L.length : Int) := by omega
    obtain ⟨e, he⟩ : ∃ e, e = L[i]! := ⟨_, rfl⟩
    have HEE : Aside (e = L[i]!) := he
    rw [← he] at c0 c1 c2 c3 c4 c5
    clear hc he
    have hz := fr_nil e.key
    cases hd : decide (tx e.key = []) with
    | true =>
      rw [hd] at hz
      clear HF hd
      go_wp2
      go_ret
      exact ⟨⟨_, rfl, fun q => by cases q⟩, _, rfl⟩
    | false =>
      rw [hd] at hz
      have HK : Aside (tx e.key ≠ []) := of_decide_eq_false hd
      clear hd
      by_cases hneg : e.id < 0
      · have g1 : decide (e.id < 0) = true := decide_eq_true hneg
        clear HF
        go_wp2
        go_ret
        exact ⟨⟨_, rfl, fun q => by cases q⟩, _, rfl⟩
      · have g1 : decide (e.id < 0) = false := decide_eq_false hneg
        go_wp2
        go_loopg [5, 4] (L.length) (fun kx2 s5 s4 wr => ∃ (k : Nat) (mo : Bool), s5 = .int .i64 k ∧ s4 = .bool mo ∧ k ≤ L.length ∧ L.length - k ≤ kx2 ∧ Aside (NotAl L i k ∧ (mo = true ↔ Top L i k)) ∧ ∃ q, wr = w.drewN q)
        case atStart =>
          have h0 : Aside (NotAl L i 0 ∧ (true = true ↔ Top L i 0)) := ⟨fun j hj => absurd hj (Nat.not_lt_zero _), fun _ j hj => absurd hj (Nat.not_lt_zero _), fun _ => rfl⟩
          exact ⟨0, true, rfl, rfl, Nat.zero_le _, by omega, h0, _, rfl⟩
        case round =>
          obtain ⟨k, mo, rfl, rfl, hk, hkx2, I, q2, rfl⟩ := hrel
          by_cases hkl : k < L.length
          · obtain ⟨d0, d1, d2, d3, d4, d5⟩ := HC.out k hkl
            obtain ⟨y, hy⟩ : ∃ y, y = L[k]! := ⟨_, rfl⟩
            have HYY : Aside (y = L[k]!) := hy
            rw [← hy] at d0 d1 d2 d3 d4 d5
            clear hy
            have hkz : (k : Int) < (L.length : Int) := by omega
            have hkb := key_beq y.key e.key
            by_cases hki : k = i
            · have g2 : ((k : Int) != (i : Int)) = false := by simp [hki]
              have I2 : Aside (NotAl L i (k + 1) ∧ (mo = true ↔ Top L i (k + 1))) := ⟨I.out.1.succ (fun q => absurd hki q), Top.succ I.out.2 mo ⟨fun q => ⟨q, fun z => absurd hki z⟩, fun q => q.1⟩⟩
              clear I hki
              go_wp2_with fail
              go_quiet (fail)
              go_wp2
              go_roundg (L.length - (k + 1))
              case measure => omega
              case rel => exact ⟨k + 1, mo, by go_num, rfl, by omega, Nat.le_refl _, I2, _, rfl⟩
            · have g2 : ((k : Int) != (i : Int)) = true := by rw [bne_iff_ne]; omega
              by_cases hke : y.key = e.key
              · rw [decide_eq_true hke] at hkb
                by_cases hid : y.id = e.id
                · have g3 : (y.id == e.id) = true := by simp [hid]
                  clear I HF hki hke hid
                  go_wp2_with fail
                  go_quiet (fail)
                  go_wp2_with fail
                  go_quiet (fail)
                  go_wp2
                  go_ret
                  exact ⟨⟨_, rfl, fun q => by cases q⟩, by first | exact ⟨_, rfl⟩ | exact ⟨_, by rw [World.drewN_drewN, World.drewN_drewN]⟩⟩
                · have g3 : (y.id == e.id) = false := by simp [hid]
                  cases mo with
                  | false =>
                    have I2 : Aside (NotAl L i (k + 1) ∧ (false = true ↔ Top L i (k + 1))) := ⟨I.out.1.succ (fun _ _ => by rw [← HYY.out, ← HEE.out]; exact hid), Top.succ I.out.2 false ⟨(fun q => by cases q), fun q => q.1⟩⟩
                    clear I hki hke hid
                    go_wp2_with fail
                    go_quiet (fail)
                    go_wp2_with fail
                    go_quiet (fail)
                    go_wp2_with fail
                    go_quiet (fail)
                    go_wp2
                    go_roundg (L.length - (k + 1))
                    case measure => omega
                    case rel => exact ⟨k + 1, false, by go_num, rfl, by omega, Nat.le_refl _, by first | exact I2 | simpa using I2, _, rfl⟩
                  | true =>
                    have I2 : Aside (NotAl L i (k + 1) ∧ (decide (y.id < e.id) = true ↔ Top L i (k + 1))) := by
                      refine ⟨I.out.1.succ (fun _ _ => by rw [← HYY.out, ← HEE.out]; exact hid), Top.succ I.out.2 _ ?_⟩
                      rw [← HYY.out, ← HEE.out]
                      exact ⟨fun q => ⟨rfl, fun _ _ => of_decide_eq_true q⟩, fun q => decide_eq_true (q.2 hki hke)⟩
                    clear I hki hke hid
                    go_wp2_with fail
                    go_quiet (fail)
                    go_wp2_with fail
                    go_quiet (fail)
                    go_wp2_with fail
                    go_quiet (fail)
                    go_wp2
                    go_roundg (L.length - (k + 1))
                    case measure => omega
                    case rel => exact ⟨k + 1, decide (y.id < e.id), by go_num, rfl, by omega, Nat.le_refl _, I2, _, rfl⟩
              · rw [decide_eq_false hke] at hkb
                have I2 : Aside (NotAl L i (k + 1) ∧ (mo = true ↔ Top L i (k + 1))) := ⟨I.out.1.succ (fun _ q => absurd (by rw [HYY.out, HEE.out]; exact q) hke), Top.succ I.out.2 mo ⟨fun q => ⟨q, fun _ z => absurd (by rw [HYY.out, HEE.out]; exact z) hke⟩, fun q => q.1⟩⟩
                clear I hki hke
                go_wp2_with fail
                go_quiet (fail)
                go_wp2
                go_roundg (L.length - (k + 1))
                case measure => omega
                case rel => exact ⟨k + 1, mo, by go_num, rfl, by omega, Nat.le_refl _, I2, _, rfl⟩
          · have hkz : ¬ (k : Int) < (L.length : Int) := by omega
            have hke : k = L.length := by omega
            have I2 : Aside (mo = e.la → FairAt L i) := fun q => by
              obtain ⟨i1, i2⟩ := I.out
              rw [hke] at i1 i2
              exact ⟨by rw [← HEE.out]; exact HK.out, i1, by rw [← HEE.out, ← q]; exact i2⟩
            clear I hke
            by_cases hml : mo = e.la
            · have g4 : (mo == e.la) = true := by simp [hml]
              have HF2 : Aside (∀ t, t < i + 1 → FairAt L t) := fun t ht => by
                by_cases et : t = i
                · subst et; exact I2.out hml
                · exact HF.out t (by omega)
              clear HF I2 hml
              go_wp2
              go_roundg (L.length - (i + 1))
              case measure => omega
              case rel => exact ⟨i + 1, by go_num, by omega, Nat.le_refl _, HF2, _, rfl⟩
            · have g4 : (mo == e.la) = false := by simp [hml]
              clear HF I2 hml
              go_wp2
              go_ret
              exact ⟨⟨_, rfl, fun q => by cases q⟩, _, rfl⟩
end Go.Proofs.Ytahnkkifegdjeaa
