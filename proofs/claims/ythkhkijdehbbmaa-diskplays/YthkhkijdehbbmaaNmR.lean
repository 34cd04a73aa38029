/-
  What the document's Less, digit, Prefix of layer 6 answer.
-/
import Derived.Test.YthkhkijdehbbmaaNmK
import Derived.Test.YthkhkijdehbbmaaRows
import Derived.WalkKit
import Derived.WalkSpells
import Derived.WalkLawsBesides
import Derived.ProofKit
import Derived.Below
import Derived.Deep.QuietTactic
import Derived.BigQuiet
import Derived.Deep.DrawnRows
namespace Go.Proofs.Ythkhkijdehbbmaa
open Go.RowKit Nm
attribute [local go_sem ↓] Go.wp_at_zero Go.wp_at_succ
set_option linter.unusedVariables false

/-- A text's bytes. -/
def tx (s : ByteArray) : List UInt8 := s.data.toList
theorem tx_length (s : ByteArray) : (tx s).length = s.size := Array.length_toList
theorem tx_drop (s : ByteArray) (k : Nat) (h : k < s.size) : (tx s).drop k = s[k] :: (tx s).drop (k + 1) := by
  unfold tx
  rw [List.drop_eq_getElem_cons (by simpa using h)]
  rfl
theorem ret_b {a b : Bool} (h : a = b) : Ending.returned (.bool a) = .returned (.bool b) := by rw [h]

set_option maxRecDepth 100000 in
set_option maxHeartbeats 1000000 in
theorem rless_any (a b : ByteArray) (w : World) (ha : a.size ≤ maxLen) (hb : b.size ≤ maxLen) :
    Calls Try.prog 66 #[.string a, .string b] w fun e w' => e = .returned (.bool (ls (tx a) (tx b))) ∧ ∃ q, w' = w.drewN q := by
  unfold maxLen at ha hb
  have HZ : Hid (∀ L, ls (tx a) (tx b) = L → ls (tx a) (tx b) = L) := fun _ h => h
  obtain ⟨L, hL⟩ : ∃ L, ls (tx a) (tx b) = L := ⟨_, rfl⟩
  rw [hL]
  have HL : Hid (ls (tx a) (tx b) = L) := hL
  clear hL HZ
  go_enter Try.func66, Try.ntmps66
  go_wp2
  go_loopw [5] (fun i wr => ∃ k : Nat, k ≤ a.size ∧ k ≤ b.size ∧ i = .int .i64 (k : Int) ∧ ls ((tx a).drop k) ((tx b).drop k) = L ∧ ∃ q, wr = w.drewN q) (fun i _ => a.size - (intOf i).toNat)
  case atStart => exact ⟨0, by omega, by omega, rfl, by simpa using HL.out, 0, rfl⟩
  case round =>
    obtain ⟨k, hka, hkb, rfl, hl, q, rfl⟩ := hrel
    clear HL
    by_cases h1 : k < a.size
    · by_cases h2 : k < b.size
      · rw [tx_drop a k h1, tx_drop b k h2, ls_cons] at hl
        have i1 : (k : Int) < (a.size : Int) := by omega
        have i2 : (k : Int) < (b.size : Int) := by omega
        by_cases e : a[k] = b[k]
        · rw [if_pos e] at hl
          have HH : Hid (ls ((tx a).drop (k + 1)) ((tx b).drop (k + 1)) = L) := hl
          have e1 : (a[k].toNat : Int) = (b[k].toNat : Int) := by rw [e]
          clear hl e
          go_wp2
          go_quiet (fail)
          go_wp2
          go_round
          case rel => exact ⟨k + 1, by omega, by omega, by go_num, HH.out, _, rfl⟩
          case measure => simp [intOf]; omega
        · rw [if_neg e] at hl
          have HH : Hid (decide (a[k].toNat < b[k].toNat) = L) := hl
          have e1 : (a[k].toNat : Int) ≠ (b[k].toNat : Int) := by have := u8_ne e; omega
          clear hl e
          go_wp2
          go_quiet (fail)
          go_wp2
          go_quiet (fail)
          go_wp2
          go_ret
          refine ⟨ret_b ?_, _, by rw [World.drewN_drewN, World.drewN_drewN]⟩
          first | exact HH.out | (rw [← HH.out]; refine decide_eq_decide.2 ?_; omega)
      · have hk : k = b.size := by omega
        have hd : (tx b).drop k = [] := List.drop_eq_nil_of_le (by rw [tx_length]; omega)
        rw [hd, ls_nil] at hl
        have i1 : (k : Int) < (a.size : Int) := by omega
        have i2 : decide ((k : Int) < (b.size : Int)) = false := decide_eq_false (by omega)
        have i3 : decide ((a.size : Int) < (b.size : Int)) = false := decide_eq_false (by omega)
        have HH : Hid (false = L) := hl
        clear hl hd
        go_wp2
        go_ret
        exact ⟨ret_b (by rw [← HH.out]; first | done | exact decide_eq_false (by omega) | exact decide_eq_true (by omega)), _, rfl⟩
    · have hk : k = a.size := by omega
      have hd : (tx a).drop k = [] := List.drop_eq_nil_of_le (by rw [tx_length]; omega)
      have i1 : decide ((k : Int) < (a.size : Int)) = false := decide_eq_false (by omega)
      by_cases h2 : k < b.size
      · rw [hd, tx_drop b k h2] at hl
        have HH : Hid (true = L) := hl
        have i3 : (a.size : Int) < (b.size : Int) := by omega
        clear hl hd hk
        go_wp2
        go_ret
        exact ⟨ret_b (by rw [← HH.out]; first | done | exact decide_eq_false (by omega) | exact decide_eq_true (by omega)), _, rfl⟩
      · have hd2 : (tx b).drop k = [] := List.drop_eq_nil_of_le (by rw [tx_length]; omega)
        rw [hd, hd2] at hl
        have HH : Hid (false = L) := hl
        have i3 : decide ((a.size : Int) < (b.size : Int)) = false := decide_eq_false (by omega)
        clear hl hd hd2 hk
        go_wp2
        go_ret
        exact ⟨ret_b (by rw [← HH.out]; first | done | exact decide_eq_false (by omega) | exact decide_eq_true (by omega)), _, rfl⟩

theorem tx_inj {a b : ByteArray} (h : tx a = tx b) : a = b := ByteArray.ext (Array.toList_inj.1 h)
theorem tx_beq (a b : ByteArray) : (a.toList == b.toList) = decide (tx a = tx b) := by
  rw [ByteArray.toList_eq, ByteArray.toList_eq]
  by_cases h : tx a = tx b
  · rw [decide_eq_true h]; unfold tx at h; rw [h]; simp
  · rw [decide_eq_false h]; unfold tx at h; simpa using h
theorem tx_extract (s : ByteArray) (k : Nat) (h : k ≤ s.size) : tx (s.extract 0 k) = (tx s).take k := by
  unfold tx
  simp [ByteArray.data_extract]

set_option maxRecDepth 100000 in
set_option maxHeartbeats 1000000 in
theorem rprefix_any (a p : ByteArray) (w : World) (ha : a.size ≤ maxLen) (hp : p.size ≤ maxLen) :
    Calls Try.prog 59 #[.string a, .string p] w fun e w' => e = .returned (.bool (pre (tx a) (tx p))) ∧ w = w' := by
  unfold maxLen at ha hp
  rw [pre_take, tx_length, tx_length]
  by_cases h : p.size ≤ a.size
  · have i1 : (p.size : Int) ≤ (a.size : Int) := by omega
    go_enter Try.func59, Try.ntmps59
    go_wp2
    go_ret
    exact ⟨ret_b (by rw [tx_beq, tx_extract _ _ h]; exact decide_eq_decide.2 ⟨fun q => ⟨h, q⟩, fun q => q.2⟩), rfl⟩
  · have i1 : (a.size : Int) < (p.size : Int) := by omega
    go_enter Try.func59, Try.ntmps59
    go_wp2
    go_ret
    exact ⟨ret_b (by rw [decide_eq_false (by omega)]), rfl⟩
end Go.Proofs.Ythkhkijdehbbmaa
