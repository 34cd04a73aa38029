/-
  What the document's Path of layer 6 answers.
-/
import Derived.Test.YtighljdeaofanaaDoorNmR
namespace Go.Proofs.YtighljdeaofanaaDoor
open Go.RowKit Nm
attribute [local go_sem ↓] Go.wp_at_zero Go.wp_at_succ
set_option linter.unusedVariables false

theorem tx_app (a b : ByteArray) : tx (a ++ b) = tx a ++ tx b := by unfold tx; simp
theorem tx_take (s : ByteArray) (k : Nat) (h : k < s.size) : (tx s).take (k + 1) = (tx s).take k ++ [s[k]] := by
  unfold tx
  rw [List.take_succ_eq_append_getElem (by simpa using h)]
  rfl
/-- The signs of base 16. -/
theorem sg (d : Nat) (h : d < 16) : tx ((⟨#[48, 49, 50, 51, 52, 53, 54, 55, 56, 57, 97, 98, 99, 100, 101, 102]⟩ : ByteArray).extract d (d + 1)) = [hx d] := by
  have : ∀ d : Fin 16, tx ((⟨#[48, 49, 50, 51, 52, 53, 54, 55, 56, 57, 97, 98, 99, 100, 101, 102]⟩ : ByteArray).extract d.1 (d.1 + 1)) = [hx d.1] := by decide
  exact this ⟨d, h⟩

set_option maxRecDepth 100000 in
set_option maxHeartbeats 1000000 in
theorem rpath_any (s : ByteArray) (w : World) (hs : s.size ≤ 1000000) :
    Calls Tryd.prog 18 #[.string s] w fun e w' => ∃ r, e = .returned (.string r) ∧ tx r = pth (tx s) ∧ ∃ q, w' = w.drewN q := by
  go_enter Tryd.func18, Tryd.ntmps18
  go_wp2
  go_loopw [3, 4] (fun o i wr => ∃ (k : Nat) (r : ByteArray), k ≤ s.size ∧ i = .int .i64 (k : Int) ∧ o = .string r ∧ tx r = pth ((tx s).take k) ∧ ∃ q, wr = w.drewN q) (fun _ i _ => s.size - (intOf i).toNat)
  case atStart => exact ⟨0, ByteArray.empty, by omega, rfl, rfl, rfl, 0, rfl⟩
  case round =>
    obtain ⟨k, r, hk, rfl, rfl, hr, q, rfl⟩ := hrel
    by_cases h1 : k < s.size
    · have i1 : (k : Int) < (s.size : Int) := by omega
      have i2 : (0 ≤ (k : Int) ∧ (k : Int) < (s.size : Int)) := ⟨by omega, by omega⟩
      obtain ⟨x, hxx⟩ : ∃ x, s[k] = x := ⟨_, rfl⟩
      have hxt : (s[k].toNat : Int) = (x.toNat : Int) := by rw [hxx]
      have HR : Hid (tx r = pth ((tx s).take k)) := hr
      have hl := x.toNat_lt
      obtain ⟨d, hd⟩ : ∃ d, x.toNat / 16 = d := ⟨_, rfl⟩
      have hd16 : d < 16 := by omega
      have id : (x.toNat : Int) / 16 = (d : Int) := by omega
      have idl : (d : Int) < 16 := by omega
      have wd : IntKind.u8.wrap ((d : Int) + 1) = (d : Int) + 1 := by rw [IntKind.wrap_u8]; omega
      have d1 : (d : Int) + 1 ≤ 16 := by omega
      have d2 : (0 ≤ (d : Int) ∧ (d : Int) ≤ (d : Int) + 1) := ⟨by omega, by omega⟩
      obtain ⟨e, he⟩ : ∃ e, x.toNat % 16 = e := ⟨_, rfl⟩
      have he16 : e < 16 := by omega
      have ie : (x.toNat : Int) % 16 = (e : Int) := by omega
      have we : IntKind.u8.wrap ((e : Int) + 1) = (e : Int) + 1 := by rw [IntKind.wrap_u8]; omega
      have e1 : (e : Int) + 1 ≤ 16 := by omega
      have e2 : (0 ≤ (e : Int) ∧ (e : Int) ≤ (e : Int) + 1) := ⟨by omega, by omega⟩
      obtain ⟨sd, hsd⟩ : ∃ sd, (⟨#[48, 49, 50, 51, 52, 53, 54, 55, 56, 57, 97, 98, 99, 100, 101, 102]⟩ : ByteArray).extract d (d + 1) = sd := ⟨_, rfl⟩
      obtain ⟨se, hse⟩ : ∃ se, (⟨#[48, 49, 50, 51, 52, 53, 54, 55, 56, 57, 97, 98, 99, 100, 101, 102]⟩ : ByteArray).extract e (e + 1) = se := ⟨_, rfl⟩
      have HD : Hid (tx sd = [hx d]) := by unfold Hid; rw [← hsd]; exact sg d hd16
      have HE : Hid (tx se = [hx e]) := by unfold Hid; rw [← hse]; exact sg e he16
      have nd : sd.size = 1 := by rw [← tx_length, HD.out]; rfl
      have ne : se.size = 1 := by rw [← tx_length, HE.out]; rfl
      obtain ⟨nr, hnr⟩ : ∃ nr, r.size = nr := ⟨_, rfl⟩
      have hnr2 : nr ≤ 2000000 := by rw [← hnr, ← tx_length, hr, pth_length, List.length_take]; omega
      have f1 : (9223372036854775807 < nr + 1) = False := eq_false (by omega)
      have f2 : (9223372036854775807 < nr + 1 + 1) = False := eq_false (by omega)
      have HX : Hid (s[k] = x ∧ x.toNat / 16 = d ∧ x.toNat % 16 = e) := ⟨hxx, hd, he⟩
      clear hr hxx hd he
      go_wp2
      go_quiet (fail)
      go_wp2
      go_round
      case rel =>
        refine ⟨k + 1, _, by omega, by go_num, rfl, ?_, _, rfl⟩
        obtain ⟨h1, h2, h3⟩ := HX.out
        rw [tx_app, tx_app, HR.out, HD.out, HE.out, tx_take s k (by omega), pth_app, h1]
        show _ = _ ++ [hx (x.toNat / 16), hx (x.toNat % 16)]
        rw [h2, h3, List.append_assoc]
        rfl
      case measure => simp [intOf]; omega
    · have hkk : k = s.size := by omega
      subst hkk
      have HR : Hid (tx r = pth (tx s)) := by
        unfold Hid
        rw [hr, List.take_of_length_le (by rw [tx_length]; omega)]
      clear hr
      go_wp2
      go_ret
      exact ⟨_, rfl, HR.out, _, rfl⟩
end Go.Proofs.YtighljdeaofanaaDoor
