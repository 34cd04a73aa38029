/-
  What within, Join, Parts, New, Next, Last, Boot of the clock answer, and the document's Join, Parts, NewClock.
-/
import Derived.Test.YtmkimkffglidhaaChecked
import Derived.WalkKit
import Derived.WalkSpells
import Derived.WalkLawsBesides
import Derived.BigQuiet
import Derived.Below
import Derived.Deep.LoopGhost
import Derived.Deep.RegionLaw
import Derived.Deep.RegionHeld3
import Derived.BigGuardPart
import Derived.Deep.DeepCutAuto
import Derived.Deep.Cut
import Derived.Laws.BitsLemmas
import Derived.Deep.DrawnRows
namespace Go.Proofs.Ytmkimkffglidhaa
open Go.RowKit
attribute [local go_sem ↓] Go.wp_at_zero Go.wp_at_succ
set_option linter.unusedVariables false

theorem i64_and65535 (n : Int) : bits .and .i64 n 65535 = n % 65536 := by
  have h127 : (BitVec.ofInt 64 65535).toNat = 2 ^ 16 - 1 := by decide
  have key : (BitVec.ofInt 64 n &&& BitVec.ofInt 64 65535).toNat = (n % ((2 ^ 64 : Nat) : Int)).toNat % 2 ^ 16 := by
    rw [BitVec.toNat_and, BitVec.toNat_ofInt, h127, Nat.and_two_pow_sub_one_eq_mod]
  show IntKind.i64.wrap ((BitVec.ofInt 64 n &&& BitVec.ofInt 64 65535).toNat : Nat) = n % 65536
  rw [key, IntKind.wrap_i64]
  omega

theorem within_yes (x g : Int) (w : World) (h1 : 1 ≤ x) (h2 : x ≤ g) :
    Calls Try.prog 17 #[.int .i64 x, .int .i64 g] w fun e w' => e = .returned (.bool true) ∧ w = w' := by
  go_enter Try.func17, Try.ntmps17
  go_wp2
  go_ret
  exact ⟨rfl, rfl⟩
theorem within_no (x g : Int) (w : World) (h : ¬ (1 ≤ x ∧ x ≤ g)) :
    Calls Try.prog 17 #[.int .i64 x, .int .i64 g] w fun e w' => e = .returned (.bool false) ∧ w = w' := by
  by_cases h1 : 1 ≤ x
  · have h2 : decide (x ≤ g) = false := by simp; omega
    clear h
    go_enter Try.func17, Try.ntmps17
    go_wp2
    go_ret
    exact ⟨rfl, rfl⟩
  · have h2 : decide (1 ≤ x) = false := by simp; omega
    clear h h1
    go_enter Try.func17, Try.ntmps17
    go_wp2
    go_ret
    exact ⟨rfl, rfl⟩

theorem join_yes (b c : Int) (w : World) (h1 : 1 ≤ b) (h2 : b ≤ 32767) (h3 : 1 ≤ c) (h4 : c ≤ 65535) :
    Calls Try.prog 8 #[.int .i64 b, .int .i64 c] w fun e w' => e = .returned (.tuple #[.int .i64 (b * 65536 + c), .bool true]) ∧ w = w' := by
  go_enter Try.func8, Try.ntmps8
  go_wp2_with fail
  go_at_call 17
  refine (within_yes b 32767 _ h1 h2).mono ?_
  rintro e w' ⟨rfl, rfl⟩
  go_wp2_with fail
  go_at_call 17
  refine (within_yes c 65535 _ h3 h4).mono ?_
  rintro e w' ⟨rfl, rfl⟩
  go_wp2
  exact bodyPost_ret (v := .tuple #[.int .i64 (b * 65536 + c), .bool true]) (by simp [results, Try.results8, go_sem]) rfl ⟨rfl, rfl⟩
theorem join_no (b c : Int) (w : World) (h : ¬ ((1 ≤ b ∧ b ≤ 32767) ∧ (1 ≤ c ∧ c ≤ 65535))) :
    Calls Try.prog 8 #[.int .i64 b, .int .i64 c] w fun e w' => e = .returned (.tuple #[.int .i64 0, .bool false]) ∧ w = w' := by
  by_cases hb : 1 ≤ b ∧ b ≤ 32767
  · have hc : ¬ (1 ≤ c ∧ c ≤ 65535) := fun q => h ⟨hb, q⟩
    obtain ⟨h1, h2⟩ := hb
    clear h
    have cB := fun w => within_yes b 32767 w h1 h2
    have cC := fun w => within_no c 65535 w hc
    clear h1 h2 hc
    go_enter Try.func8, Try.ntmps8
    go_wp2_with fail
    go_at_call 17
    refine (cB _).mono ?_
    rintro e w' ⟨rfl, rfl⟩
    go_wp2_with fail
    go_at_call 17
    refine (cC _).mono ?_
    rintro e w' ⟨rfl, rfl⟩
    go_wp2
    exact bodyPost_ret (v := .tuple #[.int .i64 0, .bool false]) (by simp [results, Try.results8, go_sem]) rfl ⟨rfl, rfl⟩
  · have cB := fun w => within_no b 32767 w hb
    clear h hb
    go_enter Try.func8, Try.ntmps8
    go_wp2_with fail
    go_at_call 17
    refine (cB _).mono ?_
    rintro e w' ⟨rfl, rfl⟩
    go_wp2
    exact bodyPost_ret (v := .tuple #[.int .i64 0, .bool false]) (by simp [results, Try.results8, go_sem]) rfl ⟨rfl, rfl⟩

theorem rjoin_yes (b c : Int) (w : World) (h1 : 1 ≤ b) (h2 : b ≤ 32767) (h3 : 1 ≤ c) (h4 : c ≤ 65535) :
    Calls Try.prog 9 #[.int .i64 b, .int .i64 c] w fun e w' => e = .returned (.tuple #[.int .i64 (b * 65536 + c), .bool true]) ∧ w = w' := by
  go_enter Try.func9, Try.ntmps9
  go_wp2
  exact bodyPost_ret (v := .tuple #[.int .i64 (b * 65536 + c), .bool true]) (by simp [results, Try.results9, go_sem]) rfl ⟨rfl, rfl⟩
theorem rjoin_no (b c : Int) (w : World) (h : ¬ ((1 ≤ b ∧ b ≤ 32767) ∧ (1 ≤ c ∧ c ≤ 65535))) :
    Calls Try.prog 9 #[.int .i64 b, .int .i64 c] w fun e w' => e = .returned (.tuple #[.int .i64 0, .bool false]) ∧ w = w' := by
  have hb : (decide (b < 1) || decide (32767 < b) || decide (c < 1) || decide (65535 < c)) = true := by
    simp only [Bool.or_eq_true, decide_eq_true_eq]; omega
  clear h
  obtain ⟨p, hp⟩ : ∃ p, decide (b < 1) = p := ⟨_, rfl⟩
  obtain ⟨q, hq⟩ : ∃ p, decide (32767 < b) = p := ⟨_, rfl⟩
  obtain ⟨r, hr⟩ : ∃ p, decide (c < 1) = p := ⟨_, rfl⟩
  obtain ⟨s, hs⟩ : ∃ p, decide (65535 < c) = p := ⟨_, rfl⟩
  rw [hp, hq, hr, hs] at hb
  cases p with
  | true =>
    clear hb hq hr hs
    go_enter Try.func9, Try.ntmps9
    go_wp2
    exact bodyPost_ret (v := .tuple #[.int .i64 0, .bool false]) (by simp [results, Try.results9, go_sem]) rfl ⟨rfl, rfl⟩
  | false =>
  cases q with
  | true =>
    clear hb hr hs
    go_enter Try.func9, Try.ntmps9
    go_wp2
    exact bodyPost_ret (v := .tuple #[.int .i64 0, .bool false]) (by simp [results, Try.results9, go_sem]) rfl ⟨rfl, rfl⟩
  | false =>
  cases r with
  | true =>
    clear hb hs
    go_enter Try.func9, Try.ntmps9
    go_wp2
    exact bodyPost_ret (v := .tuple #[.int .i64 0, .bool false]) (by simp [results, Try.results9, go_sem]) rfl ⟨rfl, rfl⟩
  | false =>
    simp only [Bool.false_or] at hb
    subst hb
    go_enter Try.func9, Try.ntmps9
    go_wp2
    exact bodyPost_ret (v := .tuple #[.int .i64 0, .bool false]) (by simp [results, Try.results9, go_sem]) rfl ⟨rfl, rfl⟩

theorem parts_yes (b c t : Int) (w : World) (h1 : 1 ≤ b) (h2 : b ≤ 32767) (h3 : 1 ≤ c) (h4 : c ≤ 65535) (ht : t = b * 65536 + c) :
    Calls Try.prog 10 #[.int .i64 t] w fun e w' => e = .returned (.tuple #[.int .i64 b, .int .i64 c]) ∧ w = w' := by
  have cJ := fun w => join_yes b c w h1 h2 h3 h4
  have t1 : 0 ≤ t := by omega
  have t2 : t ≤ 2147483647 := by omega
  have q1 : t.tdiv 65536 = b := by rw [Int.tdiv_eq_ediv_of_nonneg (by omega)]; omega
  have q2 : t.tmod 65536 = c := by rw [Int.tmod_eq_emod_of_nonneg (by omega)]; omega
  clear ht
  go_enter Try.func10, Try.ntmps10
  go_wp2_with fail
  go_at_call 8
  refine (cJ _).mono ?_
  rintro e w' ⟨rfl, rfl⟩
  clear cJ
  go_wp2
  exact bodyPost_ret (v := .tuple #[.int .i64 b, .int .i64 c]) (by simp [results, Try.results10, go_sem, *]) rfl ⟨rfl, rfl⟩
theorem rparts_yes (b c t : Int) (w : World) (h1 : 1 ≤ b) (h2 : b ≤ 32767) (h3 : 1 ≤ c) (h4 : c ≤ 65535) (ht : t = b * 65536 + c) :
    Calls Try.prog 11 #[.int .i64 t] w fun e w' => e = .returned (.tuple #[.int .i64 b, .int .i64 c]) ∧ w = w' := by
  have cJ := fun w => rjoin_yes b c w h1 h2 h3 h4
  have t1 : 0 ≤ t := by omega
  have t2 : t ≤ 2147483647 := by omega
  have q1 : t / 65536 = b := by omega
  have q2 : bits .and .i64 t 65535 = c := by rw [i64_and65535]; omega
  clear ht
  go_enter Try.func11, Try.ntmps11
  go_wp2_with fail
  go_at_call 9
  refine (cJ _).mono ?_
  rintro e w' ⟨rfl, rfl⟩
  clear cJ
  go_wp2
  exact bodyPost_ret (v := .tuple #[.int .i64 b, .int .i64 c]) (by simp [results, Try.results11, go_sem, *]) rfl ⟨rfl, rfl⟩
theorem parts_no0 (t b c : Int) (w : World) (h1 : -9223372036854775808 ≤ t) (h2 : t ≤ 9223372036854775807) (q1 : t.tdiv 65536 = b) (q2 : t.tmod 65536 = c) (cJ : ∀ w, Calls Try.prog 8 #[.int .i64 b, .int .i64 c] w fun e w' => e = .returned (.tuple #[.int .i64 0, .bool false]) ∧ w = w') :
    Calls Try.prog 10 #[.int .i64 t] w fun e w' => e = .returned (.tuple #[.int .i64 0, .int .i64 0]) ∧ w = w' := by
  have hw : wrap64 b = b := by
    unfold wrap64
    have := Int.mul_tdiv_add_tmod t 65536
    have h5 : -65536 < t.tmod 65536 := Int.lt_tmod_of_pos _ (by omega)
    have h6 : t.tmod 65536 < 65536 := Int.tmod_lt_of_pos _ (by omega)
    omega
  clear h1 h2
  go_enter Try.func10, Try.ntmps10
  go_wp2_with fail
  rw [hw]
  clear hw q1 q2
  go_at_call 8
  refine (cJ _).mono ?_
  rintro e w' ⟨rfl, rfl⟩
  clear cJ
  go_wp2
  exact bodyPost_ret (v := .tuple #[.int .i64 0, .int .i64 0]) (by simp [results, Try.results10, go_sem]) rfl ⟨rfl, rfl⟩
theorem parts_no (t : Int) (w : World) (h1 : -9223372036854775808 ≤ t) (h2 : t ≤ 9223372036854775807) (h : ∀ b c : Int, 1 ≤ b → b ≤ 32767 → 1 ≤ c → c ≤ 65535 → t ≠ b * 65536 + c) :
    Calls Try.prog 10 #[.int .i64 t] w fun e w' => e = .returned (.tuple #[.int .i64 0, .int .i64 0]) ∧ w = w' := by
  refine parts_no0 t _ _ w h1 h2 rfl rfl fun w => join_no _ _ w ?_
  rintro ⟨⟨a1, a2⟩, a3, a4⟩
  exact h _ _ a1 a2 a3 a4 (by have := Int.mul_tdiv_add_tmod t 65536; omega)
set_option maxHeartbeats 2000000 in
theorem rparts_no (t : Int) (w : World) (h1 : -9223372036854775808 ≤ t) (h2 : t ≤ 9223372036854775807) (h : ∀ b c : Int, 1 ≤ b → b ≤ 32767 → 1 ≤ c → c ≤ 65535 → t ≠ b * 65536 + c) :
    Calls Try.prog 11 #[.int .i64 t] w fun e w' => e = .returned (.tuple #[.int .i64 0, .int .i64 0]) ∧ w = w' := by
  obtain ⟨b, q1⟩ : ∃ b, t / 65536 = b := ⟨_, rfl⟩
  obtain ⟨c, q2⟩ : ∃ c, bits .and .i64 t 65535 = c := ⟨_, rfl⟩
  have q3 := q2
  rw [i64_and65535] at q3
  have hn : ¬ ((1 ≤ b ∧ b ≤ 32767) ∧ (1 ≤ c ∧ c ≤ 65535)) := by
    rintro ⟨⟨a1, a2⟩, a3, a4⟩
    exact h b c a1 a2 a3 a4 (by omega)
  clear q3
  have cJ := fun w => rjoin_no b c w hn
  clear h hn
  go_enter Try.func11, Try.ntmps11
  go_wp2_with fail
  go_at_call 9
  refine (cJ _).mono ?_
  rintro e w' ⟨rfl, rfl⟩
  clear cJ
  go_wp2
  exact bodyPost_ret (v := .tuple #[.int .i64 0, .int .i64 0]) (by simp [results, Try.results11, go_sem, *]) rfl ⟨rfl, rfl⟩

/-- A clock. -/
def Ck (w : World) (p : Nat) (b g : Int) : Prop := w.heap[p]? = some (.cells #[.int .i64 b, .int .i64 g] 44)
theorem Ck.boot {w : World} {p : Nat} {b g : Int} (h : Ck w p b g) : w.cell? ⟨p, 0, none⟩ = some (.int .i64 b) := by
  unfold Ck at h; simp [World.cell?, h]
theorem Ck.given {w : World} {p : Nat} {b g : Int} (h : Ck w p b g) : w.cell? ⟨p, 1, none⟩ = some (.int .i64 g) := by
  unfold Ck at h; simp [World.cell?, h]
theorem Ck.soft {w : World} {p : Nat} {b g : Int} (h : Ck w p b g) (j : Nat) : w.frozen? ⟨p, j, none⟩ = false := by
  unfold Ck at h; simp [World.frozen?, h]
theorem Ck.drewN {w : World} {p : Nat} {b g : Int} (h : Ck w p b g) (n : Nat) : Ck (w.drewN n) p b g := h

theorem new_yes (b : Int) (w : World) (h1 : 1 ≤ b) (h2 : b ≤ 32767) :
    Calls Try.prog 12 #[.int .i64 b] w fun e w' => e = .returned (.tuple #[.pointer (some ⟨w.heap.size, 0, none⟩), .int .i64 0]) ∧ w.alloc (.cells #[.int .i64 b, .int .i64 0] 44) = w' := by
  have cB := fun w => within_yes b 32767 w h1 h2
  go_enter Try.func12, Try.ntmps12
  go_wp2_with fail
  go_at_call 17
  refine (cB _).mono ?_
  rintro e w' ⟨rfl, rfl⟩
  go_wp2
  exact bodyPost_ret (v := .tuple #[.pointer (some ⟨w.heap.size, 0, none⟩), .int .i64 0]) (by simp [results, Try.results12, go_sem]) rfl ⟨rfl, rfl⟩
theorem new_no (b : Int) (w : World) (h : ¬ (1 ≤ b ∧ b ≤ 32767)) :
    Calls Try.prog 12 #[.int .i64 b] w fun e w' => e = .returned (.tuple #[.pointer none, .int .i64 1]) ∧ w = w' := by
  have cB := fun w => within_no b 32767 w h
  clear h
  go_enter Try.func12, Try.ntmps12
  go_wp2_with fail
  go_at_call 17
  refine (cB _).mono ?_
  rintro e w' ⟨rfl, rfl⟩
  go_wp2
  exact bodyPost_ret (v := .tuple #[.pointer none, .int .i64 1]) (by simp [results, Try.results12, go_sem]) rfl ⟨rfl, rfl⟩
theorem rnew_yes (b : Int) (w : World) (h1 : 1 ≤ b) (h2 : b ≤ 32767) :
    Calls Try.prog 13 #[.int .i64 b] w fun e w' => e = .returned (.tuple #[.pointer (some ⟨w.heap.size, 0, none⟩), .int .i64 0]) ∧ Below w.heap.size w w' := by
  go_enter Try.func13, Try.ntmps13
  go_wp2
  exact bodyPost_ret (v := .tuple #[.pointer (some ⟨w.heap.size, 0, none⟩), .int .i64 0]) (by simp [results, Try.results13, go_sem]) rfl ⟨rfl, (Below.refl _ _).alloc (Nat.le_refl _) _⟩
theorem rnew_no (b : Int) (w : World) (h : ¬ (1 ≤ b ∧ b ≤ 32767)) :
    Calls Try.prog 13 #[.int .i64 b] w fun e w' => e = .returned (.tuple #[.pointer none, .int .i64 1]) ∧ Below w.heap.size w w' := by
  by_cases hb : b < 1
  · clear h
    go_enter Try.func13, Try.ntmps13
    go_wp2
    exact bodyPost_ret (v := .tuple #[.pointer none, .int .i64 1]) (by simp [results, Try.results13, go_sem]) rfl ⟨rfl, Below.refl _ _⟩
  · have hc : 32767 < b := by omega
    have hb' : decide (b < 1) = false := by simp; omega
    clear h hb
    go_enter Try.func13, Try.ntmps13
    go_wp2
    exact bodyPost_ret (v := .tuple #[.pointer none, .int .i64 1]) (by simp [results, Try.results13, go_sem]) rfl ⟨rfl, Below.refl _ _⟩

theorem boot_any (p : Nat) (b g : Int) (w : World) (h : Ck w p b g) :
    Calls Try.prog 16 #[.pointer (some ⟨p, 0, none⟩)] w fun e w' => e = .returned (.int .i64 b) ∧ w = w' := by
  have c0 := h.boot
  clear h
  go_enter Try.func16, Try.ntmps16
  go_wp2
  go_ret
  exact ⟨rfl, rfl⟩
theorem last_yes (p : Nat) (b g : Int) (w : World) (h : Ck w p b g) (h1 : 1 ≤ b) (h2 : b ≤ 32767) (h3 : 1 ≤ g) (h4 : g ≤ 65535) :
    Calls Try.prog 15 #[.pointer (some ⟨p, 0, none⟩)] w fun e w' => e = .returned (.int .i64 (b * 65536 + g)) ∧ ∃ n, w' = w.drewN n := by
  have c0 := h.boot
  have c1 := h.given
  have cJ := fun w => join_yes b g w h1 h2 h3 h4
  clear h
  go_enter Try.func15, Try.ntmps15
  go_upto_region 3 with fail
  go_quiet ((go_at_call 8; refine (cJ _).mono ?_; rintro e w9 ⟨rfl, rfl⟩; exact ⟨rfl, _, rfl⟩))
  go_wp2
  go_ret
  exact ⟨rfl, _, rfl⟩
theorem last_no (p : Nat) (b : Int) (w : World) (h : Ck w p b 0) :
    Calls Try.prog 15 #[.pointer (some ⟨p, 0, none⟩)] w fun e w' => e = .returned (.int .i64 0) ∧ ∃ n, w' = w.drewN n := by
  have c0 := h.boot
  have c1 := h.given
  have cJ := fun w => join_no b 0 w (by omega)
  clear h
  go_enter Try.func15, Try.ntmps15
  go_upto_region 3 with fail
  go_quiet ((go_at_call 8; refine (cJ _).mono ?_; rintro e w9 ⟨rfl, rfl⟩; exact ⟨rfl, _, rfl⟩))
  go_wp2
  go_ret
  exact ⟨rfl, _, rfl⟩
theorem next_yes (p : Nat) (b g : Int) (w : World) (h : Ck w p b g) (h1 : 1 ≤ b) (h2 : b ≤ 32767) (h3 : 0 ≤ g) (h4 : g < 65535) :
    Calls Try.prog 14 #[.pointer (some ⟨p, 0, none⟩)] w fun e w' => e = .returned (.tuple #[.int .i64 (b * 65536 + (g + 1)), .bool true]) ∧ ∃ n, w' = (w.drewN n).setCell ⟨p, 1, none⟩ (.int .i64 (g + 1)) := by
  have c0 := h.boot
  have c1 := h.given
  have f1 := h.soft 1
  have cJ := fun w => join_yes b (g + 1) w h1 h2 (by omega) (by omega)
  clear h
  obtain ⟨g', hg⟩ : ∃ g', g + 1 = g' := ⟨_, rfl⟩
  rw [hg] at cJ ⊢
  go_enter Try.func14, Try.ntmps14
  go_upto_region 3 with fail
  go_quiet ((go_at_call 8; refine (cJ _).mono ?_; rintro e w9 ⟨rfl, rfl⟩; exact ⟨rfl, _, rfl⟩))
  go_wp2
  exact bodyPost_ret (v := .tuple #[.int .i64 (b * 65536 + g'), .bool true]) (by simp [results, Try.results14, go_sem]) rfl ⟨rfl, _, rfl⟩
theorem next_no (p : Nat) (b : Int) (w : World) (h : Ck w p b 65535) :
    Calls Try.prog 14 #[.pointer (some ⟨p, 0, none⟩)] w fun e w' => e = .returned (.tuple #[.int .i64 0, .bool false]) ∧ ∃ n, w' = w.drewN n := by
  have c0 := h.boot
  have c1 := h.given
  have cJ := fun w => join_no b 65536 w (by omega)
  clear h
  go_enter Try.func14, Try.ntmps14
  go_upto_region 3 with fail
  go_quiet ((go_at_call 8; refine (cJ _).mono ?_; rintro e w9 ⟨rfl, rfl⟩; exact ⟨rfl, _, rfl⟩))
  go_wp2
  exact bodyPost_ret (v := .tuple #[.int .i64 0, .bool false]) (by simp [results, Try.results14, go_sem]) rfl ⟨rfl, _, rfl⟩
end Go.Proofs.Ytmkimkffglidhaa
