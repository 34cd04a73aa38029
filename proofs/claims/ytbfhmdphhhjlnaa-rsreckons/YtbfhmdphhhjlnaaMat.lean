/-
  Rows of rows in memory, and what isSide, isMatrix, Square, Small and the two Sames do with them: they read, and answer.
-/
import Derived.Test.YtbfhmdphhhjlnaaMulAdd
import Derived.Test.YtbfhmdphhhjlnaaRef
import Derived.Test.YtbfhmdphhhjlnaaStr
import Derived.Test.YtbfhmdphhhjlnaaLin
import Derived.Deep.DrawnRows
namespace Go.Proofs.Ytbfhmdphhhjlnaa
open Go.RowKit Gf
attribute [local go_sem ↓] Go.wp_at_zero Go.wp_at_succ

/-- A slice that begins at a holds in w n rows: row i begins at A i, is L i long, and holds F i 0, F i 1 .. -/
structure Mat (w : World) (a : Option Addr) (n : Nat) (A : Nat → Option Addr) (L C : Nat → Nat) (F : Nat → Nat → Nat) : Prop where
  lies : 0 < n → ∃ b o, a = some ⟨b, o, none⟩ ∧ ∀ i, i < n → w.cell? ⟨b, o + i, none⟩ = some (.slice (A i) (L i) (C i))
  row : ∀ i, i < n → Row w (A i) (L i) (F i)
  nil : ∀ i, i < n → A i = none → L i = 0 ∧ C i = 0
  le : ∀ i, L i ≤ 9223372036854775807
  lt : B F

theorem Mat.keep {w w' : World} {a : Option Addr} {n : Nat} {A : Nat → Option Addr} {L C : Nat → Nat} {F : Nat → Nat → Nat} (h : Mat w a n A L C F) (hb : Below w.heap.size w w') : Mat w' a n A L C F := by
  refine ⟨fun hn => ?_, fun i hi => (h.row i hi).keep hb, h.nil, h.le, h.lt⟩
  obtain ⟨b, o, e, hc⟩ := h.lies hn
  exact ⟨b, o, e, fun i hi => (hb.cell (p := ⟨b, o + i, none⟩) (block_lt_of_cell (hc i hi))).trans (hc i hi)⟩
theorem Row.drewN {w : World} {a : Option Addr} {n : Nat} {f : Nat → Nat} (h : Row w a n f) (k : Nat) : Row (w.drewN k) a n f := ⟨h.lt, h.lies⟩
theorem Mat.drewN {w : World} {a : Option Addr} {n : Nat} {A : Nat → Option Addr} {L C : Nat → Nat} {F : Nat → Nat → Nat} (h : Mat w a n A L C F) (k : Nat) : Mat (w.drewN k) a n A L C F :=
  ⟨h.lies, fun i hi => (h.row i hi).drewN k, h.nil, h.le, h.lt⟩

/-- Rows of one length, 1 to 255 of each. -/
def IsM (n : Nat) (L : Nat → Nat) : Prop := 1 ≤ n ∧ n ≤ 255 ∧ 1 ≤ L 0 ∧ L 0 ≤ 255 ∧ ∀ i, i < n → L i = L 0

set_option maxRecDepth 100000 in
theorem isSide_any (n : Int) (w : World) :
    Calls Try.prog 64 #[.int .i64 n] w fun e w' => e = .returned (.bool (decide (1 ≤ n ∧ n ≤ 255))) ∧ w = w' := by
  by_cases h1 : n < 1
  · have e : decide (1 ≤ n ∧ n ≤ 255) = false := decide_eq_false (by omega)
    rw [e]; clear e
    go_enter Try.func64, Try.ntmps64
    go_wp2
    go_ret
    exact ⟨rfl, rfl⟩
  · by_cases h2 : n ≤ 255
    · have e : decide (1 ≤ n ∧ n ≤ 255) = true := decide_eq_true (by omega)
      rw [e]; clear e
      go_enter Try.func64, Try.ntmps64
      go_wp2
      go_ret
      exact ⟨rfl, rfl⟩
    · have e : decide (1 ≤ n ∧ n ≤ 255) = false := decide_eq_false (by omega)
      rw [e]; clear e
      go_enter Try.func64, Try.ntmps64
      go_wp2
      go_ret
      exact ⟨rfl, rfl⟩

set_option maxRecDepth 100000 in
theorem isMatrix_yes (a : Option Addr) (n c : Nat) (A : Nat → Option Addr) (L C : Nat → Nat) (F : Nat → Nat → Nat) (w : World) (h : Mat w a n A L C F) (hm : IsM n L) :
    Calls Try.prog 60 #[.slice a n c] w fun e w' => e = .returned (.bool true) ∧ w = w' := by
  obtain ⟨n1, n2, l1, l2, hl⟩ := hm
  obtain ⟨b, o, rfl, hc⟩ := h.lies (by omega)
  have c0 := hc 0 (by omega)
  simp only [Nat.add_zero] at c0
  have s1 := isSide_any n w
  rw [decide_eq_true (by omega)] at s1
  have s2 := isSide_any (L 0) w
  rw [decide_eq_true (by omega)] at s2
  have i0 : (0 : Int) < (n : Int) := by omega
  obtain ⟨l, hl0⟩ : ∃ l, L 0 = l := ⟨_, rfl⟩
  obtain ⟨c1, hc1⟩ : ∃ l, C 0 = l := ⟨_, rfl⟩
  obtain ⟨a1, ha1⟩ : ∃ l, A 0 = l := ⟨_, rfl⟩
  rw [hl0] at s2
  rw [hl0, hc1, ha1] at c0
  have HC : Hid (∀ i, i < n → w.cell? ⟨b, o + i, none⟩ = some (.slice (A i) l (C i))) := fun i hi => by rw [hc i hi, hl i hi, hl0]
  clear hc hl hl0 hc1 ha1 h
  go_enter Try.func60, Try.ntmps60
  go_wp2_with fail
  go_at_call 64
  refine s1.mono ?_
  rintro e w' ⟨rfl, rfl⟩
  go_wp2_with fail
  go_at_call 64
  refine s2.mono ?_
  rintro e w' ⟨rfl, rfl⟩
  go_wp2
  go_loop [19] (fun v => ∃ k : Nat, k ≤ n ∧ v = .int .i64 k) (fun v => n - (intOf v).toNat)
  case atStart => exact ⟨0, by omega, rfl⟩
  case round =>
    obtain ⟨k, hk, rfl⟩ := hrel
    by_cases hlt : k < n
    · have ck := HC.out k hlt
      have ik : (k : Int) < (n : Int) := by omega
      generalize A k = ak at ck
      generalize C k = cck at ck
      go_wp2
      go_round
      case rel => exact ⟨k + 1, by omega, by go_num⟩
      case measure => simp [intOf]; omega
    · have : k = n := by omega
      subst this
      go_wp2
      go_ret
      exact ⟨rfl, rfl⟩

set_option maxRecDepth 100000 in
theorem isMatrix_no (a : Option Addr) (n c : Nat) (A : Nat → Option Addr) (L C : Nat → Nat) (F : Nat → Nat → Nat) (w : World) (h : Mat w a n A L C F) (hn : n ≤ maxLen) (hm : ¬ IsM n L) :
    Calls Try.prog 60 #[.slice a n c] w fun e w' => e = .returned (.bool false) ∧ w = w' := by
  unfold maxLen at hn
  have s1 := isSide_any n w
  have s2 := isSide_any (L 0) w
  by_cases hs1 : 1 ≤ n ∧ n ≤ 255
  · obtain ⟨n1, n2⟩ := hs1
    obtain ⟨b, o, rfl, hc⟩ := h.lies (by omega)
    have c0 := hc 0 (by omega)
    simp only [Nat.add_zero] at c0
    rw [decide_eq_true (by omega)] at s1
    have i0 : (0 : Int) < (n : Int) := by omega
    have hle := h.le
    by_cases hs2 : 1 ≤ L 0 ∧ L 0 ≤ 255
    · rw [decide_eq_true (by omega)] at s2
      have HN : Hid (¬ ∀ i, i < n → L i = L 0) := fun q => hm ⟨n1, n2, hs2.1, hs2.2, q⟩
      obtain ⟨l, hl0⟩ : ∃ l, L 0 = l := ⟨_, rfl⟩
      obtain ⟨c1, hc1⟩ : ∃ l, C 0 = l := ⟨_, rfl⟩
      obtain ⟨a1, ha1⟩ : ∃ l, A 0 = l := ⟨_, rfl⟩
      rw [hl0] at s2 HN
      rw [hl0, hc1, ha1] at c0
      have HC : Hid (∀ i, i < n → w.cell? ⟨b, o + i, none⟩ = some (.slice (A i) (L i) (C i))) := hc
      have HL : Hid (∀ i, L i ≤ 9223372036854775807) := hle
      clear hc hl0 hc1 ha1 h hm hs2 hle
      go_enter Try.func60, Try.ntmps60
      go_wp2_with fail
      go_at_call 64
      refine s1.mono ?_
      rintro e w' ⟨rfl, rfl⟩
      go_wp2_with fail
      go_at_call 64
      refine s2.mono ?_
      rintro e w' ⟨rfl, rfl⟩
      go_wp2
      go_loop [19] (fun v => ∃ k : Nat, k ≤ n ∧ v = .int .i64 k ∧ ∀ i, i < k → L i = l) (fun v => n - (intOf v).toNat)
      case atStart => exact ⟨0, by omega, rfl, fun i hi => by omega⟩
      case round =>
        obtain ⟨k, hk, rfl, hsame⟩ := hrel
        by_cases hlt : k < n
        · have ck := HC.out k hlt
          have lk := HL.out k
          have ik : (k : Int) < (n : Int) := by omega
          by_cases he : L k = l
          · have HS : Hid (∀ i, i < k + 1 → L i = l) := fun i hi => by
              by_cases e : i = k
              · rw [e]; exact he
              · exact hsame i (by omega)
            rw [he] at ck
            clear hsame he lk
            generalize A k = ak at ck
            generalize C k = cck at ck
            go_wp2
            go_round
            case rel => exact ⟨k + 1, by omega, by go_num, HS.out⟩
            case measure => simp [intOf]; omega
          · have he' : ((L k : Nat) : Int) ≠ (l : Int) := by omega
            clear hsame
            generalize A k = ak at ck
            generalize C k = cck at ck
            generalize L k = lk' at *
            go_wp2
            go_ret
            exact ⟨rfl, rfl⟩
        · have : k = n := by omega
          subst this
          exact absurd hsame HN.out
    · rw [decide_eq_false (by omega)] at s2
      obtain ⟨l, hl0⟩ : ∃ l, L 0 = l := ⟨_, rfl⟩
      obtain ⟨c1, hc1⟩ : ∃ l, C 0 = l := ⟨_, rfl⟩
      obtain ⟨a1, ha1⟩ : ∃ l, A 0 = l := ⟨_, rfl⟩
      rw [hl0] at s2
      rw [hl0, hc1, ha1] at c0
      clear hc hl0 hc1 ha1 h hm hs2 hle
      go_enter Try.func60, Try.ntmps60
      go_wp2_with fail
      go_at_call 64
      refine s1.mono ?_
      rintro e w' ⟨rfl, rfl⟩
      go_wp2_with fail
      go_at_call 64
      refine s2.mono ?_
      rintro e w' ⟨rfl, rfl⟩
      go_wp2
      go_ret
      exact ⟨rfl, rfl⟩
  · rw [decide_eq_false (by omega)] at s1
    clear s2 hs1 hm h
    go_enter Try.func60, Try.ntmps60
    go_wp2_with fail
    go_at_call 64
    refine s1.mono ?_
    rintro e w' ⟨rfl, rfl⟩
    go_wp2
    go_ret
    exact ⟨rfl, rfl⟩

set_option maxRecDepth 100000 in
theorem square_yes (a : Option Addr) (n c : Nat) (A : Nat → Option Addr) (L C : Nat → Nat) (F : Nat → Nat → Nat) (w : World) (h : Mat w a n A L C F) (hm : IsM n L) (hq : n = L 0) :
    Calls Try.prog 55 #[.slice a n c] w fun e w' => e = .returned (.bool true) ∧ w = w' := by
  have cM := isMatrix_yes a n c A L C F w h hm
  obtain ⟨n1, n2, l1, l2, hl⟩ := hm
  obtain ⟨b, o, rfl, hc⟩ := h.lies (by omega)
  have c0 := hc 0 (by omega)
  simp only [Nat.add_zero] at c0
  rw [← hq] at c0
  have i0 : (0 : Int) < (n : Int) := by omega
  generalize A 0 = a1 at c0
  generalize C 0 = c1 at c0
  clear hc hl hq h l1 l2
  go_enter Try.func55, Try.ntmps55
  go_wp2_with fail
  go_at_call 60
  refine cM.mono ?_
  rintro e w' ⟨rfl, rfl⟩
  go_wp2
  go_ret
  exact ⟨rfl, rfl⟩

set_option maxRecDepth 100000 in
theorem square_no (a : Option Addr) (n c : Nat) (A : Nat → Option Addr) (L C : Nat → Nat) (F : Nat → Nat → Nat) (w : World) (h : Mat w a n A L C F) (hn : n ≤ maxLen) (hm : ¬ (IsM n L ∧ n = L 0)) :
    Calls Try.prog 55 #[.slice a n c] w fun e w' => e = .returned (.bool false) ∧ w = w' := by
  by_cases hq : IsM n L
  · have cM := isMatrix_yes a n c A L C F w h hq
    have hne : ¬ n = L 0 := fun q => hm ⟨hq, q⟩
    obtain ⟨n1, n2, l1, l2, hl⟩ := hq
    obtain ⟨b, o, rfl, hc⟩ := h.lies (by omega)
    have c0 := hc 0 (by omega)
    simp only [Nat.add_zero] at c0
    have i0 : (0 : Int) < (n : Int) := by omega
    have hne' : (((n : Nat) : Int) == (L 0 : Nat)) = false := by simp; omega
    clear hl
    generalize A 0 = a1 at c0
    generalize C 0 = c1 at c0
    generalize L 0 = l at *
    clear hc h hm hne
    go_enter Try.func55, Try.ntmps55
    go_wp2_with fail
    go_at_call 60
    refine cM.mono ?_
    rintro e w' ⟨rfl, rfl⟩
    go_wp2
    go_ret
    exact ⟨rfl, rfl⟩
  · have cM := isMatrix_no a n c A L C F w h hn hq
    clear h hm hq
    go_enter Try.func55, Try.ntmps55
    go_wp2_with fail
    go_at_call 60
    refine cM.mono ?_
    rintro e w' ⟨rfl, rfl⟩
    go_wp2
    go_ret
    exact ⟨rfl, rfl⟩

/-- What two rows of rows have in common, if both are the same. -/
def Alike (n : Nat) (L L' : Nat → Nat) (F F' : Nat → Nat → Nat) : Prop := ∀ i, i < n → L i = L' i ∧ ∀ j, j < L i → F i j = F' i j

set_option maxRecDepth 100000 in
theorem rsame_yes (a a' : Option Addr) (n c c' : Nat) (A A' : Nat → Option Addr) (L L' C C' : Nat → Nat) (F F' : Nat → Nat → Nat) (w : World) (h : Mat w a n A L C F) (h' : Mat w a' n A' L' C' F') (hn : n ≤ maxLen) (hq : Alike n L L' F F') :
    Calls Try.prog 19 #[.slice a n c, .slice a' n c'] w fun e w' => e = .returned (.bool true) ∧ ∃ m, w' = w.drewN m := by
  unfold maxLen at hn
  have H : Hid (Mat w a n A L C F) := h
  have H' : Hid (Mat w a' n A' L' C' F') := h'
  have HQ : Hid (Alike n L L' F F') := hq
  clear h h' hq
  go_enter Try.func19, Try.ntmps19
  go_wp2
  go_loopw [5] (fun v wr => ∃ k m : Nat, k ≤ n ∧ v = .int .i64 k ∧ wr = w.drewN m) (fun v _ => n - (intOf v).toNat)
  case atStart => exact ⟨0, 0, by omega, rfl, rfl⟩
  case round =>
    obtain ⟨k, m, hk, rfl, rfl⟩ := hrel
    by_cases hlt : k < n
    · obtain ⟨b, o, rfl, hc⟩ := H.out.lies (by omega)
      obtain ⟨b', o', rfl, hc'⟩ := H'.out.lies (by omega)
      have ck := hc k hlt
      have ck' := hc' k hlt
      have ik : (k : Int) < (n : Int) := by omega
      have q1 := fun w0 hw => conv_row (c := C k) (w := w0) ⟨(H.out.row k hlt).lt, hw⟩ fun e => (H.out.nil k hlt e).1
      have q2 := fun w0 hw => conv_row (c := C' k) (w := w0) ⟨(H'.out.row k hlt).lt, hw⟩ fun e => (H'.out.nil k hlt e).1
      have e := HQ.out k hlt
      have q1 := fun m => q1 (w.drewN m) ((H.out.row k hlt).drewN m).lies
      have q2 := fun m => q2 (w.drewN m) ((H'.out.row k hlt).drewN m).lies
      rw [← e.1, ← str_congr e.2] at q2
      rw [← e.1] at ck'
      clear hc hc' e H H' HQ
      generalize A k = ak at *
      generalize C k = cck at *
      generalize A' k = ak' at *
      generalize C' k = cck' at *
      generalize str (F k) (L k) = t at *
      generalize L k = lk at *
      go_wp2
      go_quiet (fail)
      go_wp2
      go_round
      case rel => exact ⟨k + 1, _, by omega, by go_num, rfl⟩
      case measure => simp [intOf]; omega
    · have : k = n := by omega
      subst this
      go_wp2
      go_ret
      exact ⟨rfl, _, rfl⟩
end Go.Proofs.Ytbfhmdphhhjlnaa
