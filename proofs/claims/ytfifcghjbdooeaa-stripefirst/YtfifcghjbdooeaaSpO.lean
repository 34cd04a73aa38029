/-
  A pair of bytes, three numbers, as they come in; Split and Join, the program's and the document's, in one sentence each; rows compared.
-/
import Derived.Test.YtfifcghjbdooeaaSpG
import Derived.ChangeSame
set_option maxRecDepth 100000
set_option linter.unusedVariables false
namespace Go.Proofs.Ytfifcghjbdooeaa
open Go.RowKit Go.ChangeShapes Go.WideShapes

theorem cells34 : Try.prog.cellsOf 34 = 2 := by kernel_rfl
theorem cells23 : Try.prog.cellsOf 23 = 3 := by kernel_rfl
theorem cells3 : Try.prog.cellsOf 3 = 1 := by kernel_rfl
theorem bounds_i64 {n : Int} (h : (Lit.int .i64 n).wf = true) : -9223372036854775808 ≤ n ∧ n ≤ 9223372036854775807 := by
  simpa [Lit.wf, IntKind.min, IntKind.max, IntKind.signed, IntKind.bits] using h
theorem open_pair8 {H : Type} {enc : TypeId × Value → H} {W : World} {r : Reach} {b0 base : Nat} {sp : Nat → Bool} {held : Bool} {v : Value} {d : DataW H} {p : List MemPlace} (hv : Value.okWide Try.prog W r b0 34 v) (h : DataW.Trod enc Try.prog W base sp held 34 v d p) :
    ∃ x y : Nat, x < 256 ∧ y < 256 ∧ v = .agg #[.int .u8 (x : Int), .int .u8 (y : Int)] := by
  simp only [Value.okWide, Try.underlying34] at hv
  obtain ⟨cs, rfl, hsz, _⟩ := hv
  rw [cells34] at hsz
  obtain ⟨l⟩ := cs
  match l, hsz with
  | [e0, e1], _ =>
    obtain ⟨fuel, hf⟩ := h
    obtain ⟨xs, m, _, _, _, hlen, hel⟩ := DataW.trod_array Try.underlying34 hf
    have t0 := hel 0 (by omega)
    have t1 := hel 1 (by omega)
    rw [cells5] at t0 t1
    match xs, hlen with
    | [x0, x1], _ =>
      simp [Value.cells] at t0 t1
      obtain ⟨a, ea, _, wa⟩ := DataW.trod_int Try.underlying5 t0
      obtain ⟨b, eb, _, wb⟩ := DataW.trod_int Try.underlying5 t1
      simp at ea eb
      subst ea eb
      have ba := bounds_u8 wa
      have bb := bounds_u8 wb
      exact ⟨a.toNat, b.toNat, by omega, by omega, by rw [Int.toNat_of_nonneg ba.1, Int.toNat_of_nonneg bb.1]⟩
theorem open_trip {H : Type} {enc : TypeId × Value → H} {W : World} {r : Reach} {b0 base : Nat} {sp : Nat → Bool} {held : Bool} {v : Value} {d : DataW H} {p : List MemPlace} (hv : Value.okWide Try.prog W r b0 23 v) (h : DataW.Trod enc Try.prog W base sp held 23 v d p) :
    ∃ x y z : Int, ((-9223372036854775808 ≤ x ∧ x ≤ 9223372036854775807) ∧ (-9223372036854775808 ≤ y ∧ y ≤ 9223372036854775807) ∧ (-9223372036854775808 ≤ z ∧ z ≤ 9223372036854775807)) ∧ v = .agg #[.int .i64 x, .int .i64 y, .int .i64 z] := by
  simp only [Value.okWide, Try.underlying23] at hv
  obtain ⟨cs, rfl, hsz, _⟩ := hv
  rw [cells23] at hsz
  obtain ⟨l⟩ := cs
  match l, hsz with
  | [e0, e1, e2], _ =>
    obtain ⟨fuel, hf⟩ := h
    obtain ⟨xs, m, _, _, _, hlen, hel⟩ := DataW.trod_array Try.underlying23 hf
    have t0 := hel 0 (by omega)
    have t1 := hel 1 (by omega)
    have t2 := hel 2 (by omega)
    rw [cells3] at t0 t1 t2
    match xs, hlen with
    | [x0, x1, x2], _ =>
      simp [Value.cells] at t0 t1 t2
      obtain ⟨a, ea, _, wa⟩ := DataW.trod_int Try.underlying3 t0
      obtain ⟨b, eb, _, wb⟩ := DataW.trod_int Try.underlying3 t1
      obtain ⟨c, ec, _, wc⟩ := DataW.trod_int Try.underlying3 t2
      simp at ea eb ec
      subst ea eb ec
      exact ⟨a, b, c, ⟨bounds_i64 wa, bounds_i64 wb, bounds_i64 wc⟩, rfl⟩

/-- Numbers that may be are natural ones. -/
theorem MayN.nats {n k B : Int} (h : MayN n k B) : ∃ n' k' B' : Nat, n = n' ∧ k = k' ∧ B = B' := by
  obtain ⟨h1, _, h3, _, h5, _⟩ := h
  exact ⟨n.toNat, k.toNat, B.toNat, by omega, by omega, by omega⟩

/-- How many rows Split answers, how long, and what stands in them. -/
def sN (n : Nat) (k B : Int) : Nat := if MayN n k B then k.toNat else 0
def sL (n : Nat) (k B : Int) : Nat := if MayN n k B then ln n k.toNat B.toNat else 0
theorem sN_le (n : Nat) (k B : Int) : sN n k B ≤ 255 := by
  unfold sN
  split
  · rename_i h
    unfold MayN at h; omega
  · omega
theorem sL_le (n : Nat) (k B : Int) : sL n k B ≤ 65536 := by
  unfold sL
  split
  · rename_i h
    have := ln_le n (k := k.toNat) (B := B.toNat) (by unfold MayN at h; omega) (by unfold MayN at h; omega)
    unfold MayN at h; omega
  · omega

theorem Mat.none (w : World) (l : Nat) (hl : l ≤ 9223372036854775807) {F : Nat → Nat → Nat} (hF : B F) : Mat w .none 0 (fun _ => .none) (fun _ => l) (fun _ => 0) F :=
  ⟨fun h => absurd h (by omega), fun i hi => absurd hi (by omega), fun i hi => absurd hi (by omega), fun _ => hl, hF⟩

theorem split_any (a : Option Addr) (n c : Nat) (k B : Int) (f : Nat → Nat) (w : World) (hr : Row w a n f) (hz : a = none → n = 0) (hc : n ≤ c) (hn : n ≤ maxLen) :
    Calls Try.prog 9 #[.slice a n c, .int .i64 k, .int .i64 B] w fun e w' => ∃ a' c' A C, e = .returned (.tuple #[.slice a' (sN n k B) c', .bool (decide (MayN n k B))]) ∧ Mat w' a' (sN n k B) A (fun _ => sL n k B) C (spq f n k.toNat B.toNat n) ∧ Below w.heap.size w w' := by
  have hF : Ytfifcghjbdooeaa.B (spq f n k.toNat B.toNat n) := fun _ _ => spq_lt hr.lt _ _ _ _ _ _
  have hl := sL_le n k B
  by_cases h : MayN n k B
  · obtain ⟨n', k', B', hn', rfl, rfl⟩ := h.nats
    have e1 : sN n k' B' = k' := by unfold sN; rw [if_pos h]; omega
    have e2 : sL n k' B' = ln n k' B' := by unfold sL; rw [if_pos h]; simp
    rw [e1, e2, decide_eq_true h]
    rw [e2] at hl
    refine (split_yes a n c k' B' f w hr hz hc h).mono ?_
    rintro e w' ⟨g, rfl, _, hg, hb⟩
    exact ⟨_, _, _, _, rfl, hg.mat (by omega) hF, hb⟩
  · have e1 : sN n k B = 0 := by unfold sN; rw [if_neg h]
    rw [e1, decide_eq_false h]
    refine (split_no a n c k B w hn h).mono ?_
    rintro e w' ⟨rfl, rfl⟩
    exact ⟨none, 0, fun _ => none, fun _ => 0, rfl, Mat.none _ _ (by omega) hF, Below.refl _ _⟩
theorem rsplit_any (a : Option Addr) (n c : Nat) (k B : Int) (f : Nat → Nat) (w : World) (hr : Row w a n f) (hc : n ≤ c) (hn : n ≤ maxLen) :
    Calls Try.prog 10 #[.slice a n c, .int .i64 k, .int .i64 B] w fun e w' => ∃ a' c' A C, e = .returned (.tuple #[.slice a' (sN n k B) c', .bool (decide (MayN n k B))]) ∧ Mat w' a' (sN n k B) A (fun _ => sL n k B) C (spq f n k.toNat B.toNat n) ∧ Below w.heap.size w w' := by
  have hF : Ytfifcghjbdooeaa.B (spq f n k.toNat B.toNat n) := fun _ _ => spq_lt hr.lt _ _ _ _ _ _
  have hl := sL_le n k B
  by_cases h : MayN n k B
  · obtain ⟨n', k', B', hn', rfl, rfl⟩ := h.nats
    have e1 : sN n k' B' = k' := by unfold sN; rw [if_pos h]; omega
    have e2 : sL n k' B' = ln n k' B' := by unfold sL; rw [if_pos h]; simp
    rw [e1, e2, decide_eq_true h]
    rw [e2] at hl
    refine (rsplit_yes a n c k' B' f w hr hc h).mono ?_
    rintro e w' ⟨A, C, rfl, hg, hb⟩
    exact ⟨_, _, _, _, rfl, hg.mat (fun _ => by omega) hF, hb⟩
  · have e1 : sN n k B = 0 := by unfold sN; rw [if_neg h]
    rw [e1, decide_eq_false h]
    refine (rsplit_no a n c k B w hn h).mono ?_
    rintro e w' ⟨rfl, rfl⟩
    exact ⟨none, 0, fun _ => none, fun _ => 0, rfl, Mat.none _ _ (by omega) hF, Below.refl _ _⟩

/-- What Join joins. -/
def JMay (n : Int) (k : Nat) (B : Int) (L : Nat → Nat) : Prop := MayN n k B ∧ ∀ i, i < k → L i = ln n.toNat k B.toNat
instance (n : Int) (k : Nat) (B : Int) (L : Nat → Nat) : Decidable (JMay n k B L) := by unfold JMay; infer_instance
def jOk (n : Int) (k : Nat) (B : Int) (L : Nat → Nat) : Bool := decide (JMay n k B L)
def jN (n : Int) (k : Nat) (B : Int) (L : Nat → Nat) : Nat := if jOk n k B L = true then n.toNat else 0
theorem jN_le (n : Int) (k : Nat) (B : Int) (L : Nat → Nat) : jN n k B L ≤ 65536 := by
  unfold jN jOk
  split
  · rename_i h
    have := (of_decide_eq_true h).1
    unfold MayN at this; omega
  · omega

theorem join_any (a : Option Addr) (k c : Nat) (n B : Int) (A : Nat → Option Addr) (L C : Nat → Nat) (F : Nat → Nat → Nat) (w : World) (hm : Mat w a k A L C F) (hlc : ∀ i, i < k → L i ≤ C i) (hk : k ≤ maxLen) :
    Calls Try.prog 11 #[.slice a k c, .int .i64 n, .int .i64 B] w fun e w' => ∃ a' c', e = .returned (.tuple #[.slice a' (jN n k B L) c', .bool (jOk n k B L)]) ∧ Row w' a' (jN n k B L) (jn F n.toNat k B.toNat) ∧ (a' = none → jN n k B L = 0) ∧ Below w.heap.size w w' := by
  have hF : ∀ i, jn F n.toNat k B.toNat i < 256 := fun i => jn_lt hm.lt _ _ _ _
  by_cases h : MayN n k B
  · obtain ⟨n', _, B', rfl, _, rfl⟩ := h.nats
    by_cases hl : ∀ i, i < k → L i = ln n' k B'
    · have e0 : jOk n' k B' L = true := decide_eq_true ⟨h, by simpa using hl⟩
      have e1 : jN n' k B' L = n' := by unfold jN; rw [if_pos e0]; omega
      rw [e0, e1]
      refine (join_yes a n' k c B' A L C F w hm h hl hlc).mono ?_
      rintro e w' ⟨rfl, m, hb⟩
      exact ⟨_, _, rfl, m.row hF, fun e => (by cases e), hb⟩
    · have e0 : jOk n' k B' L = false := decide_eq_false fun q => hl (by simpa using q.2)
      have e1 : jN n' k B' L = 0 := by unfold jN; rw [if_neg (by rw [e0]; simp)]
      rw [e0, e1]
      refine (join_no2 a n' k c B' A L C F w hm h hl).mono ?_
      rintro e w' ⟨rfl, m, rfl⟩
      exact ⟨none, 0, rfl, Row.zero _ _ hF, fun _ => rfl, bdn _ _⟩
  · have e0 : jOk n k B L = false := decide_eq_false fun q => h q.1
    have e1 : jN n k B L = 0 := by unfold jN; rw [if_neg (by rw [e0]; simp)]
    rw [e0, e1]
    refine (join_no1 a k c n B w hk h).mono ?_
    rintro e w' ⟨rfl, m, rfl⟩
    exact ⟨none, 0, rfl, Row.zero _ _ hF, fun _ => rfl, bdn _ _⟩
theorem rjoin_any (a : Option Addr) (k c : Nat) (n B : Int) (A : Nat → Option Addr) (L C : Nat → Nat) (F : Nat → Nat → Nat) (w : World) (hm : Mat w a k A L C F) (hlc : ∀ i, i < k → L i ≤ C i) (hk : k ≤ maxLen) :
    Calls Try.prog 12 #[.slice a k c, .int .i64 n, .int .i64 B] w fun e w' => ∃ a' c', e = .returned (.tuple #[.slice a' (jN n k B L) c', .bool (jOk n k B L)]) ∧ Row w' a' (jN n k B L) (jn F n.toNat k B.toNat) ∧ (a' = none → jN n k B L = 0) ∧ Below w.heap.size w w' := by
  have hF : ∀ i, jn F n.toNat k B.toNat i < 256 := fun i => jn_lt hm.lt _ _ _ _
  by_cases h : MayN n k B
  · obtain ⟨n', _, B', rfl, _, rfl⟩ := h.nats
    by_cases hl : ∀ i, i < k → L i = ln n' k B'
    · have e0 : jOk n' k B' L = true := decide_eq_true ⟨h, by simpa using hl⟩
      have e1 : jN n' k B' L = n' := by unfold jN; rw [if_pos e0]; omega
      rw [e0, e1]
      refine (rjoin_yes a n' k c B' A L C F w hm h hl hlc).mono ?_
      rintro e w' ⟨A', c', rfl, m, hz, hb⟩
      exact ⟨_, _, rfl, m, hz, hb⟩
    · have e0 : jOk n' k B' L = false := decide_eq_false fun q => hl (by simpa using q.2)
      have e1 : jN n' k B' L = 0 := by unfold jN; rw [if_neg (by rw [e0]; simp)]
      rw [e0, e1]
      refine (rjoin_no2 a n' k c B' A L C F w hm h hl).mono ?_
      rintro e w' ⟨rfl, m, rfl⟩
      exact ⟨none, 0, rfl, Row.zero _ _ hF, fun _ => rfl, bdn _ _⟩
  · have e0 : jOk n k B L = false := decide_eq_false fun q => h q.1
    have e1 : jN n k B L = 0 := by unfold jN; rw [if_neg (by rw [e0]; simp)]
    rw [e0, e1]
    refine (rjoin_no1 a k c n B w hk h).mono ?_
    rintro e w' ⟨rfl, m, rfl⟩
    exact ⟨none, 0, rfl, Row.zero _ _ hF, fun _ => rfl, bdn _ _⟩

/-- Length, in one sentence each. -/
def lenI (n k B : Int) : Nat := if MayN n k B then ln n.toNat k.toNat B.toNat else 0
theorem length_any (n k B : Int) (w : World) : Calls Try.prog 14 #[.int .i64 n, .int .i64 k, .int .i64 B] w fun e w' => e = .returned (.int .i64 (lenI n k B : Nat)) ∧ ∃ m, w' = w.drewN m := by
  by_cases h : MayN n k B
  · obtain ⟨n', k', B', rfl, rfl, rfl⟩ := h.nats
    have e2 : lenI n' k' B' = ln n' k' B' := by unfold lenI; rw [if_pos h]; simp
    rw [e2]
    exact length_yes n' k' B' w h
  · have e2 : lenI n k B = 0 := by unfold lenI; rw [if_neg h]
    rw [e2]
    exact length_no n k B w h
theorem rlength_any (n k B : Int) (w : World) : Calls Try.prog 15 #[.int .i64 n, .int .i64 k, .int .i64 B] w fun e w' => e = .returned (.int .i64 (lenI n k B : Nat)) ∧ w' = w := by
  by_cases h : MayN n k B
  · obtain ⟨n', k', B', rfl, rfl, rfl⟩ := h.nats
    have e2 : lenI n' k' B' = ln n' k' B' := by unfold lenI; rw [if_pos h]; simp
    rw [e2]
    exact (rlength_yes n' k' B' w h).mono fun _ _ q => ⟨q.1, q.2.symm⟩
  · have e2 : lenI n k B = 0 := by unfold lenI; rw [if_neg h]
    rw [e2]
    exact (rlength_no n k B w h).mono fun _ _ q => ⟨q.1, q.2.symm⟩
end Go.Proofs.Ytfifcghjbdooeaa
