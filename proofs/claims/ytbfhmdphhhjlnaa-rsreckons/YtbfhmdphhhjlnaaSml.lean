/-
  Rows of rows that came in as an argument, opened with what the form says of their size; and what Small does with them.
-/
import Derived.Test.YtbfhmdphhhjlnaaOpen2
import Derived.SizedLaws
namespace Go.Proofs.Ytbfhmdphhhjlnaa
open Go.RowKit Gf Go.ChangeShapes Go.WideShapes
attribute [local go_sem ↓] Go.wp_at_zero Go.wp_at_succ

theorem weightsAll_mem {H : Type} {P : Program} {e : TypeId} {d : DataW H} : ∀ {l : List (DataW H)}, d ∈ l → ∀ n ∈ d.weights P e, n ∈ DataW.weightsAll P e l
  | [], h, _, _ => by cases h
  | x :: r, h, n, hn => by
    simp only [DataW.weightsAll, List.mem_append]
    rcases List.mem_cons.1 h with q | q
    · subst q; exact .inl hn
    · exact .inr (weightsAll_mem q n hn)

theorem bytes5 : Try.prog.bytesOf 5 = 1 := by kernel_rfl

theorem open_mat2 {H : Type} {enc : TypeId × Value → H} {W : World} {base : Nat} {held : Bool} {a : Option Addr} {len cap : Nat} {d : DataW H} {p : List MemPlace} (h : DataW.Trod enc Try.prog W base (fun _ => true) held 27 (.slice a len cap) d p) (hz : ∀ x ∈ d.weights Try.prog 27, x ≤ reachBytes) :
    ∃ A L C F, Mat W a len A L C F ∧ len ≤ maxLen ∧ len ≤ cap ∧ ∀ i, i < len → L i ≤ 140737488355328 := by
  obtain ⟨fuel, hf⟩ := h
  rcases Deep.open_int_rows Try.underlying27 Try.underlying30 Try.underlying5 cells27 cells5 hf with ⟨hcs, _⟩ | ⟨x, l, c, A, L, C, Z, hcs, _, hl, hm, hd, hr⟩
  · simp [Value.cells] at hcs
    obtain ⟨rfl, rfl, rfl⟩ := hcs
    exact ⟨fun _ => none, fun _ => 0, fun _ => 0, fun _ _ => 0, ⟨fun h => absurd h (by omega), fun i hi => absurd hi (by omega), fun i hi => absurd hi (by omega), fun _ => by omega, fun _ _ => by omega⟩, by omega, by omega, fun i hi => absurd hi (by omega)⟩
  · simp [Value.cells] at hcs
    obtain ⟨rfl, rfl, rfl⟩ := hcs
    simp only [Prod.mk.injEq] at hd
    obtain ⟨hd, _⟩ := hd
    refine ⟨A, fun i => if i < len then L i else 0, C, fun i j => if i < len then ((Z i).getD j 0).toNat else 0, ⟨fun hn => ?_, fun i hi => ?_, fun i hi e => ?_, fun i => ?_, fun i j => ?_⟩, by omega, hl, fun i hi => ?_⟩
    · obtain ⟨b, o, rfl, hc⟩ := vals_at (V := fun i => .slice (A i) (L i) (C i)) (fun i hi => (hr i (by omega)).1) hn
      exact ⟨b, o, rfl, fun i hi => by rw [hc i hi, if_pos hi]⟩
    · obtain ⟨_, hlc, hcm, hz, hwf, hnil, hcell⟩ := hr i (by omega)
      rw [if_pos hi]
      have hb : ∀ j, 0 ≤ (Z i).getD j 0 ∧ (Z i).getD j 0 ≤ 255 := fun j => by
        have := range_u8 hwf j
        simpa [List.getD] using this
      refine ⟨fun j => by rw [if_pos hi]; have := hb j; omega, fun hn => ?_⟩
      cases hA : A i with
      | none => have := hnil hA; omega
      | some ad =>
        obtain ⟨b, o, rfl, hc⟩ := vals_at (V := fun j => .int .u8 ((Z i).getD j 0)) (fun j hj => (hcell ad hA).2 j (by omega)) hn
        refine ⟨b, o, rfl, fun j hj => ?_⟩
        rw [hc j hj, if_pos hi]
        have := hb j
        congr 2
        omega
    · obtain ⟨_, hlc, hcm, hz, hwf, hnil, hcell⟩ := hr i (by omega)
      rw [if_pos hi]
      have := hnil e
      omega
    · split
      · obtain ⟨_, hlc, hcm, _⟩ := hr i (by omega)
        unfold maxLen at *
        omega
      · omega
    · split
      · obtain ⟨_, hlc, hcm, hz, hwf, hnil, hcell⟩ := hr i (by omega)
        have := range_u8 hwf j
        have q : 0 ≤ (Z i).getD j 0 ∧ (Z i).getD j 0 ≤ 255 := by simpa [List.getD] using this
        omega
      · omega
    · dsimp only
      rw [if_pos hi]
      obtain ⟨_, hlc, hcm, hzl, hwf, hnil, hcell⟩ := hr i (by omega)
      cases hA : A i with
      | none => have := hnil hA; omega
      | some ad =>
        have hmem : (Deep.intRow (H := H) .u8 (A i) (L i) (Z i)) ∈ (List.range len).map fun r => Deep.intRow .u8 (A r) (L r) (Z r) := List.mem_map.2 ⟨i, List.mem_range.2 hi, rfl⟩
        have hw := weightsAll_mem (P := Try.prog) (e := 30) hmem (((lits (H := H) .u8 ((Z i).take (L i))).length + (lits (H := H) .u8 ((Z i).drop (L i))).length) * Try.prog.bytesOf 5) (by
          rw [hA]; simp only [Deep.intRow, DataW.weights, Try.underlying30]; exact List.mem_cons_self ..)
        have := hz _ (by
          rw [hd]
          simp only [DataW.weights, Try.underlying27]
          exact List.mem_cons_of_mem _ (List.mem_append_left _ hw))
        rw [bytes5] at this
        simp only [lits, List.length_map, List.length_take, List.length_drop, reachBytes] at this
        omega

/-- The sum of the first n. -/
def sm (L : Nat → Nat) : Nat → Nat | 0 => 0 | n + 1 => sm L n + L n
theorem sm_ge {L : Nat → Nat} {n i : Nat} (hi : i < n) : L i ≤ sm L n := by
  induction n with
  | zero => omega
  | succ n ih =>
    unfold sm
    by_cases e : i = n
    · subst e; omega
    · have := ih (by omega); omega
theorem sm_le {L : Nat → Nat} {b n : Nat} (h : ∀ i, i < n → L i ≤ b) : sm L n ≤ n * b := by
  induction n with
  | zero => simp [sm]
  | succ n ih =>
    have h1 := ih (fun i hi => h i (by omega))
    have h2 := h n (by omega)
    unfold sm
    rw [Nat.succ_mul]; omega

set_option maxRecDepth 100000 in
theorem small_any (a : Option Addr) (n c : Nat) (A : Nat → Option Addr) (L C : Nat → Nat) (F : Nat → Nat → Nat) (w : World) (h : Mat w a n A L C F) (hn : n ≤ maxLen) (hL : ∀ i, i < n → L i ≤ 140737488355328) :
    Calls Try.prog 14 #[.slice a n c] w fun e w' => (e = .returned (.bool false) ∨ (e = .returned (.bool true) ∧ n ≤ 300 ∧ ∀ i, i < n → L i ≤ 4000)) ∧ w = w' := by
  unfold maxLen at hn
  by_cases hs : n ≤ 300
  · have HC : Hid (0 < n → ∃ b o, a = some ⟨b, o, none⟩ ∧ ∀ i, i < n → w.cell? ⟨b, o + i, none⟩ = some (.slice (A i) (L i) (C i))) := h.lies
    have HL : Hid (∀ i, i < n → L i ≤ 140737488355328) := hL
    clear h hL
    go_enter Try.func14, Try.ntmps14
    go_wp2
    go_loop [3, 4] (fun s v => ∃ k : Nat, k ≤ n ∧ v = .int .i64 k ∧ s = .int .i64 ((sm L k : Nat) : Int)) (fun _ v => n - (intOf v).toNat)
    case atStart => exact ⟨0, by omega, rfl, rfl⟩
    case round =>
      obtain ⟨k, hk, rfl, rfl⟩ := hrel
      by_cases hlt : k < n
      · obtain ⟨b, o, rfl, hc⟩ := HC.out (by omega)
        have ck := hc k hlt
        have lk := HL.out k hlt
        have sk := sm_le (n := k) (fun i hi => HL.out i (by omega))
        have sk2 : sm L k ≤ 300 * 140737488355328 := Nat.le_trans sk (Nat.mul_le_mul_right _ (by omega))
        have HS : Hid (sm L (k + 1) = sm L k + L k) := rfl
        clear hc HC sk
        have ik : (k : Int) < (n : Int) := by omega
        generalize A k = ak at *
        generalize C k = cck at *
        generalize L k = lk' at *
        generalize sm L k = sk' at *
        go_wp2
        go_round
        case rel => exact ⟨k + 1, by omega, by go_num, by rw [HS.out]; go_num⟩
        case measure => simp [intOf]; omega
      · have : k = n := by omega
        subst this
        have sk := sm_le (n := k) HL.out
        have sk2 : sm L k ≤ 300 * 140737488355328 := Nat.le_trans sk (Nat.mul_le_mul_right _ (by omega))
        have HS : Hid (∀ i, i < k → L i ≤ sm L k) := fun i hi => sm_ge hi
        clear sk HL
        generalize sm L k = sk' at *
        by_cases h4 : sk' ≤ 4000
        · have h4' : (sk' : Int) ≤ 4000 := by omega
          have g1 : decide (sk' ≤ 4000) = true := decide_eq_true h4
          go_wp2
          go_ret
          first | exact ⟨.inr ⟨rfl, hs, fun i hi => Nat.le_trans (HS.out i hi) h4⟩, rfl⟩ | exact ⟨.inr ⟨rfl, fun i hi => Nat.le_trans (HS.out i hi) h4⟩, rfl⟩
        · have h4' : ¬ (sk' : Int) ≤ 4000 := by omega
          have g1 : decide (sk' ≤ 4000) = false := decide_eq_false h4
          go_wp2
          go_ret
          exact ⟨.inl rfl, rfl⟩
  · have HC : Hid (0 < n → ∃ b o, a = some ⟨b, o, none⟩ ∧ ∀ i, i < n → w.cell? ⟨b, o + i, none⟩ = some (.slice (A i) (L i) (C i))) := h.lies
    clear h hL
    go_enter Try.func14, Try.ntmps14
    go_wp2
    go_loop [3, 4] (fun s v => ∃ (k : Nat) (z : Int), k ≤ n ∧ v = .int .i64 k ∧ s = .int .i64 z) (fun _ v => n - (intOf v).toNat)
    case atStart => exact ⟨0, 0, by omega, rfl, rfl⟩
    case round =>
      obtain ⟨k, z, hk, rfl, rfl⟩ := hrel
      by_cases hlt : k < n
      · obtain ⟨b, o, rfl, hc⟩ := HC.out (by omega)
        have ck := hc k hlt
        clear hc HC
        have ik : (k : Int) < (n : Int) := by omega
        generalize A k = ak at *
        generalize C k = cck at *
        generalize L k = lk' at *
        go_wp2
        go_round
        case rel => exact ⟨k + 1, _, by omega, by go_num, rfl⟩
        case measure => simp [intOf]; omega
      · have : k = n := by omega
        subst this
        have g1 : decide (k ≤ 300) = false := decide_eq_false hs
        have g2 : ¬ (k : Int) ≤ 300 := by omega
        go_wp2
        go_ret
        first | exact ⟨.inl rfl, rfl⟩ | exact ⟨rfl, rfl⟩
end Go.Proofs.Ytbfhmdphhhjlnaa
