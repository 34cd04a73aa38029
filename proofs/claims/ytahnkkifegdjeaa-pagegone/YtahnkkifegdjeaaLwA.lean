/-
  What the law's own helpers answer: Few, Fair, Ask, same.
-/
import Derived.Test.YtahnkkifegdjeaaEnQ
namespace Go.Proofs.Ytahnkkifegdjeaa
open Go.RowKit Go.Shelf Go.Sort Nq
attribute [local go_sem ↓] Go.wp_at_zero Go.wp_at_succ
set_option linter.unusedVariables false

/-- A bool; true only where it may be. -/
def BoolEnd (P : Prop) (r : Ending) : Prop := ∃ b, r = .returned (.bool b) ∧ (b = true → P)
/-- Few and short. -/
def FewP (L : List En) : Prop := L.length ≤ 200 ∧ ∀ i, i < L.length → L[i]!.key.size ≤ 500
set_option maxRecDepth 100000 in
set_option maxHeartbeats 1000000 in
theorem few_any (a : Option Addr) (c : Nat) (L : List En) (w : World) (h : Es w a L) (hn : L.length ≤ maxLen) (hkm : ∀ i, i < L.length → L[i]!.key.size ≤ maxLen) :
    Calls Try.prog 9 #[.slice a L.length c] w fun r w' => BoolEnd (FewP L) r ∧ Below w.heap.size w w' := by
  unfold maxLen at hn hkm
  have HK : Aside (∀ i, i < L.length → L[i]!.key.size ≤ 9223372036854775807) := hkm
  clear hkm
  by_cases h2 : 200 < L.length
  · have g2 : (200 : Int) < (L.length : Int) := by omega
    clear h
    go_enter Try.func9, Try.ntmps9
    go_wp2
    go_ret
    exact ⟨⟨_, rfl, fun q => by cases q⟩, Below.refl _ _⟩
  · have g2 : ¬ (200 : Int) < (L.length : Int) := by omega
    have HE : Aside (Es w a L) := h
    clear h
    go_enter Try.func9, Try.ntmps9
    go_wp2
    go_loopw [3] (fun s3 wr => ∃ i : Nat, s3 = .int .i64 i ∧ i ≤ L.length ∧ Aside (wr = w) ∧ Aside (∀ j, j < i → L[j]!.key.size ≤ 500)) (fun s3 _ => L.length - (intOf s3).toNat)
    case atStart => exact ⟨0, rfl, Nat.zero_le _, (show w = w from rfl), (show ∀ j, j < 0 → L[j]!.key.size ≤ 500 from fun j hj => absurd hj (Nat.not_lt_zero _))⟩
    case round =>
      obtain ⟨i, rfl, hi, HW, HP⟩ := hrel
      obtain rfl := HW.out
      by_cases hlt : i < L.length
      · obtain ⟨b, o, rfl, hc⟩ := HE.out (by omega)
        obtain ⟨c0, _, _, _, _, _⟩ := hc i hlt
        have hiz : (i : Int) < (L.length : Int) := by omega
        have hk := HK.out i hlt
        obtain ⟨e, he⟩ : ∃ e, e = L[i]! := ⟨_, rfl⟩
        have HEE : Aside (e = L[i]!) := he
        rw [← he] at c0 hk
        clear hc he
        by_cases hs : 500 < e.key.size
        · have gs : (500 : Int) < (e.key.size : Int) := by omega
          go_wp2
          go_ret
          exact ⟨⟨_, rfl, fun q => by cases q⟩, Below.refl _ _⟩
        · have gs : ¬ (500 : Int) < (e.key.size : Int) := by omega
          have HP2 : Aside (∀ j, j < i + 1 → L[j]!.key.size ≤ 500) := fun j hj => by
            by_cases ej : j = i
            · subst ej; rw [← HEE.out]; omega
            · exact HP.out j (by omega)
          go_wp2
          go_round
          case rel => exact ⟨i + 1, by go_num, by omega, (show True from trivial), HP2⟩
          case measure => simp [intOf]; omega
      · have hiz : ¬ (i : Int) < (L.length : Int) := by omega
        have e : i = L.length := by omega
        have HR : Aside (FewP L) := ⟨by omega, fun j hj => HP.out j (by omega)⟩
        clear e
        go_wp2
        go_ret
        exact ⟨⟨_, rfl, fun _ => HR.out⟩, Below.refl _ _⟩

set_option maxRecDepth 100000 in
theorem ask_any (q : Aq) (w : World) : Calls Try.prog 12 #[av q] w fun r w' => r = .returned (av q) ∧ Below w.heap.size w w' := by
  obtain ⟨pr, fr, fi, mo⟩ := q
  obtain ⟨W1, hbx, hA, hb⟩ := box_aq w 24 ⟨pr, fr, fi, mo⟩
  obtain ⟨W2, hb2⟩ : ∃ W2, W1.alloc (.cells #[.string ⟨#[]⟩, .string ⟨#[]⟩, .int .i64 0, .int .i64 0] 32) = W2 := ⟨_, rfl⟩
  have b2 : Below W1.heap.size W1 W2 := by rw [← hb2]; exact bal _ _
  have hd : W2.heap[W1.heap.size]? = some (.cells #[.string ⟨#[]⟩, .string ⟨#[]⟩, .int .i64 0, .int .i64 0] 32) := by rw [← hb2]; exact heap_alloc_new _ _
  have c0 := cell_of_row W2 W1.heap.size 0 _ _ _ hd
  have c1 := cell_of_row W2 W1.heap.size 1 _ _ _ hd
  have c2 := cell_of_row W2 W1.heap.size 2 _ _ _ hd
  have c3 := cell_of_row W2 W1.heap.size 3 _ _ _ hd
  have f0 : ∀ j, W2.frozen? ⟨W1.heap.size, j, none⟩ = false := fun j => frozen_of_row W2 W1.heap.size j _ _ hd
  obtain ⟨d0, d1, d2, d3⟩ := hA.keep b2
  have HB : Hid (Below w.heap.size w W2 ∧ w.heap.size ≤ W1.heap.size) := ⟨hop hb b2, hb.size⟩
  unfold av
  dsimp only at *
  clear hA hb b2 hd
  go_enter Try.func12, Try.ntmps12
  go_wp2_with fail
  refine bodyPost_ret (v := .agg #[.string pr, .string fr, .int .i64 fi, .int .i64 mo]) (by simp [results, Try.results12, go_sem, *]) rfl ⟨rfl, ?_⟩
  exact (((HB.out.1.setCell (p := ⟨_, 0, none⟩) HB.out.2 _).setCell (p := ⟨_, 1, none⟩) HB.out.2 _).setCell (p := ⟨_, 2, none⟩) HB.out.2 _).setCell (p := ⟨_, 3, none⟩) HB.out.2 _

end Go.Proofs.Ytahnkkifegdjeaa
