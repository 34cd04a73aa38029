/-
  Questions for a page in memory; what above, behind, mayMost answer.
-/
import Derived.Test.YtahnkkifegdjeaaEnS
namespace Go.Proofs.Ytahnkkifegdjeaa
open Go.RowKit Go.Shelf Go.Sort Nq
attribute [local go_sem ↓] Go.wp_at_zero Go.wp_at_succ
set_option linter.unusedVariables false

/-- A question. -/
structure Aq where
  pr : ByteArray
  fr : ByteArray
  fi : Int
  mo : Int
def av (q : Aq) : Value := .agg #[.string q.pr, .string q.fr, .int .i64 q.fi, .int .i64 q.mo]
structure AAt (w : World) (b : Nat) (q : Aq) : Prop where
  c0 : w.cell? ⟨b, 0, none⟩ = some (.string q.pr)
  c1 : w.cell? ⟨b, 1, none⟩ = some (.string q.fr)
  c2 : w.cell? ⟨b, 2, none⟩ = some (.int .i64 q.fi)
  c3 : w.cell? ⟨b, 3, none⟩ = some (.int .i64 q.mo)
theorem AAt.keep {w w' : World} {b : Nat} {q : Aq} (h : AAt w b q) (hb : Below w.heap.size w w') : AAt w' b q :=
  ⟨(hb.cell (p := ⟨b, 0, none⟩) (block_lt_of_cell h.c0)).trans h.c0, (hb.cell (p := ⟨b, 1, none⟩) (block_lt_of_cell h.c1)).trans h.c1,
    (hb.cell (p := ⟨b, 2, none⟩) (block_lt_of_cell h.c2)).trans h.c2, (hb.cell (p := ⟨b, 3, none⟩) (block_lt_of_cell h.c3)).trans h.c3⟩
theorem box_aq (w : World) (t : TypeId) (q : Aq) : ∃ W, w.alloc (.cells #[.string q.pr, .string q.fr, .int .i64 q.fi, .int .i64 q.mo] t) = W ∧ AAt W w.heap.size q ∧ Below w.heap.size w W :=
  ⟨_, rfl, ⟨by rw [World.cell?_alloc_new]; rfl, by rw [World.cell?_alloc_new]; rfl, by rw [World.cell?_alloc_new]; rfl, by rw [World.cell?_alloc_new]; rfl⟩, bal _ _⟩

def abv (q : Aq) (e : En) : Bool := decide (tx q.fr = []) || ls (tx q.fr) (tx e.key)
def bhd (q : Aq) (e : En) : Bool := abv q e || (decide (e.key = q.fr) && decide (e.id < q.fi))

theorem most_any (m : Int) (w : World) : Calls Try.prog 23 #[.int .i64 m] w fun e w' => e = .returned (.bool (decide (1 ≤ m ∧ m ≤ 1000))) ∧ w = w' := by
  by_cases h1 : 1 ≤ m
  · by_cases h2 : m ≤ 1000
    · have h3 : decide (1 ≤ m ∧ m ≤ 1000) = true := decide_eq_true ⟨h1, h2⟩
      rw [h3]
      have h4 : decide (1 ≤ m) = true := decide_eq_true h1
      have h5 : decide (m ≤ 1000) = true := decide_eq_true h2
      clear h3
      go_enter Try.func23, Try.ntmps23
      go_wp2
      go_ret
      exact ⟨rfl, rfl⟩
    · have h3 : decide (1 ≤ m ∧ m ≤ 1000) = false := decide_eq_false (fun q => h2 q.2)
      rw [h3]
      have h4 : decide (1 ≤ m) = true := decide_eq_true h1
      have h5 : decide (m ≤ 1000) = false := decide_eq_false h2
      clear h3
      go_enter Try.func23, Try.ntmps23
      go_wp2
      go_ret
      exact ⟨rfl, rfl⟩
  · have h3 : decide (1 ≤ m ∧ m ≤ 1000) = false := decide_eq_false (fun q => h1 q.1)
    rw [h3]
    have h4 : decide (1 ≤ m) = false := decide_eq_false h1
    clear h3
    go_enter Try.func23, Try.ntmps23
    go_wp2
    go_ret
    exact ⟨rfl, rfl⟩

theorem fr_nil (s : ByteArray) : (s.toList == []) = decide (tx s = []) := by
  rw [ByteArray.toList_eq]
  unfold tx
  cases s.data.toList <;> simp
set_option maxRecDepth 100000 in
set_option maxHeartbeats 1000000 in
theorem above_any (e : En) (q : Aq) (w : World) : Calls Try.prog 26 #[ev e, av q] w fun r w' => r = .returned (.bool (abv q e)) ∧ Below w.heap.size w w' := by
  obtain ⟨k, i, m, z, s, l⟩ := e
  obtain ⟨pr, fr, fi, mo⟩ := q
  obtain ⟨W1, hb1, h1, b1⟩ := box_en w 48 ⟨k, i, m, z, s, l⟩
  obtain ⟨W2, hb2, h2, b2⟩ := box_aq W1 32 ⟨pr, fr, fi, mo⟩
  obtain ⟨c0, c1, c2, c3, c4, c5⟩ := h1.keep b2
  obtain ⟨d0, d1, d2, d3⟩ := h2
  have HB : Hid (Below w.heap.size w W2) := hop b1 b2
  have cl := less_any fr k
  have hz := fr_nil fr
  unfold abv ev av
  dsimp only at *
  generalize ls (tx fr) (tx k) = L at *
  cases hd : decide (tx fr = []) with
  | true =>
    rw [hd] at hz
    clear h1 b1 b2 hd cl
    go_enter Try.func26, Try.ntmps26
    go_wp2
    go_ret
    exact ⟨rfl, HB.out⟩
  | false =>
    rw [hd] at hz
    clear h1 b1 b2 hd
    go_enter Try.func26, Try.ntmps26
    go_wp2_with fail
    go_at_call 32
    refine (cl _).mono ?_
    rintro e w' ⟨rfl, rfl⟩
    go_wp2
    go_ret
    exact ⟨ret_b (by first | rfl | simp), HB.out⟩
theorem key_beq (a b : ByteArray) : (a.toList == b.toList) = decide (a = b) := by
  rw [tx_beq]
  exact decide_eq_decide.2 ⟨tx_inj, fun h => by rw [h]⟩
set_option maxRecDepth 100000 in
set_option maxHeartbeats 1000000 in
theorem behind_any (e : En) (q : Aq) (w : World) : Calls Try.prog 28 #[ev e, av q] w fun r w' => r = .returned (.bool (bhd q e)) ∧ Below w.heap.size w w' := by
  have ca := above_any e q
  obtain ⟨k, i, m, z, s, l⟩ := e
  obtain ⟨pr, fr, fi, mo⟩ := q
  obtain ⟨W1, hb1, h1, b1⟩ := box_en w 48 ⟨k, i, m, z, s, l⟩
  obtain ⟨W2, hb2, h2, b2⟩ := box_aq W1 32 ⟨pr, fr, fi, mo⟩
  have HB : Hid (Below w.heap.size w W2) := hop b1 b2
  have H1 : Hid (EAt W2 w.heap.size 0 ⟨k, i, m, z, s, l⟩) := h1.keep b2
  have H2 : Hid (AAt W2 W1.heap.size ⟨pr, fr, fi, mo⟩) := h2
  obtain ⟨c0, c1, c2, c3, c4, c5⟩ := h1.keep b2
  obtain ⟨d0, d1, d2, d3⟩ := h2
  have hk := key_beq k fr
  unfold bhd
  unfold ev av at *
  dsimp only at *
  generalize abv ⟨pr, fr, fi, mo⟩ ⟨k, i, m, z, s, l⟩ = A at *
  clear h1 b1 b2
  cases A with
  | true =>
    clear hk
    go_enter Try.func28, Try.ntmps28
    go_wp2_with fail
    go_at_call 26
    refine (ca _).mono ?_
    rintro e w' ⟨rfl, k1⟩
    go_wp2
    go_ret
    exact ⟨rfl, hop HB.out k1⟩
  | false =>
    cases hd : decide (k = fr) with
    | false =>
      rw [hd] at hk
      clear hd
      go_enter Try.func28, Try.ntmps28
      go_wp2_with fail
      go_at_call 26
      refine (ca _).mono ?_
      rintro e w' ⟨rfl, k1⟩
      obtain ⟨x0, x1, x2, x3, x4, x5⟩ := H1.out.keep k1
      obtain ⟨y0, y1, y2, y3⟩ := H2.out.keep k1
      have K1 : Hid _ := k1
      clear k1
      go_wp2
      go_ret
      exact ⟨rfl, hop HB.out K1.out⟩
    | true =>
      rw [hd] at hk
      clear hd
      go_enter Try.func28, Try.ntmps28
      go_wp2_with fail
      go_at_call 26
      refine (ca _).mono ?_
      rintro e w' ⟨rfl, k1⟩
      obtain ⟨x0, x1, x2, x3, x4, x5⟩ := H1.out.keep k1
      obtain ⟨y0, y1, y2, y3⟩ := H2.out.keep k1
      have K1 : Hid _ := k1
      clear k1
      go_wp2
      go_ret
      exact ⟨ret_b (by first | rfl | simp), hop HB.out K1.out⟩
end Go.Proofs.Ytahnkkifegdjeaa
