/-
  What page.Objects and page.Versions answer.
-/
import Derived.Test.YtahnkkifegdjeaaEnO
namespace Go.Proofs.Ytahnkkifegdjeaa
open Go.RowKit Go.Shelf Go.Sort Nq
attribute [local go_sem ↓] Go.wp_at_zero Go.wp_at_succ
set_option linter.unusedVariables false

/-- A page. -/
structure An where
  L : List En
  more : Bool
  key : ByteArray
  id : Int
/-- The page of what is asked for: so many at most, and where the next one begins. -/
def cutA (X : List En) (mo : Int) (v : Bool) : An :=
  if mo < (X.length : Int) then ⟨X.take mo.toNat, true, X[mo.toNat - 1]!.key, if v = true then X[mo.toNat - 1]!.id else 0⟩ else ⟨X, false, ⟨#[]⟩, 0⟩
theorem cutA_less {X : List En} {mo : Int} {v : Bool} (h : decide (mo < (X.length : Int)) = false) : cutA X mo v = ⟨X, false, ⟨#[]⟩, 0⟩ := if_neg (of_decide_eq_false h)
theorem cutA_more {X : List En} {mo : Int} {v : Bool} (h : decide (mo < (X.length : Int)) = true) : cutA X mo v = ⟨X.take mo.toNat, true, X[mo.toNat - 1]!.key, if v = true then X[mo.toNat - 1]!.id else 0⟩ := if_pos (of_decide_eq_true h)
def anv (v : Value) (m : Bool) (k : ByteArray) (i : Int) : Value := .agg #[v, .bool m, .string k, .int .i64 i]
theorem take_at (X : List En) (m i : Nat) (hi : i < m) (hm : m ≤ X.length) : (X.take m)[i]! = X[i]! := by
  rw [getElem!_pos X i (by omega), getElem!_pos (X.take m) i (by rw [List.length_take]; omega), List.getElem_take]

theorem EOwn.set {w : World} {base p j : Nat} {v u : Value} {L : List En} (h : EOwn w base v L) (hp : p < base) : EOwn (w.setCell ⟨p, j, none⟩ u) base v L := by
  rcases h with ⟨hl, e | ⟨g, cap, cur, e, hg, hh, hr⟩⟩
  · exact ⟨hl, .inl e⟩
  · exact ⟨hl, .inr ⟨g, cap, cur, e, hg, by rw [Below.heap_setCell _ _ _ _ (by show g ≠ p; omega)]; exact hh, hr⟩⟩
/-- What an answer's list is. -/
theorem out_es {w : World} {B : Nat} {v : Value} {L : List En} (h : EOwn w B v L) : ∃ a c, v = .slice a L.length c ∧ Es w a L := by
  obtain ⟨a, c, e, h1, _⟩ := h.es
  exact ⟨a, c, e, h1⟩

set_option maxRecDepth 100000 in
set_option maxHeartbeats 4000000 in
theorem objects_bad (a : Option Addr) (n c : Nat) (q : Aq) (w : World) (hm : ¬ (1 ≤ q.mo ∧ q.mo ≤ 1000)) :
    Calls Try.prog 11 #[.slice a n c, av q] w fun r w' => r = .returned (.tuple #[anv (.slice none 0 0) false ⟨#[]⟩ 0, .int .i64 1]) ∧ Below w.heap.size w w' := by
  obtain ⟨pr, fr, fi, mo⟩ := q
  dsimp only at hm
  have hc := most_any mo
  rw [decide_eq_false hm] at hc
  obtain ⟨W1, hbx, hA, hb⟩ := box_aq w 32 ⟨pr, fr, fi, mo⟩
  obtain ⟨W2, hb2⟩ : ∃ W2, W1.alloc (.cells #[.slice none 0 0, .bool false, .string ⟨#[]⟩, .int .i64 0] 28) = W2 := ⟨_, rfl⟩
  have b2 : Below W1.heap.size W1 W2 := by rw [← hb2]; exact bal _ _
  have hd : W2.heap[W1.heap.size]? = some (.cells #[.slice none 0 0, .bool false, .string ⟨#[]⟩, .int .i64 0] 28) := by rw [← hb2]; exact heap_alloc_new _ _
  have c0 := cell_of_row W2 W1.heap.size 0 _ _ _ hd
  have c1 := cell_of_row W2 W1.heap.size 1 _ _ _ hd
  have c2 := cell_of_row W2 W1.heap.size 2 _ _ _ hd
  have c3 := cell_of_row W2 W1.heap.size 3 _ _ _ hd
  have f0 : ∀ j, W2.frozen? ⟨W1.heap.size, j, none⟩ = false := fun j => frozen_of_row W2 W1.heap.size j _ _ hd
  obtain ⟨d0, d1, d2, d3⟩ := hA.keep b2
  have HB : Hid (Below w.heap.size w W2 ∧ w.heap.size ≤ W1.heap.size) := ⟨hop hb b2, hb.size⟩
  unfold av anv
  dsimp only at *
  clear hA hb b2 hd hm
  go_enter Try.func11, Try.ntmps11
  go_wp2_with fail
  go_at_call 23
  refine (hc _).mono ?_
  rintro e w' ⟨rfl, rfl⟩
  go_wp2_with fail
  refine bodyPost_ret (v := .tuple #[.agg #[.slice none 0 0, .bool false, .string ⟨#[]⟩, .int .i64 0], .int .i64 1]) (by simp [results, Try.results11, go_sem, *]) rfl ⟨rfl, ?_⟩
  exact (((HB.out.1.setCell (p := ⟨_, 0, none⟩) HB.out.2 _).setCell (p := ⟨_, 1, none⟩) HB.out.2 _).setCell (p := ⟨_, 2, none⟩) HB.out.2 _).setCell (p := ⟨_, 3, none⟩) HB.out.2 _
set_option maxRecDepth 100000 in
set_option maxHeartbeats 4000000 in
theorem versions_bad (a : Option Addr) (n c : Nat) (q : Aq) (w : World) (hm : ¬ (1 ≤ q.mo ∧ q.mo ≤ 1000)) :
    Calls Try.prog 14 #[.slice a n c, av q] w fun r w' => r = .returned (.tuple #[anv (.slice none 0 0) false ⟨#[]⟩ 0, .int .i64 1]) ∧ Below w.heap.size w w' := by
  obtain ⟨pr, fr, fi, mo⟩ := q
  dsimp only at hm
  have hc := most_any mo
  rw [decide_eq_false hm] at hc
  obtain ⟨W1, hbx, hA, hb⟩ := box_aq w 32 ⟨pr, fr, fi, mo⟩
  obtain ⟨W2, hb2⟩ : ∃ W2, W1.alloc (.cells #[.slice none 0 0, .bool false, .string ⟨#[]⟩, .int .i64 0] 28) = W2 := ⟨_, rfl⟩
  have b2 : Below W1.heap.size W1 W2 := by rw [← hb2]; exact bal _ _
  have hd : W2.heap[W1.heap.size]? = some (.cells #[.slice none 0 0, .bool false, .string ⟨#[]⟩, .int .i64 0] 28) := by rw [← hb2]; exact heap_alloc_new _ _
  have c0 := cell_of_row W2 W1.heap.size 0 _ _ _ hd
  have c1 := cell_of_row W2 W1.heap.size 1 _ _ _ hd
  have c2 := cell_of_row W2 W1.heap.size 2 _ _ _ hd
  have c3 := cell_of_row W2 W1.heap.size 3 _ _ _ hd
  have f0 : ∀ j, W2.frozen? ⟨W1.heap.size, j, none⟩ = false := fun j => frozen_of_row W2 W1.heap.size j _ _ hd
  obtain ⟨d0, d1, d2, d3⟩ := hA.keep b2
  have HB : Hid (Below w.heap.size w W2 ∧ w.heap.size ≤ W1.heap.size) := ⟨hop hb b2, hb.size⟩
  unfold av anv
  dsimp only at *
  clear hA hb b2 hd hm
  go_enter Try.func14, Try.ntmps14
  go_wp2_with fail
  go_at_call 23
  refine (hc _).mono ?_
  rintro e w' ⟨rfl, rfl⟩
  go_wp2_with fail
  refine bodyPost_ret (v := .tuple #[.agg #[.slice none 0 0, .bool false, .string ⟨#[]⟩, .int .i64 0], .int .i64 1]) (by simp [results, Try.results14, go_sem, *]) rfl ⟨rfl, ?_⟩
  exact (((HB.out.1.setCell (p := ⟨_, 0, none⟩) HB.out.2 _).setCell (p := ⟨_, 1, none⟩) HB.out.2 _).setCell (p := ⟨_, 2, none⟩) HB.out.2 _).setCell (p := ⟨_, 3, none⟩) HB.out.2 _
end Go.Proofs.Ytahnkkifegdjeaa
