/-
  What the law's helpers Answer and awake answer.
-/
import Derived.Test.YtahnkkifegdjeaaLwB
import Derived.Test.YtahnkkifegdjeaaLwM
import Derived.Test.YtahnkkifegdjeaaEnR
import Derived.Test.YtahnkkifegdjeaaEnT
import Derived.Deep.RegionLaw
namespace Go.Proofs.Ytahnkkifegdjeaa
open Go.RowKit Go.Shelf Go.Sort Nq
attribute [local go_sem ↓] Go.wp_at_zero Go.wp_at_succ
set_option linter.unusedVariables false

set_option maxRecDepth 100000 in
set_option maxHeartbeats 4000000 in
/-- An answer as the document has it: a list of its own. -/
theorem answer_any (B : Nat) (v : Value) (L : List En) (m : Bool) (k : ByteArray) (i : Int) (w : World) (h : EOwn w B v L) (hl : L.length ≤ 900000) :
    Calls Try.prog 17 #[anv v m k i] w fun r w' => ∃ v', r = .returned (anv v' m k i) ∧ EOwn w' w.heap.size v' L ∧ Below w.heap.size w w' := by
  obtain ⟨a, c, rfl, es0, hz, _, _⟩ := h.es
  obtain ⟨W1, hw1, h1, b1⟩ := box_an w 28 (.slice a L.length c) m k i
  obtain ⟨W2, hw2⟩ : ∃ W2, W1.alloc (.cells #[.slice none 0 0, .bool false, .string ⟨#[]⟩, .int .i64 0] 34) = W2 := ⟨_, rfl⟩
  have b2 : Below W1.heap.size W1 W2 := by rw [← hw2]; exact bal _ _
  have hd : AB W2 W1.heap.size (.slice none 0 0) false ⟨#[]⟩ 0 := by rw [← hw2]; exact heap_alloc_new _ _
  have hlt := hd.lt
  have h2 := h1.keep b2
  have bW : Below w.heap.size w W2.drew := bld (hop b1 b2) 1
  have b3 : Below W2.heap.size W2 W2.drew := bdn W2 1
  obtain ⟨v', W3, hr, ho, hg, hbl⟩ := appendE (c := c) (EOwn.start W2.drew W2.heap.size) (es0.keep bW) hz (by simpa using (by omega : L.length ≤ 1000000)) (Nat.le_refl _)
  rw [List.nil_append] at ho
  have b4 : Below W2.heap.size W2 W3 := b3.trans hbl
  obtain ⟨n3, hn3⟩ : ∃ n, L.length = n := ⟨_, rfl⟩
  obtain ⟨a', c', hv', _, _, _, _⟩ := ho.es
  rw [hn3] at hv' hr h1 h2 hw1
  subst hv'
  obtain ⟨d0, d1, d2, d3⟩ := h2.keep b4
  obtain ⟨c0, c1, c2, c3⟩ := h2
  obtain ⟨z0, z1, z2, z3, zf⟩ := (hd.keep b4 hlt).cells
  have HO : Aside (EOwn W3 W2.heap.size (.slice a' n3 c') L) := ho
  have HB : Aside (Below w.heap.size w W3 ∧ w.heap.size ≤ W1.heap.size) := ⟨hop (hop b1 b2) b4, b1.size⟩
  have HH : Aside (W1.heap.size < W2.heap.size ∧ w.heap.size ≤ W2.heap.size) := ⟨hlt, (hop b1 b2).size⟩
  rw [hn3]
  unfold anv
  clear h es0 hz h1 b1 b2 hd hlt bW b3 ho hg hbl b4 hl hn3
  go_enter Try.func17, Try.ntmps17
  go_wp2_with fail
  go_region_law (refine step_append_ran (by rfl) _ _ 22 (by rfl) (.slice none 0 0) (.slice a n3 c) (.slice a' n3 c') W3 (by rfl) (by rfl) (by dsimp only; with_reducible exact hr) ?_)
  all_goals
    go_wp2_with fail
    refine bodyPost_ret (v := .agg #[.slice a' n3 c', .bool m, .string k, .int .i64 i]) (by simp [results, Try.results17, go_sem, *]) rfl ?_
    exact ⟨_, rfl, ((((HO.out.set HH.out.1).set HH.out.1).set HH.out.1).set HH.out.1).mono HH.out.2, (((HB.out.1.setCell (p := ⟨_, 0, none⟩) HB.out.2 _).setCell (p := ⟨_, 1, none⟩) HB.out.2 _).setCell (p := ⟨_, 2, none⟩) HB.out.2 _).setCell (p := ⟨_, 3, none⟩) HB.out.2 _⟩

def eA : En := ⟨⟨#[97]⟩, 0, false, 0, 0, true⟩
def eB : En := ⟨⟨#[98]⟩, 0, false, 0, 0, true⟩
def q1 : Aq := ⟨⟨#[]⟩, ⟨#[]⟩, 0, 1⟩
theorem awk_sort (M : List En) (h : SortOf [eB, eA] M) : M = [eA, eB] := by
  refine sort_one (L := [eB, eA]) ?_ h ⟨List.Perm.swap _ _ _, ?_⟩
  · intro x hx y hy hk _
    simp at hx hy
    rcases hx with rfl | rfl <;> rcases hy with rfl | rfl <;> first | rfl | (exfalso; revert hk; decide)
  · simp; decide
theorem awk_two : NoTwo [eA, eB] := by
  intro i j hij hj _ _ hk
  have hj' : j < 2 := hj
  have e1 : i = 0 := by omega
  have e2 : j = 1 := by omega
  subst e1; subst e2
  revert hk; decide
theorem awk_cut : cutA (([eA, eB].filter pO).filter (fun e => pre (tx e.key) (tx q1.pr) && abv q1 e)) q1.mo false = ⟨[eA], true, ⟨#[97]⟩, 0⟩ := by rfl

end Go.Proofs.Ytahnkkifegdjeaa
