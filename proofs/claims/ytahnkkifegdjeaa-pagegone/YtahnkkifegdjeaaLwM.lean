/-
  Plain mathematics of lists of entries: fair ones, the one sorted list, pages.
-/
import Derived.Test.YtahnkkifegdjeaaLwF
import Derived.Test.YtahnkkifegdjeaaRfP
namespace Go.Proofs.Ytahnkkifegdjeaa
open Go.RowKit Go.Shelf Go.Sort Nq

/-- No two with one key and one id. -/
def Dis (L : List En) : Prop := ∀ x ∈ L, ∀ y ∈ L, x.key = y.key → x.id = y.id → x = y
theorem mem_at {L : List En} {x : En} (h : x ∈ L) : ∃ i, i < L.length ∧ L[i]! = x := by
  obtain ⟨i, hi, e⟩ := List.mem_iff_getElem.1 h
  exact ⟨i, hi, by rw [getElem!_pos L i hi]; exact e⟩
theorem at_mem {L : List En} {i : Nat} (h : i < L.length) : L[i]! ∈ L := by rw [getElem!_pos L i h]; exact List.getElem_mem _
theorem fair_dis {L : List En} (h : FairP L) : Dis L := by
  intro x hx y hy hk hi
  obtain ⟨i, hi1, rfl⟩ := mem_at hx
  obtain ⟨j, hj1, rfl⟩ := mem_at hy
  by_cases e : i = j
  · rw [e]
  · exact absurd hi ((h j hj1).2.1 i hi1 e hk)
/-- What is fair, said of members alone. -/
structure FairM (L : List En) : Prop where
  dis : Dis L
  key : ∀ x ∈ L, tx x.key ≠ []
  la : ∀ x ∈ L, x.la = true ↔ ∀ y ∈ L, y.key = x.key → y.id ≤ x.id
theorem fairM {L : List En} (h : FairP L) : FairM L := by
  refine ⟨fair_dis h, fun x hx => ?_, fun x hx => ?_⟩
  · obtain ⟨i, hi, rfl⟩ := mem_at hx
    exact (h i hi).1
  · obtain ⟨i, hi, rfl⟩ := mem_at hx
    rw [(h i hi).2.2]
    refine ⟨fun q y hy hk => ?_, fun q j hj hji hk => ?_⟩
    · obtain ⟨j, hj, rfl⟩ := mem_at hy
      by_cases e : j = i
      · rw [e]; exact Int.le_refl _
      · exact Int.le_of_lt (q j hj e hk)
    · have h1 := q _ (at_mem hj) hk
      have h2 := (h i hi).2.1 j hj hji hk
      omega
theorem FairM.perm {L M : List En} (h : FairM L) (p : M.Perm L) : FairM M :=
  ⟨fun x hx y hy => h.dis x (p.mem_iff.1 hx) y (p.mem_iff.1 hy), fun x hx => h.key x (p.mem_iff.1 hx), fun x hx => by
    rw [h.la x (p.mem_iff.1 hx)]
    exact ⟨fun q y hy => q y (p.mem_iff.1 hy), fun q y hy => q y (p.mem_iff.2 hy)⟩⟩
/-- There is one sorted list. -/
theorem sort_one {L M N : List En} (h : Dis L) (a : SortOf L M) (b : SortOf L N) : M = N := by
  refine List.Perm.eq_of_pairwise (le := fun x y => ltE y x = false) ?_ a.2 b.2 (a.1.trans b.1.symm)
  intro x y hx hy h1 h2
  have hx' := a.1.mem_iff.1 hx
  have hy' := b.1.mem_iff.1 hy
  rcases ltE_no h1 with k1 | ⟨k1, i1⟩
  · rcases ltE_no h2 with k2 | ⟨k2, i2⟩
    · rw [ls_both _ _ k1] at k2; cases k2
    · rw [k2, ls_same] at k1; cases k1
  · rcases ltE_no h2 with k2 | ⟨k2, i2⟩
    · rw [k1, ls_same] at k2; cases k2
    · exact h x hx' y hy' k2 (by omega)
/-- The sorted list. -/
def srt (L : List En) : List En := L.mergeSort (fun x y => !ltE y x)
theorem srt_sorts (L : List En) : SortOf L (srt L) := by
  refine ⟨List.mergeSort_perm _ _, ?_⟩
  have h := List.pairwise_mergeSort (le := fun x y => !ltE y x) (l := L) ?_ ?_
  · exact h.imp fun {x y} q => by simpa using q
  · intro x y z h1 h2
    simp only [Bool.not_eq_true'] at h1 h2 ⊢
    exact ltE_ntrans z y x h2 h1
  · intro x y
    cases q : ltE y x with
    | false => simp
    | true => simp [swoL.asymmA q]
theorem srt_one {L M : List En} (h : Dis L) (a : SortOf L M) : M = srt L := sort_one h a (srt_sorts L)
theorem srt_length (L : List En) : (srt L).length = L.length := (srt_sorts L).1.length_eq
theorem srt_mem {L : List En} {x : En} : x ∈ srt L ↔ x ∈ L := (srt_sorts L).1.mem_iff
/-- In order, strictly. -/
theorem srt_lt {L : List En} (h : Dis L) (hn : L.Nodup) : (srt L).Pairwise (fun x y => ltE x y = true) := by
  have h1 := (srt_sorts L).2
  have h2 : (srt L).Nodup := (srt_sorts L).1.nodup_iff.2 hn
  refine (List.pairwise_iff_getElem.2 fun i j hi hj hij => ?_)
  have q1 := List.pairwise_iff_getElem.1 h1 i j hi hj hij
  have q2 := List.pairwise_iff_getElem.1 h2 i j hi hj hij
  cases q : ltE (srt L)[i] (srt L)[j] with
  | true => rfl
  | false =>
    exfalso
    apply q2
    have m1 : (srt L)[i] ∈ L := srt_mem.1 (List.getElem_mem _)
    have m2 : (srt L)[j] ∈ L := srt_mem.1 (List.getElem_mem _)
    rcases ltE_no q1 with k1 | ⟨k1, i1⟩
    · rcases ltE_no q with k2 | ⟨k2, i2⟩
      · rw [ls_both _ _ k1] at k2; cases k2
      · rw [k2, ls_same] at k1; cases k1
    · rcases ltE_no q with k2 | ⟨k2, i2⟩
      · rw [k1, ls_same] at k2; cases k2
      · exact h _ m1 _ m2 k2 (by omega)
theorem fair_nodup {L : List En} (h : FairP L) : L.Nodup := by
  rw [List.Nodup, List.pairwise_iff_getElem]
  intro i j hi hj hij e
  have hne : i ≠ j := by omega
  have h1 := (h j hj).2.1 i hi hne
  rw [getElem!_pos L i hi, getElem!_pos L j hj, e] at h1
  exact h1 rfl rfl
theorem noTwo_of {L M : List En} (h : FairM L) (hn : L.Nodup) (p : M.Perm L) : NoTwo M := by
  intro i j hij hj h1 h2 hk
  have f := h.perm p
  have m1 := at_mem (L := M) (show i < M.length by omega)
  have m2 := at_mem hj
  have q1 := (f.la _ m1).1 h1 _ m2 hk.symm
  have q2 := (f.la _ m2).1 h2 _ m1 hk
  have e := f.dis _ m1 _ m2 hk (by omega)
  have nd := List.pairwise_iff_getElem.1 (p.nodup_iff.2 hn) i j (by omega) hj hij
  rw [getElem!_pos M i (by omega), getElem!_pos M j hj] at e
  exact nd e
/-- Objects' and versions' lists, the program's and the document's. -/
theorem same_objects (M : List En) (q : Aq) : (M.filter pO).filter (fun e => pre (tx e.key) (tx q.pr) && abv q e) = M.filter (rin q false) := by
  rw [List.filter_filter]
  congr 1
  funext e
  unfold rin rin1 pO
  cases pre (tx e.key) (tx q.pr) <;> cases abv q e <;> cases e.la <;> cases e.mr <;> rfl
theorem same_versions (M : List En) (q : Aq) : M.filter (fun e => pre (tx e.key) (tx q.pr) && bhd q e) = M.filter (rin q true) := by
  congr 1
  funext e
  unfold rin rin1 bhd
  cases pre (tx e.key) (tx q.pr) <;> cases abv q e <;> cases decide (e.key = q.fr) <;> cases decide (e.id < q.fi) <;> rfl
end Go.Proofs.Ytahnkkifegdjeaa
