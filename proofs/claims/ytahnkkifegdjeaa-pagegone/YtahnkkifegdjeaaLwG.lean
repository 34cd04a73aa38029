/-
  Fair rows: what the program's and the document's pages answer, side by side.
-/
import Derived.Test.YtahnkkifegdjeaaLwD
import Derived.Test.YtahnkkifegdjeaaRfQ
namespace Go.Proofs.Ytahnkkifegdjeaa
open Go.RowKit Go.Shelf Go.Sort Nq
attribute [local go_sem ↓] Go.wp_at_zero Go.wp_at_succ
set_option linter.unusedVariables false

/-- A call that answers the page A, and the number x. -/
def PageIs (f : Nat) (args : Array Value) (W : World) (A : An) (x : Int) : Prop :=
  Calls Try.prog f args W fun r w' => ∃ a c, r = .returned (.tuple #[anv (.slice a A.L.length c) A.more A.key A.id, .int .i64 x]) ∧ EOwn w' W.heap.size (.slice a A.L.length c) A.L ∧ Below W.heap.size W w'
theorem pageIs_of {f : Nat} {args : Array Value} {W : World} {A : An} {x : Int}
    (h : Calls Try.prog f args W fun r w' => ∃ v, r = .returned (.tuple #[anv v A.more A.key A.id, .int .i64 x]) ∧ EOwn w' W.heap.size v A.L ∧ Below W.heap.size W w') : PageIs f args W A x := by
  refine h.mono ?_
  rintro r w' ⟨v, e, ho, k⟩
  obtain ⟨a, c, rfl, _⟩ := out_es ho
  exact ⟨a, c, e, ho, k⟩
theorem fair_keys {L : List En} (hs : FewP L) : ∀ e ∈ srt L, e.key.size ≤ maxLen := fun e he => by
  obtain ⟨i, hi, rfl⟩ := mem_at (srt_mem.1 he)
  have := hs.2 i hi
  unfold maxLen; omega
theorem few_keys {L : List En} (hs : FewP L) : ∀ e ∈ L, e.key.size ≤ maxLen := fun e he => by
  obtain ⟨i, hi, rfl⟩ := mem_at he
  have := hs.2 i hi
  unfold maxLen; omega
theorem srt_all {L : List En} (hf : FairP L) : ∀ M', SortOf L M' → M' = srt L := fun M' h => srt_one (fair_dis hf) h
theorem srt_two {L : List En} (hf : FairP L) : NoTwo (srt L) := noTwo_of (fairM hf) (fair_nodup hf) (srt_sorts L).1
/-- The page of versions. -/
def pgV (L : List En) (q : Aq) : An := cutA ((srt L).filter (rin q true)) q.mo true
/-- The page of objects. -/
def pgO (L : List En) (q : Aq) : An := cutA ((srt L).filter (rin q false)) q.mo false
theorem versions_is (a : Option Addr) (c : Nat) (L : List En) (q : Aq) (w : World) (h : Es w a L) (hs : FewP L) (hf : FairP L) (hp : q.pr.size ≤ maxLen) (hm : 1 ≤ q.mo ∧ q.mo ≤ 1000) : PageIs 14 #[.slice a L.length c, av q] w (pgV L q) 0 := by
  have := versions_good a c L (srt L) q w h (by have := hs.1; omega) (srt_length L) (srt_all hf) (fair_keys hs) hp hm
  rw [same_versions] at this
  exact pageIs_of this
theorem objects_is (a : Option Addr) (c : Nat) (L : List En) (q : Aq) (w : World) (h : Es w a L) (hs : FewP L) (hf : FairP L) (hp : q.pr.size ≤ maxLen) (hm : 1 ≤ q.mo ∧ q.mo ≤ 1000) : PageIs 11 #[.slice a L.length c, av q] w (pgO L q) 0 := by
  have := objects_good a c L (srt L) q w h (by have := hs.1; omega) (srt_length L) (srt_all hf) (srt_two hf) (fair_keys hs) hp hm
  rw [same_objects] at this
  exact pageIs_of this
theorem rversions_is (a : Option Addr) (c : Nat) (L : List En) (q : Aq) (w : World) (h : Es w a L) (hs : FewP L) (hf : FairP L) (hp : q.pr.size ≤ maxLen) (hr : q.fr.size ≤ maxLen) (hm : 1 ≤ q.mo ∧ q.mo ≤ 1000) : PageIs 15 #[.slice a L.length c, av q] w (pgV L q) 0 :=
  pageIs_of (rversions_wrap a L.length c q w _ _ _ _ _ fun W hb => rpages_good a c L (srt L) q true W (h.keep hb) (by have := hs.1; omega) (srt_all hf) (few_keys hs) hp hr hm)
theorem robjects_is (a : Option Addr) (c : Nat) (L : List En) (q : Aq) (w : World) (h : Es w a L) (hs : FewP L) (hf : FairP L) (hp : q.pr.size ≤ maxLen) (hr : q.fr.size ≤ maxLen) (hm : 1 ≤ q.mo ∧ q.mo ≤ 1000) : PageIs 13 #[.slice a L.length c, av q] w (pgO L q) 0 :=
  pageIs_of (robjects_wrap a L.length c q w _ _ _ _ _ fun W hb => rpages_good a c L (srt L) q false W (h.keep hb) (by have := hs.1; omega) (srt_all hf) (few_keys hs) hp hr hm)
theorem cut_len (X : List En) (m : Int) (v : Bool) : (cutA X m v).L.length ≤ X.length := by
  unfold cutA
  split
  · rw [List.length_take]; omega
  · exact Nat.le_refl _
theorem pg_len (L : List En) (p : En → Bool) (m : Int) (v : Bool) : (cutA ((srt L).filter p) m v).L.length ≤ L.length :=
  Nat.le_trans (cut_len _ _ _) (Nat.le_trans (List.length_filter_le _ _) (by rw [srt_length]; exact Nat.le_refl _))
def noA : An := ⟨[], false, ⟨#[]⟩, 0⟩
theorem pageIs_no {f : Nat} {args : Array Value} {W : World} (h : Calls Try.prog f args W fun r w' => r = .returned (.tuple #[anv (.slice none 0 0) false ⟨#[]⟩ 0, .int .i64 1]) ∧ Below W.heap.size W w') : PageIs f args W noA 1 :=
  h.mono fun _ _ ⟨e, k⟩ => ⟨none, 0, e, EOwn.start _ _, k⟩
theorem wrap_no {f : Nat} {args : Array Value} {W : World} (h : Calls Try.prog f args W fun r w' => ∃ v, r = .returned (.tuple #[anv v false ⟨#[]⟩ 0, .int .i64 1]) ∧ EOwn w' W.heap.size v [] ∧ Below W.heap.size W w') : PageIs f args W noA 1 := pageIs_of h
/-- The four calls, whatever is asked. -/
theorem four_is (a : Option Addr) (c : Nat) (L : List En) (q : Aq) (w : World) (h : Es w a L) (hs : FewP L) (hf : FairP L) (hp : q.pr.size ≤ maxLen) (hr : q.fr.size ≤ maxLen) :
    ∃ A B x, (A.L.length ≤ L.length ∧ B.L.length ≤ L.length) ∧ ∀ W, Below w.heap.size w W → PageIs 11 #[.slice a L.length c, av q] W A x ∧ PageIs 13 #[.slice a L.length c, av q] W A x ∧ PageIs 14 #[.slice a L.length c, av q] W B x ∧ PageIs 15 #[.slice a L.length c, av q] W B x := by
  by_cases hm : 1 ≤ q.mo ∧ q.mo ≤ 1000
  · exact ⟨pgO L q, pgV L q, 0, ⟨pg_len _ _ _ _, pg_len _ _ _ _⟩, fun W hb => ⟨objects_is a c L q W (h.keep hb) hs hf hp hm, robjects_is a c L q W (h.keep hb) hs hf hp hr hm, versions_is a c L q W (h.keep hb) hs hf hp hm, rversions_is a c L q W (h.keep hb) hs hf hp hr hm⟩⟩
  · exact ⟨noA, noA, 1, ⟨Nat.zero_le _, Nat.zero_le _⟩, fun W hb => ⟨pageIs_no (objects_bad a _ c q W hm),
      wrap_no (robjects_wrap a L.length c q W _ _ _ _ _ fun W' _ => (rpages_bad a _ c q false W' hm).mono fun _ _ ⟨e, k⟩ => ⟨_, e, EOwn.start _ _, k⟩), pageIs_no (versions_bad a _ c q W hm),
      wrap_no (rversions_wrap a L.length c q W _ _ _ _ _ fun W' _ => (rpages_bad a _ c q true W' hm).mono fun _ _ ⟨e, k⟩ => ⟨_, e, EOwn.start _ _, k⟩)⟩⟩
end Go.Proofs.Ytahnkkifegdjeaa
