/-
  Pages that hold all that is asked for.
-/
import Derived.Test.YtahnkkifegdjeaaLwG
namespace Go.Proofs.Ytahnkkifegdjeaa
open Go.RowKit Go.Shelf Go.Sort Nq
set_option linter.unusedVariables false

def noB : ByteArray := ⟨#[]⟩
theorem rin_true (s : ByteArray) (m : Int) (e : En) : rin ⟨s, noB, 0, m⟩ true e = pre (tx e.key) (tx s) := by
  unfold rin rin1 abv
  have : tx noB = [] := rfl
  simp [this]
theorem rin_false (s : ByteArray) (m : Int) (e : En) : rin ⟨s, noB, 0, m⟩ false e = (pre (tx e.key) (tx s) && pO e) := by
  unfold rin rin1 abv pO
  have : tx noB = [] := rfl
  simp [this]
theorem pgV_pre {L : List En} (hs : FewP L) (s : ByteArray) : pgV L ⟨s, noB, 0, 1000⟩ = ⟨(srt L).filter (fun e => pre (tx e.key) (tx s)), false, noB, 0⟩ := by
  have e : (srt L).filter (rin ⟨s, noB, 0, 1000⟩ true) = (srt L).filter (fun e => pre (tx e.key) (tx s)) := by congr 1; funext e; exact rin_true s 1000 e
  unfold pgV
  rw [e]
  refine cutA_less (decide_eq_false ?_)
  have := List.length_filter_le (fun e => pre (tx e.key) (tx s)) (srt L)
  rw [srt_length] at this
  have := hs.1
  dsimp only
  omega
theorem pgO_pre {L : List En} (hs : FewP L) (s : ByteArray) : pgO L ⟨s, noB, 0, 1000⟩ = ⟨(srt L).filter (fun e => pre (tx e.key) (tx s) && pO e), false, noB, 0⟩ := by
  have e : (srt L).filter (rin ⟨s, noB, 0, 1000⟩ false) = (srt L).filter (fun e => pre (tx e.key) (tx s) && pO e) := by congr 1; funext e; exact rin_false s 1000 e
  unfold pgO
  rw [e]
  refine cutA_less (decide_eq_false ?_)
  have := List.length_filter_le (fun e => pre (tx e.key) (tx s) && pO e) (srt L)
  rw [srt_length] at this
  have := hs.1
  dsimp only
  omega
theorem pre_none (M : List En) : M.filter (fun e => pre (tx e.key) (tx noB)) = M := by
  rw [List.filter_eq_self]
  intro e _
  exact pre_nil _
end Go.Proofs.Ytahnkkifegdjeaa
