/-
  Entries that stay while others go: seen once each.
-/
import Derived.Test.YtahnkkifegdjeaaLwW
namespace Go.Proofs.Ytahnkkifegdjeaa
open Go.RowKit Go.Shelf Go.Sort Nq
set_option linter.unusedVariables false

/-- Whether the entry at i stays. -/
def stays (L : List En) (nd : Nat) (D : Nat → Bool) (i : Nat) : Bool := !L[i]!.la || (decide (nd ≤ i) || !D i)
/-- Those of the first i that stay. -/
def kp (L : List En) (nd : Nat) (D : Nat → Bool) : Nat → List En
  | 0 => []
  | i + 1 => if stays L nd D i = true then kp L nd D i ++ [L[i]!] else kp L nd D i
theorem kp_sub (L : List En) (nd : Nat) (D : Nat → Bool) (i : Nat) (hi : i ≤ L.length) : (kp L nd D i).Sublist (L.take i) := by
  induction i with
  | zero => exact List.nil_sublist _
  | succ i ih =>
    have e : L.take (i + 1) = L.take i ++ [L[i]!] := by
      rw [List.take_succ_eq_append_getElem (by omega), getElem!_pos L i (by omega)]
    have h := ih (by omega)
    rw [e]
    unfold kp
    split
    · exact List.Sublist.append h (List.Sublist.refl _)
    · exact h.trans (List.sublist_append_left _ _)
theorem kp_all (L : List En) (nd : Nat) (D : Nat → Bool) : (kp L nd D L.length).Sublist L := by
  have := kp_sub L nd D L.length (Nat.le_refl _)
  rwa [List.take_length] at this
theorem Dis.sub {L M : List En} (h : Dis L) (s : M.Sublist L) : Dis M := fun x hx y hy => h x (s.subset hx) y (s.subset hy)
theorem pre_noB (x : ByteArray) : pre (tx x) (tx noB) = true := by
  have : tx noB = [] := rfl
  rw [this]; cases tx x <;> rfl
theorem bhd_lt {e : En} (hk : tx e.key ≠ []) (m : Int) : (fun y : En => pre (tx y.key) (tx noB) && bhd ⟨noB, e.key, e.id, m⟩ y) = ltE e := by
  funext y
  rw [pre_noB]
  unfold bhd abv ltE
  dsimp only
  rw [decide_eq_false hk]
  have e1 : decide (y.key = e.key) = decide (e.key = y.key) := decide_eq_decide.2 ⟨fun q => q.symm, fun q => q.symm⟩
  rw [e1]
  simp
theorem vX_all (L : List En) : vX L noB = srt L := by
  unfold vX
  exact List.filter_eq_self.2 fun e _ => pre_noB e.key
theorem count_one {l : List En} (h : l.Nodup) {e : En} (m : e ∈ l) : l.count e = 1 := by
  induction l with
  | nil => cases m
  | cons x l ih =>
    rw [List.nodup_cons] at h
    rw [List.count_cons]
    rcases List.mem_cons.1 m with rfl | m'
    · rw [List.count_eq_zero.2 h.1]; simp
    · have : x ≠ e := fun q => h.1 (q ▸ m')
      rw [ih h.2 m']; simp [this]
theorem gone_once {L M : List En} (hf : FairP L) (hs : M.Sublist L) (n : Nat) (hn : 0 < n) (hl : n ≤ L.length) (e : En) (he : e ∈ M) :
    (((srt L).take n) ++ (srt M).filter (ltE (srt L)[n - 1]!)).count e = 1 := by
  have hN := fair_nodup hf
  have hNS : (srt L).Nodup := (srt_sorts L).1.nodup_iff.2 hN
  have hNM : (srt M).Nodup := (srt_sorts M).1.nodup_iff.2 (hs.nodup hN)
  have hd : (srt L).filter (ltE (srt L)[n - 1]!) = (srt L).drop n := by
    have := drop_of (X := srt L) (r := ltE) (srt_lt (fair_dis hf) hN) ltE_irrefl ltE_asym (n - 1) (by rw [srt_length]; omega)
    rw [this]; congr 1; omega
  have heL : e ∈ srt L := srt_mem.2 (hs.subset he)
  have heM : e ∈ srt M := srt_mem.2 he
  have hc1 : (srt L).count e = 1 := count_one hNS heL
  have hsp : (srt L).count e = ((srt L).take n).count e + ((srt L).drop n).count e := by rw [← List.count_append, List.take_append_drop]
  rw [List.count_append]
  have hcm : (srt M).count e = 1 := count_one hNM heM
  by_cases hlt : ltE (srt L)[n - 1]! e = true
  · rw [List.count_filter hlt, hcm]
    have : ((srt L).drop n).count e = 1 := by rw [← hd, List.count_filter hlt, hc1]
    omega
  · have h1 : ((srt M).filter (ltE (srt L)[n - 1]!)).count e = 0 := List.count_eq_zero.2 fun hm => hlt (List.mem_filter.1 hm).2
    have h2 : ((srt L).drop n).count e = 0 := by rw [← hd]; exact List.count_eq_zero.2 fun hm => hlt (List.mem_filter.1 hm).2
    omega
end Go.Proofs.Ytahnkkifegdjeaa
