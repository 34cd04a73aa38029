/-
  What a Save, a Voice make of a disk of few files, on a fuse that was not set.
-/
import Derived.Test.YtebngmgdciahiaaGreatDoorArE
set_option maxRecDepth 100000
namespace Go.Proofs.YtebngmgdciahiaaGreatDoor
open Go.RowKit Crc
open _root_.Go.Proofs.YtebngmgdciahiaaGreatDoor.Nm _root_.Go.Proofs.YtebngmgdciahiaaGreatDoor.Dk
set_option linter.unusedVariables false

/-- A fuse that was not set. -/
def cz (d : Int) : Option Fz := some ⟨0, d, false⟩
theorem cz_tick (d : Int) : tickO (cz d) = cz (d + 1) := rfl
theorem cz0 : some z0 = cz 0 := rfl
def s1 (l : List Fl) (mo : Int) : St := ⟨l, mo, false, 0⟩
theorem s1_new : newSt 1000 = s1 [] 1000 := rfl
theorem ask_cz (d : Int) (l : List Fl) (mo : Int) (ps : List ByteArray) (h : ps.all okPath = true) : askZ (cz d) (s1 l mo) ps = (0, cz (d + 1), s1 l mo) := by
  show ((askD (s1 l mo) ps).1, _, (askD (s1 l mo) ps).2) = _
  have e : askD (s1 l mo) ps = (0, s1 l mo) := by
    show (if ps.all okPath = true then _ else _) = _
    rw [if_pos h]
  rw [e]; rfl
theorem wri_cz (d : Int) (l : List Fl) (mo : Int) (x b : ByteArray) (hx : okPath x = true) (hb : b.size ≤ 262144) (hm : ((used l : Nat) : Int) + ((b.size : Nat) : Int) - ((oldN (s1 l mo) x : Nat) : Int) ≤ mo) (hl : l.length < 4096) : wriZ (cz d) (s1 l mo) x b = (0, s1 (Dk.put l ⟨x, b, false⟩) mo) := by
  unfold wriZ
  rw [ask_cz d l mo [x] (by simp [hx])]
  have hf : full (s1 l mo) x b = false := by
    unfold full
    rw [Bool.or_eq_false_iff]
    refine ⟨decide_eq_false (by show ¬ mo < ((used l : Nat) : Int) + _ - _; omega), ?_⟩
    rw [Bool.and_eq_false_iff]
    exact .inr (decide_eq_false (by show ¬ 4096 ≤ l.length; omega))
  rw [if_neg (fun e => e rfl), if_neg (by omega), if_neg (by rw [hf]; decide)]
  rfl
theorem syn_cz (d : Int) (l : List Fl) (mo : Int) (x : ByteArray) (hx : okPath x = true) (ht : there x l = true) : synZ (cz d) (s1 l mo) x = (0, s1 (Go.Proofs.YtebngmgdciahiaaGreatDoor.setSure l (place x l)) mo) := by
  unfold synZ
  rw [ask_cz d l mo [x] (by simp [hx])]
  rw [if_neg (fun e => e rfl), if_pos (by exact ht)]
  rfl
theorem ren_cz (d : Int) (l : List Fl) (mo : Int) (x y : ByteArray) (hx : okPath x = true) (hy : okPath y = true) (ht : there x l = true) : renZ (cz d) (s1 l mo) x y = (0, s1 (renS l x y) mo) := by
  unfold renZ
  rw [ask_cz d l mo [x, y] (by simp [hx, hy])]
  rw [if_neg (fun e => e rfl), if_pos (by exact ht)]
  rfl
theorem rea_cz (d : Int) (l : List Fl) (mo : Int) (x : ByteArray) (hx : okPath x = true) (ht : there x l = true) : readZ (cz d) (s1 l mo) x = (dataAt x l, 0) := by
  unfold readZ
  rw [ask_cz d l mo [x] (by simp [hx])]
  rw [if_neg (fun e => e rfl), if_pos (by exact ht)]
  rfl
theorem rea_cz_no (d : Int) (l : List Fl) (mo : Int) (x : ByteArray) (hx : okPath x = true) (ht : there x l = false) : readZ (cz d) (s1 l mo) x = (⟨#[]⟩, 6) := by
  unfold readZ
  rw [ask_cz d l mo [x] (by simp [hx])]
  rw [if_neg (fun e => e rfl), if_neg (by rw [show there x (s1 l mo).fs = false from ht]; decide)]
/-- A Save on a disk with no file, or with that one. -/
theorem sav0 (d mo : Int) (b : ByteArray) (hb : b.size ≤ 262144) (hm : ((b.size : Nat) : Int) ≤ mo) : savZ (cz d) (s1 [] mo) pFmt b = (0, cz (d + 1 + 1 + 1), s1 [⟨pFmt, b, true⟩] mo) := by
  have h1 := wri_cz d [] mo pTmp b rfl hb (by show ((0 : Nat) : Int) + _ - ((0 : Nat) : Int) ≤ mo; omega) (by decide)
  have h2 := syn_cz (d + 1) [⟨pTmp, b, false⟩] mo pTmp rfl rfl
  have h3 := ren_cz (d + 1 + 1) [⟨pTmp, b, true⟩] mo pTmp pFmt rfl rfl rfl
  have e1 : Dk.put [] ⟨pTmp, b, false⟩ = [⟨pTmp, b, false⟩] := rfl
  have e2 : Go.Proofs.YtebngmgdciahiaaGreatDoor.setSure [⟨pTmp, b, false⟩] (place pTmp [⟨pTmp, b, false⟩]) = [⟨pTmp, b, true⟩] := rfl
  have e3 : renS [⟨pTmp, b, true⟩] pTmp pFmt = [⟨pFmt, b, true⟩] := rfl
  rw [e1] at h1
  rw [e2] at h2
  rw [e3] at h3
  unfold savZ
  rw [h1, cz_tick]
  dsimp only
  rw [if_neg (fun e => e rfl), h2, cz_tick]
  dsimp only
  rw [if_neg (fun e => e rfl), h3, cz_tick]
theorem sav1 (d mo : Int) (b b0 : ByteArray) (x : Bool) (hb : b.size ≤ 262144) (hm : ((b0.size : Nat) : Int) + ((b.size : Nat) : Int) ≤ mo) : savZ (cz d) (s1 [⟨pFmt, b0, x⟩] mo) pFmt b = (0, cz (d + 1 + 1 + 1), s1 [⟨pFmt, b, true⟩] mo) := by
  have h1 := wri_cz d [⟨pFmt, b0, x⟩] mo pTmp b rfl hb (by show ((b0.size + 0 : Nat) : Int) + _ - ((0 : Nat) : Int) ≤ mo; omega) (by show 1 < 4096; omega)
  have h2 := syn_cz (d + 1) [⟨pFmt, b0, x⟩, ⟨pTmp, b, false⟩] mo pTmp rfl rfl
  have h3 := ren_cz (d + 1 + 1) [⟨pFmt, b0, x⟩, ⟨pTmp, b, true⟩] mo pTmp pFmt rfl rfl rfl
  have e1 : Dk.put [⟨pFmt, b0, x⟩] ⟨pTmp, b, false⟩ = [⟨pFmt, b0, x⟩, ⟨pTmp, b, false⟩] := rfl
  have e2 : Go.Proofs.YtebngmgdciahiaaGreatDoor.setSure [⟨pFmt, b0, x⟩, ⟨pTmp, b, false⟩] (place pTmp [⟨pFmt, b0, x⟩, ⟨pTmp, b, false⟩]) = [⟨pFmt, b0, x⟩, ⟨pTmp, b, true⟩] := rfl
  have e3 : renS [⟨pFmt, b0, x⟩, ⟨pTmp, b, true⟩] pTmp pFmt = [⟨pFmt, b, true⟩] := rfl
  rw [e1] at h1
  rw [e2] at h2
  rw [e3] at h3
  unfold savZ
  rw [h1, cz_tick]
  dsimp only
  rw [if_neg (fun e => e rfl), h2, cz_tick]
  dsimp only
  rw [if_neg (fun e => e rfl), h3, cz_tick]
/-- A Voice on such a disk. -/
theorem voi0 (d mo : Int) (f : ByteArray) : voiZ (cz d) (s1 [] mo) f = (false, 0) ∧ (askZ (cz d) (s1 [] mo) [pFmt]).2.2 = s1 [] mo := by
  refine ⟨?_, by rw [ask_cz d [] mo [pFmt] rfl]⟩
  unfold voiZ
  rw [rea_cz_no d [] mo pFmt rfl rfl]
  rfl
theorem voi1 (d mo : Int) (b f : ByteArray) (x : Bool) : voiZ (cz d) (s1 [⟨pFmt, b, x⟩] mo) f = (decide (b = f), 0) ∧ (askZ (cz d) (s1 [⟨pFmt, b, x⟩] mo) [pFmt]).2.2 = s1 [⟨pFmt, b, x⟩] mo := by
  refine ⟨?_, by rw [ask_cz d _ mo [pFmt] rfl]⟩
  unfold voiZ
  rw [rea_cz d [⟨pFmt, b, x⟩] mo pFmt rfl rfl]
  rfl
/-- One voice more. -/
def vst (k m j : Nat) (r : List Nat × Option Fz × (Nat → St)) : List Nat × Option Fz × (Nat → St) := ((if (voiZ r.2.1 (r.2.2 j) (fmtB k m j)).1 = true then r.1 ++ [j] else r.1), tickO r.2.1, up r.2.2 j (askZ r.2.1 (r.2.2 j) [pFmt]).2.2)
theorem vcs_vst (k m : Nat) (z : Option Fz) (S : Nat → St) (j : Nat) : vcs k m z S (j + 1) = vst k m j (vcs k m z S j) := rfl
/-- The voices of disks that each by itself has one or has none. -/
theorem vcs_gen {k m n : Nat} {d0 : Int} {S N : Nat → St} {V : Nat → Bool} (h : ∀ i, i < n → ∀ d, (voiZ (cz d) (S i) (fmtB k m i)).1 = V i ∧ (askZ (cz d) (S i) [pFmt]).2.2 = N i) : ∀ j, j ≤ n → vcs k m (cz d0) S j = ((List.range j).filter V, cz (d0 + (j : Int)), fun i => if i < j then N i else S i)
  | 0, _ => by
    show ([], cz d0, S) = _
    have e1 : d0 + ((0 : Nat) : Int) = d0 := by omega
    rw [e1]
    simp
  | j + 1, hj => by
    rw [vcs_vst, vcs_gen h j (by omega)]
    obtain ⟨h1, h2⟩ := h j (by omega) (d0 + (j : Int))
    unfold vst
    simp only [Nat.lt_irrefl, if_false, h1, h2]
    refine Prod.ext ?_ (Prod.ext ?_ ?_)
    · show (if V j = true then _ else _) = _
      rw [List.range_succ, List.filter_append]
      by_cases hv : V j = true
      · rw [if_pos hv, List.filter_cons_of_pos hv]; rfl
      · rw [if_neg hv, List.filter_cons_of_neg hv]; simp
    · show cz (d0 + (j : Int) + 1) = cz (d0 + ((j + 1 : Nat) : Int))
      congr 1
      omega
    · funext i
      dsimp only
      by_cases e : i = j
      · subst e
        rw [up_at, if_pos (by omega)]
      · rw [up_of _ _ e]
        by_cases l : i < j
        · rw [if_pos l, if_pos (by omega)]
        · rw [if_neg l, if_neg (by omega)]
end Go.Proofs.YtebngmgdciahiaaGreatDoor
