/-
  Versions with rising ids, added and dropped: the mathematics of the law JournalAdds.
-/
import Derived.Test.YtfgngecenbopnaaDoorJnZ
import Derived.Test.YtfgngecenbopnaaDoorJnAa
import Derived.Test.YtfgngecenbopnaaDoorJnBa
namespace Go.Proofs.YtfgngecenbopnaaDoor
open Go.RowKit Crc
set_option linter.unusedVariables false

/-- A version that bears an id alone. -/
def idV (x : Int) : Ver := ⟨x, false, 0, 0⟩
theorem idV_fits {x : Int} (h0 : -1 ≤ x) (h1 : x ≤ 1000) : (idV x).fits := ⟨by show _ ≤ x; omega, by show x ≤ _; omega, by show (-9223372036854775808 : Int) ≤ 0; omega, by show (0 : Int) ≤ 9223372036854775807; omega, by show 0 < 4294967296; omega⟩
theorem mayV_idV {x : Int} (h0 : 0 ≤ x) (h1 : x ≤ 1000) : mayV (idV x) = true := mayV_iff.2 ⟨h0, by show x ≤ _; omega, by show (0 : Int) ≤ 0; omega, by show (0 : Int) ≤ 65536; omega, fun h => by cases h⟩
theorem lastId_upd (F : Nat → Ver) (n : Nat) (v : Ver) : lastId (upd F n v) n = lastId F n := by
  unfold lastId
  split
  · rfl
  · rw [upd_ne _ _ (by omega)]
/-- One more, with a greater id, may be. -/
theorem may_add {N n : Nat} {F : Nat → Ver} {x : Int} (h : mayJ 0 N n F = true) (hn : n < 64) (hl : lastId F n < x) (h0 : 0 ≤ x) (h1 : x ≤ 1000) : mayJ 0 N (n + 1) (upd F n (idV x)) = true := by
  obtain ⟨a, b, c, d, e⟩ := mayJ_iff.1 h
  refine mayJ_iff.2 ⟨a, b, c, by omega, mayR_succ ?_ ?_ ?_⟩
  · rw [mayR_congr (G := F) (fun i hi => upd_ne _ _ (by omega))]; exact e
  · rw [lastId_upd, upd_at]; exact hl
  · rw [upd_at]; exact mayV_idV h0 h1
/-- One more, with an id that is not greater, may not be. -/
theorem may_low {N n : Nat} {F : Nat → Ver} {x : Int} (hl : x ≤ lastId F n) : mayJ 0 N (n + 1) (upd F n (idV x)) = false := by
  cases h : mayJ 0 N (n + 1) (upd F n (idV x)) with
  | false => rfl
  | true =>
    have := mayR_at (k := n) (by omega) (mayJ_iff.1 h).2.2.2.2
    rw [lastId_upd, upd_at] at this
    have q : x ≤ lastId F n := hl
    have r : lastId F n < x := this.1
    omega
theorem lastId_add (F : Nat → Ver) (n : Nat) (x : Int) : lastId (upd F n (idV x)) (n + 1) = x := by rw [lastId_succ, upd_at]; rfl
/-- The ids rise. -/
theorem rise {F : Nat → Ver} {n : Nat} (h : mayR F n = true) : ∀ {i j : Nat}, i < j → j < n → (F i).id < (F j).id := by
  intro i j hij hj
  induction j with
  | zero => omega
  | succ j ih =>
    have := (mayR_at hj h).1
    rw [lastId_succ] at this
    by_cases e : i = j
    · subst e; exact this
    · have := ih (by omega) (by omega); omega
/-- The k-th is where its id is. -/
theorem pl_at {F : Nat → Ver} {n k : Nat} (h : mayR F n = true) (hk : k < n) : Pl F (F k).id n k := ⟨hk, rfl, fun j hj => by have := rise h hj hk; omega⟩
/-- What is left may be. -/
theorem may_drop {N n k : Nat} {F : Nat → Ver} (h : mayJ 0 N n F = true) (hk : k < n) : mayJ 0 N (n - 1) (dropF F k) = true := by
  obtain ⟨a, b, c, d, e⟩ := mayJ_iff.1 h
  refine mayJ_iff.2 ⟨a, b, c, by omega, ?_⟩
  have main : ∀ m, m ≤ n - 1 → mayR (dropF F k) m = true := fun m => by
    induction m with
    | zero => intro _; rfl
    | succ m ih =>
      intro hm
      have hv : mayV (dropF F k m) = true := by
        unfold dropF; split
        · exact (mayR_at (by omega) e).2
        · exact (mayR_at (by omega) e).2
      refine mayR_succ (ih (by omega)) ?_ hv
      have h0 : 0 ≤ (dropF F k m).id := (mayV_iff.1 hv).1
      unfold lastId
      split
      · omega
      · next hne =>
        unfold dropF
        split
        · split
          · exact rise e (by omega) (by omega)
          · exact rise e (by omega) (by omega)
        · split
          · omega
          · exact rise e (by omega) (by omega)
  exact main _ (Nat.le_refl _)
/-- It is not there again. -/
theorem no_again {n k : Nat} {F : Nat → Ver} (h : mayR F n = true) (hk : k < n) : No (dropF F k) (F k).id (n - 1) := fun j hj => by
  unfold dropF
  split
  · have := rise h (show j < k by omega) hk; omega
  · have := rise h (show k < j + 1 by omega) (show j + 1 < n by omega); omega
end Go.Proofs.YtfgngecenbopnaaDoor
