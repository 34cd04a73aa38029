/-
  What matrix.Vandermonde does: in row r, column c stands the c-th power of r.
-/
import Derived.Test.YtbfhmdphhhjlnaaGrid
namespace Go.Proofs.Ytbfhmdphhhjlnaa
open Go.RowKit Gf
attribute [local go_sem ↓] Go.wp_at_zero Go.wp_at_succ

/-- The powers. -/
def V : Nat → Nat → Nat := fun i j => P i j
theorem V_B : B V := fun _ _ => P_lt _

set_option maxRecDepth 100000 in
theorem vander_no (n m : Int) (w : World) (hno : ¬ ((1 ≤ n ∧ n ≤ 255) ∧ 1 ≤ m ∧ m ≤ 255)) :
    Calls Try.prog 41 #[.int .i64 n, .int .i64 m] w fun e w' => e = .returned (.slice none 0 0) ∧ Below w.heap.size w w' := by
  have z := fun w => zeros_no n m w hno
  clear hno
  go_enter Try.func41, Try.ntmps41
  go_wp2_with fail
  go_at_call 25
  refine (new_any _).mono ?_
  rintro e w1 ⟨rfl, hu, hb1⟩
  go_wp2_with fail
  go_at_call 53
  refine (z _).mono ?_
  rintro e w' ⟨rfl, rfl⟩
  clear hu z
  go_wp2
  go_loop [16] (fun v => v = .int .i64 0) (fun _ => 0)
  case atStart => rfl
  case round =>
    subst hrel
    go_wp2
    go_ret
    exact ⟨rfl, hb1⟩

set_option maxRecDepth 100000 in
set_option maxHeartbeats 1000000 in
theorem vander_yes (n m : Nat) (w : World) (n1 : 1 ≤ n) (n2 : n ≤ 255) (m1 : 1 ≤ m) (m2 : m ≤ 255) :
    Calls Try.prog 41 #[.int .i64 n, .int .i64 m] w fun e w' => ∃ h, e = .returned (.slice (some ⟨h, 0, none⟩) n n) ∧ w.heap.size ≤ h ∧ Grid w' h n m V ∧ Below w.heap.size w w' := by
  have z := fun w => zeros_yes n m w n1 n2 m1 m2
  go_enter Try.func41, Try.ntmps41
  go_wp2_with fail
  go_at_call 25
  refine (new_any _).mono ?_
  rintro e w1 ⟨rfl, hu, hb1⟩
  go_wp2_with fail
  go_at_call 53
  refine (z _).mono ?_
  rintro e w2 ⟨rfl, hg2, hb2, hs2⟩
  have ht := hu.tab
  have hsz := hb1.size
  have hlt1 : w.heap.size < w1.heap.size := block_lt_of_cell ht.one
  clear z hu
  generalize hH : w1.heap.size = h at *
  clear hs2
  go_wp2
  go_loopw [16] (fun v wr => ∃ k : Nat, k ≤ n ∧ v = .int .i64 k ∧ Grid wr h n m (fun i j => if i < k then V i j else 0) ∧ Below h w1 wr) (fun v _ => n - (intOf v).toNat)
  case atStart => exact ⟨0, by omega, rfl, hg2.congr fun i _ j _ => by rw [if_neg (by omega)], hb2⟩
  case round =>
    obtain ⟨k, hk, rfl, hh, hb⟩ := hrel
    clear hg2 hb2
    by_cases hlt : k < n
    · have ik : (k : Int) < (n : Int) := by omega
      have ck := hh.hdr k hlt
      have HG : Hid (Grid wr h n m (fun i j => if i < k ∨ (i = k ∧ j < 0) then V i j else 0)) := hh.congr fun i _ j _ => by
        by_cases e : i < k
        · rw [if_pos e, if_pos (.inl e)]
        · rw [if_neg e, if_neg (by omega)]
      clear hh
      go_wp2
      clear ck
      go_loopw [23] (fun v wr => ∃ t : Nat, t ≤ m ∧ v = .int .i64 t ∧ Grid wr h n m (fun i j => if i < k ∨ (i = k ∧ j < t) then V i j else 0) ∧ Below h w1 wr) (fun v _ => m - (intOf v).toNat)
      case atStart => exact ⟨0, by omega, rfl, HG.out, hb⟩
      case round =>
        obtain ⟨t, htm, rfl, hh, hbr⟩ := hrel
        clear HG hb
        by_cases hlt2 : t < m
        · have it : (t : Int) < (m : Int) := by omega
          have dk := hh.cell k hlt t hlt2
          have fk := hh.soft k hlt t hlt2
          have hT := ht.keep hbr hlt1
          have cP := pow_any w.heap.size k t wr hT (by omega) (by omega) (by omega)
          rw [pw_P' (by omega) (by omega)] at cP
          have lP := P_lt (a := k) t
          have HV : Hid (V k t = P k t) := rfl
          have H2 : Hid (Grid (wr.setCell ⟨h + 1 + k, t, none⟩ (.int .u8 ((P k t : Nat) : Int))) h n m (fun i j => if i < k ∨ (i = k ∧ j < t + 1) then V i j else 0)) := by
            refine (hh.put hlt hlt2).congr fun i hi j hj => ?_
            unfold put
            by_cases e : i = k ∧ j = t
            · rw [if_pos e, if_pos (by omega), e.1, e.2]; rfl
            · rw [if_neg e]
              dsimp only
              by_cases e2 : i < k ∨ (i = k ∧ j < t)
              · rw [if_pos e2, if_pos (by omega)]
              · rw [if_neg e2, if_neg (by omega)]
          have HB : Hid (Below h w1 (wr.setCell ⟨h + 1 + k, t, none⟩ (.int .u8 ((P k t : Nat) : Int)))) := hbr.setCell (p := ⟨h + 1 + k, t, none⟩) (by simp; omega) _
          clear hh hbr hT
          obtain ⟨u, du⟩ : ∃ u, wr.cell? ⟨h + 1 + k, t, none⟩ = some u := ⟨_, dk⟩
          clear dk HV
          generalize P k t = p at *
          generalize h + 1 + k = B1 at *
          go_wp2_with fail
          go_at_call 54
          refine cP.mono ?_
          rintro e w' ⟨rfl, rfl⟩
          go_wp2
          go_round
          case rel => exact ⟨t + 1, by omega, by go_num, H2.out, HB.out⟩
          case measure => simp [intOf]; omega
        · have : t = m := by omega
          subst this
          have HH : Hid (Grid wr h n t (fun i j => if i < k + 1 then V i j else 0)) := hh.congr fun i hi j hj => by
            by_cases e : i < k + 1
            · rw [if_pos e, if_pos (by omega)]
            · rw [if_neg e, if_neg (by omega)]
          clear hh
          go_wp2
          go_round
          case rel => exact ⟨k + 1, by omega, by go_num, HH.out, hbr⟩
          case measure => simp [intOf]; omega
    · have : k = n := by omega
      subst this
      have HH : Hid (Grid wr h k m V) := hh.congr fun i hi j hj => by rw [if_pos hi]
      clear hh
      go_wp2
      go_ret
      exact ⟨h, rfl, hsz, HH.out, hb1.trans (hb.mono hsz)⟩
end Go.Proofs.Ytbfhmdphhhjlnaa
