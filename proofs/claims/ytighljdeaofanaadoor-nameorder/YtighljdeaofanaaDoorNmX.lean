/-
  What the document's Next of layer 6 answers.
-/
import Derived.Test.YtighljdeaofanaaDoorNmR
import Derived.Test.YtighljdeaofanaaDoorByt
namespace Go.Proofs.YtighljdeaofanaaDoor
open Go.RowKit Nm
attribute [local go_sem ↓] Go.wp_at_zero Go.wp_at_succ
set_option linter.unusedVariables false

theorem ff_app (a b : List UInt8) : ff (a ++ b) = (ff a && ff b) := by
  induction a with
  | nil => rfl
  | cons x t ih => show ff (x :: (t ++ b)) = _; rw [ff_cons, ff_cons, ih, Bool.and_assoc]
theorem nx_form (q t : List UInt8) (x : UInt8) (ht : ff t = true) (hx : x ≠ 255) : nx (q ++ x :: t) = q ++ [x + 1] := by
  induction q with
  | nil => show nx (x :: t) = _; rw [nx_cons, if_pos ht, if_neg hx]; rfl
  | cons y q ih =>
    show nx (y :: (q ++ x :: t)) = _
    rw [nx_cons, if_neg (by rw [ff_app, ff_cons]; simp [hx]), ih]
    rfl

set_option maxRecDepth 100000 in
set_option maxHeartbeats 1000000 in
theorem rnext_any (p : ByteArray) (w : World) (hp : p.size ≤ 1000000) :
    Calls Tryd.prog 23 #[.string p] w fun e w' => ∃ r, e = .returned (.string r) ∧ tx r = nx (tx p) ∧ Below w.heap.size w w' := by
  go_enter Tryd.func23, Tryd.ntmps23
  go_wp2
  go_loop [3] (fun i => ∃ k : Nat, k ≤ p.size ∧ i = .int .i64 (k : Int) ∧ ff ((tx p).drop k) = true) (fun i => (intOf i).toNat)
  case atStart => exact ⟨p.size, by omega, rfl, by rw [List.drop_eq_nil_of_le (by rw [tx_length]; omega)]; rfl⟩
  case round =>
    obtain ⟨k, hk, rfl, hf⟩ := hrel
    by_cases h0 : k = 0
    · subst h0
      have HN : Hid (nx (tx p) = []) := (nx_nil _).2 (by simpa using hf)
      clear hf
      go_wp2
      go_ret
      exact ⟨_, rfl, HN.out.symm, Below.refl _ _⟩
    · obtain ⟨m, rfl⟩ : ∃ m, k = m + 1 := ⟨k - 1, by omega⟩
      have hm : m < p.size := by omega
      have hd := tx_drop p m hm
      have i0 : (0 : Int) < ((m + 1 : Nat) : Int) := by omega
      have e1 : ((m + 1 : Nat) : Int) - 1 = (m : Int) := by omega
      have im : (m : Int) < (p.size : Int) := by omega
      obtain ⟨x, hx⟩ : ∃ x, p[m] = x := ⟨_, rfl⟩
      have hxt : (p[m].toNat : Int) = (x.toNat : Int) := by rw [hx]
      by_cases h5 : x = 255
      · have HH : Hid (ff ((tx p).drop m) = true) := by unfold Hid; rw [hd, ff_cons, hf, hx, h5]; rfl
        have g5 : ((x.toNat : Int) == 255) = true := by rw [h5]; rfl
        clear hf hd h5
        go_wp2
        go_round
        case rel => exact ⟨m, by omega, by go_num, HH.out⟩
        case measure => simp [intOf]
      · have HN : Hid (nx (tx p) = (tx p).take m ++ [x + 1]) := by
          have e := List.take_append_drop m (tx p)
          unfold Hid
          rw [hd, hx] at e
          exact (congrArg nx e.symm).trans (nx_form _ _ x hf h5)
        have g5 : ((x.toNat : Int) == 255) = false := by
          have := u8_ne h5
          have h255 : (255 : UInt8).toNat = 255 := rfl
          simp; omega
        have hi := inc_toNat h5
        have hl := x.toNat_lt
        have hx254 : x.toNat ≤ 254 := by
          have := u8_ne h5
          have h255 : (255 : UInt8).toNat = 255 := rfl
          omega
        have im2 : (x.toNat : Int) ≤ 254 := by omega
        have w1 : IntKind.i64.wrap (m : Int) = (m : Int) := by rw [IntKind.wrap_i64]; omega
        have w2 : IntKind.u8.wrap ((x.toNat : Int) + 1) = (x.toNat : Int) + 1 := by rw [IntKind.wrap_u8]; omega
        have c1 : (0 ≤ (m : Int) ∧ (m : Int) ≤ (p.size : Int)) := ⟨by omega, by omega⟩
        have c2 : (0 ≤ (m : Int) ∧ (m : Int) < (p.size : Int)) := ⟨by omega, by omega⟩
        obtain ⟨sx, hsx⟩ : ∃ sx, sx = str (fun _ => x.toNat + 1) 1 := ⟨_, rfl⟩
        have cv : Sem.run Tryd.prog (convert 30 9 (.slice (some ⟨w.heap.size, 0, none⟩) 1 1)) (w.alloc (.cells #[.int .u8 ((x.toNat : Int) + 1)] 5)).drew = .ok (.string sx) (w.alloc (.cells #[.int .u8 ((x.toNat : Int) + 1)] 5)).drew := by
          rw [hsx]
          exact conv_row (c := 1) ((lit1 w (x.toNat + 1) (by omega)).keep (Below.refl _ _).drew) (fun e => by cases e)
        have HS : Hid (tx sx = [x + 1]) := by
          unfold Hid
          rw [hsx, ← hi]
          show [UInt8.ofNat (((x + 1).toNat : Int)).toNat] = [x + 1]
          rw [Int.toNat_natCast, UInt8.ofNat_toNat]
        have l1 : sx.size = 1 := by rw [hsx]; unfold str; rw [strOfNums_size]; rfl
        have l2 : ¬ (9223372036854775807 < min m p.size + sx.size) := by rw [l1]; omega
        have l3 : (9223372036854775807 < min m p.size + 1) = False := eq_false (by omega)
        clear hf hd h5 hsx
        go_wp2
        go_region
        go_wp2
        go_ret
        refine ⟨_, rfl, ?_, ((bal w _).trans (Below.refl _ _).drew)⟩
        rw [HN.out, ← HS.out]
        unfold tx
        simp

end Go.Proofs.YtighljdeaofanaaDoor
