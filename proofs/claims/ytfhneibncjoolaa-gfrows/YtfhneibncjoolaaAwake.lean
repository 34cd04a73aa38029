/-
  What the statements' own first sentence (awake) does: it answers true, and changes nothing that was there.
-/
import Derived.Test.YtfhneibncjoolaaMul
namespace Go.Proofs.Ytfhneibncjoolaa
open Go.RowKit Gf

set_option maxRecDepth 100000 in
set_option maxHeartbeats 400000 in
theorem awake_any (w : World) :
    Calls Try.prog 9 #[] w fun e w' => e = .returned (.bool true) ∧ Below w.heap.size w w' := by
  have hM : ∀ w, Calls Try.prog 20 #[.int .u8 128, .int .u8 2] w fun e w' => e = .returned (.int .u8 29) ∧ w = w' := by
    intro w
    have := mul_any 128 2 w (by omega) (by omega)
    rw [show M 128 2 = 29 by decide +kernel] at this
    exact this
  have hE : ∀ w b, Tab w b → Calls Try.prog 14 #[.pointer (some ⟨b, 0, none⟩), .int .i64 8] w fun e w' => e = .returned (.int .u8 29) ∧ w = w' := by
    intro w b t
    have := exp_any b 8 w t (by omega) (by omega)
    rw [show E (8 % 255 : Int).toNat = 29 by decide +kernel] at this
    exact this
  have hI : ∀ w b, Tab w b → Calls Try.prog 16 #[.pointer (some ⟨b, 0, none⟩), .int .u8 2] w fun e w' => e = .returned (.tuple #[.int .u8 142, .bool true]) ∧ ∃ n, w' = w.drewN n := by
    intro w b t
    have := inv_any b 2 w t (by omega)
    rw [show dv 1 2 = 142 by decide +kernel] at this
    exact this
  go_enter Try.func9, Try.ntmps9
  go_wp2_with (go_at_call 10; refine (new_any _).mono ?_; rintro e w1 ⟨rfl, hu, hb⟩)
  have ht := hu.tab
  clear hu
  go_wp2_with (first | (go_at_call 16; refine (hI _ _ ht).mono ?_; rintro e w2 ⟨rfl, n, rfl⟩) | (go_at_call 20; refine (hM _).mono ?_; rintro e w2 ⟨rfl, rfl⟩) | (go_at_call 14; refine (hE _ _ (ht.drewN n)).mono ?_; rintro e w2 ⟨rfl, rfl⟩))
  go_ret
  exact ⟨rfl, below_drewN hb _⟩
end Go.Proofs.Ytfhneibncjoolaa
