/-
  The tables of unicode/utf8 out of the row's condition; utf8.ValidString; the first sentence of each law of layer 6 (awake) is true.
-/
import Derived.Test.YtighljdeaofanaaDoorLv
import Derived.Test.YtighljdeaofanaaDoorPmA
import Derived.Test.YtighljdeaofanaaDoorPmP
import Derived.Test.YtighljdeaofanaaDoorPmU
import Derived.Test.YtighljdeaofanaaDoorPmN
import Derived.Test.YtighljdeaofanaaDoorPmK
import Derived.Test.YtighljdeaofanaaDoorPmT
import Derived.Lib.LaidU8T
import Derived.PinnedBridge
import Derived.Lay
import Derived.LaidMore
import Derived.MakeChecks
import Derived.Stop.Joined
namespace Go.Proofs.YtighljdeaofanaaDoor
open Go.RowKit Go.Proofs.YtighljdeaofanaaDoor.Nm
attribute [local go_sem ↓] Go.wp_at_zero Go.wp_at_succ
set_option linter.unusedVariables false

def laidAll : List (String × DataW Unit) := [("unicode/utf8.acceptRanges", Rows.laid_unicode_utf8_acceptRanges), ("unicode/utf8.first", Rows.laid_unicode_utf8_first)]
/-- The tables of unicode/utf8 lie as they should. -/
def Tabs (w : World) : Prop := Lib.Utf8Tabs (Tryd.laysValid_ren.g 3) (Tryd.laysValid_ren.g 4) w
theorem accept_eq : (Rows.laid_unicode_utf8_acceptRanges : DataW Unit) = Lib.acceptData := by kernel_rfl
theorem u8x : U8Extra Tryd.prog Tryd.laysValid_ren := ⟨by kernel_rfl, by kernel_rfl, by kernel_rfl, by kernel_rfl, by kernel_rfl, by kernel_rfl, by kernel_rfl⟩
theorem tabs_of {W : World} (h : laidMetH Tryd.prog laidAll W) : Tabs W := by
  rw [MakeChecks.laidMetH_plain _ _ _ (by kernel_rfl)] at h
  have h1 : Lib.VarReads Tryd.prog W "unicode/utf8.first" Rows.laid_unicode_utf8_first := Lib.laidMet.reads h (List.mem_cons_of_mem _ (List.mem_cons_self ..))
  have h2 : Lib.VarReads Tryd.prog W "unicode/utf8.acceptRanges" Rows.laid_unicode_utf8_acceptRanges := Lib.laidMet.reads h (List.mem_cons_self ..)
  rw [show Rows.laid_unicode_utf8_first = Lib.firstData from Pinned.utf8First_eq] at h1
  rw [accept_eq] at h2
  exact utf8Tabs_of_readsT (U8Types.of196 Tryd.laysValid) u8x h1 h2
theorem Tabs.keep {w w' : World} (T : Tabs w) (hb : Below w.heap.size w w') : Tabs w' :=
  ⟨fun c hc => (hb.cell (block_lt_of_cell (T.1 c hc))).trans (T.1 c hc), fun i hi => ⟨(hb.cell (block_lt_of_cell (T.2 i hi).1)).trans (T.2 i hi).1, (hb.cell (block_lt_of_cell (T.2 i hi).2)).trans (T.2 i hi).2⟩⟩
theorem valid_any (s : ByteArray) (w : World) (hs : s.size ≤ 1000000) (T : Tabs w) :
    Calls Tryd.prog 25 #[.string s] w fun e w' => e = .returned (.bool (Lib.validD (tx s))) ∧ Below w.heap.size w w' :=
  Any.utf8_ValidString Tryd.laysValid s w (by omega) T
theorem door_met (os : Os) (args : Array Value) : laidMetH Tryd.prog laidAll ((World.laidAll Tryd.prog os laidAll).forCall (fun _ _ => 0) ⟨#[], args, []⟩).memory := by
  rw [MakeChecks.laidMetH_plain _ _ _ (by kernel_rfl)]
  exact laidMet_laidAll _ (by kernel_rfl) (by kernel_rfl)

theorem bucketK (s : ByteArray) (w : World) (hs : s.size ≤ 1000000) (T : Tabs w) : Calls Tryd.prog 12 #[.string s] w fun e w' => e = .returned (.bool (bkt (tx s))) ∧ Below w.heap.size w w' :=
  bucket_any s w hs (valid_any s w hs T)
theorem keyK (s : ByteArray) (w : World) (hs : s.size ≤ 1000000) (T : Tabs w) : Calls Tryd.prog 11 #[.string s] w fun e w' => e = .returned (.bool (ky (tx s))) ∧ Below w.heap.size w w' :=
  key_any s w hs (valid_any s w hs T)
theorem tx_of {r : ByteArray} {l : List UInt8} (h : tx r = l) : r = ⟨l.toArray⟩ := tx_inj (by rw [h]; unfold tx; simp)

set_option maxRecDepth 100000 in
set_option maxHeartbeats 1000000 in
theorem awake_any (w : World) (T : Tabs w) : Calls Tryd.prog 9 #[] w fun e w' => e = .returned (.bool true) ∧ Below w.heap.size w w' := by
  have b1 : bkt (tx ⟨#[97, 46, 98]⟩) = true := by decide +kernel
  have b2 : bkt (tx ⟨#[97, 45, 46, 98]⟩) = false := by decide +kernel
  have b3 : ky (tx ⟨#[195, 169]⟩) = true := by decide +kernel
  have b4 : pth (tx ⟨#[97, 98]⟩) = [54, 49, 54, 50] := by decide +kernel
  have b5 : nx (tx ⟨#[97, 98]⟩) = [97, 99] := by decide +kernel
  have c1 := fun W (q : Tabs W) => bucketK ⟨#[97, 46, 98]⟩ W (by decide) q
  have c2 := fun W (q : Tabs W) => bucketK ⟨#[97, 45, 46, 98]⟩ W (by decide) q
  have c3 := fun W (q : Tabs W) => keyK ⟨#[195, 169]⟩ W (by decide) q
  have c4 := fun W => path_any ⟨#[97, 98]⟩ W (by decide)
  have c5 := fun W => next_any ⟨#[97, 98]⟩ W (by decide)
  rw [b1] at c1
  rw [b2] at c2
  rw [b3] at c3
  rw [b4] at c4
  rw [b5] at c5
  clear b1 b2 b3 b4 b5
  have HT : Hid (Tabs w) := T
  clear T
  go_enter Tryd.func9, Tryd.ntmps9
  go_wp2_with fail
  go_at_call 12
  refine (c1 _ HT.out).mono ?_
  rintro e w1 ⟨rfl, h1⟩
  go_wp2_with fail
  go_at_call 12
  refine (c2 _ (HT.out.keep h1)).mono ?_
  rintro e w2 ⟨rfl, h2⟩
  have k2 := hop h1 h2
  clear h1 h2
  go_wp2_with fail
  go_at_call 11
  refine (c3 _ (HT.out.keep k2)).mono ?_
  rintro e w3 ⟨rfl, h3⟩
  have k3 := hop k2 h3
  clear h3 k2
  go_wp2_with fail
  go_at_call 17
  refine (c4 _).mono ?_
  rintro e w4 ⟨r, rfl, hr, h4⟩
  have k4 := hop k3 h4
  obtain rfl := tx_of hr
  clear h4 k3 hr
  go_wp2_with fail
  go_at_call 13
  refine (c5 _).mono ?_
  rintro e w5 ⟨r, rfl, hr, h5⟩
  have k5 := hop k4 h5
  obtain rfl := tx_of hr
  clear h5 k4 hr
  go_wp2
  go_ret
  exact ⟨rfl, k5⟩
end Go.Proofs.YtighljdeaofanaaDoor
