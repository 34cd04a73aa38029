/-
  awake of layer 10.
-/
import Derived.Test.YthkhkijdehbbmaaSmW
import Derived.Lib.SlBytesConst
set_option maxRecDepth 100000
namespace Go.Proofs.Ythkhkijdehbbmaa
open Go.RowKit
open _root_.Go.Proofs.Ythkhkijdehbbmaa.Nm _root_.Go.Proofs.Ythkhkijdehbbmaa.Dk
attribute [local go_sem ↓] Go.wp_at_zero Go.wp_at_succ
set_option linter.unusedVariables false

def tA : ByteArray := ⟨#[97]⟩
def tB : ByteArray := ⟨#[98]⟩
def xy : ByteArray := ⟨#[120, 121]⟩
def aS0 : St := ⟨[], 100, false, 0⟩
def aS1 : St := ⟨[⟨tA, xy, false⟩], 100, false, 0⟩
def aS2 : St := ⟨[⟨tA, xy, true⟩], 100, false, 0⟩
def aS3 : St := ⟨[⟨tB, xy, true⟩], 100, false, 0⟩
def aZ (n : Int) : Option Fz := some ⟨0, n, false⟩
theorem aw0 : newSt 100 = aS0 := rfl
theorem aw1 : wriZ (aZ 0) aS0 tA xy = (0, aS1) := by rfl
theorem aw1z : (askZ (aZ 0) aS0 [tA]).2.1 = aZ 1 := by rfl
theorem aw2 : synZ (aZ 1) aS1 tA = (0, aS2) := by rfl
theorem aw2z : (askZ (aZ 1) aS1 [tA]).2.1 = aZ 2 := by rfl
theorem aw3 : renZ (aZ 2) aS2 tA tB = (0, aS3) := by rfl
theorem aw3z : (askZ (aZ 2) aS2 [tA, tB]).2.1 = aZ 3 := by rfl
theorem aw4 : ({ aS3 with fs := crashS 0 aS3.fs } : St) = aS3 := by rfl
theorem aw5 : readZ (aZ 3) aS3 tB = (xy, 0) := by rfl
theorem aw5s : (askZ (aZ 3) aS3 [tB]).2.2 = aS3 := by rfl
theorem aw5z : (askZ (aZ 3) aS3 [tB]).2.1 = aZ 4 := by rfl
theorem awb (n : Int) (h : 0 ≤ n) (h1 : n ≤ 100) : Zb (aZ n) := fun y e => by
  injection e with e
  subst e
  exact ⟨h, by show n ≤ _; omega⟩
theorem lit2 (w : World) : Inp (w.alloc (.cells #[.int .u8 120, .int .u8 121] 5 (2, 3))) (some ⟨w.heap.size, 0, none⟩) 2 2 xy := by
  refine ⟨⟨fun i => if i = 0 then 120 else 121, fun i => ?_, ⟨fun i => ?_, fun _ => ⟨w.heap.size, 0, rfl, fun i hi => ?_⟩⟩, by rfl⟩, rfl, fun e => by cases e⟩
  · show (if i = 0 then 120 else 121) < 256
    split <;> omega
  · show (if i = 0 then 120 else 121) < 256
    split <;> omega
  · match i, hi with
    | 0, _ => exact cell_of_row _ w.heap.size 0 _ _ _ (heap_alloc_new _ _)
    | 1, _ => exact cell_of_row _ w.heap.size 1 _ _ _ (heap_alloc_new _ _)
set_option maxHeartbeats 4000000 in
theorem awake_any (w : World) : Calls Try.prog 9 #[] w fun e w' => e = .returned (.bool true) ∧ Below w.heap.size w w' := by
  have cN := newfuse_any w
  go_enter Try.func9, Try.ntmps9
  go_wp2_with fail
  go_at_call 10
  refine cN.mono ?_
  rintro e w1 ⟨rfl, hz1, b1⟩
  clear cN
  obtain ⟨k, hk⟩ : ∃ k, w.heap.size = k := ⟨_, rfl⟩
  rw [hk] at hz1
  have cW := on_new w w1 b1 (some k) (aZ 0) hz1 (fun j e => by injection e with e; omega) 100 (by decide) (by decide)
  rw [aw0] at cW
  dsimp only [Option.map] at cW
  have HK : Hid (w.heap.size = k) := hk
  clear hz1 b1
  go_wp2_with fail
  go_at_call 11
  refine cW.mono ?_
  rintro e w2 ⟨rfl, h2, _⟩
  obtain ⟨m, hm⟩ : ∃ m, w1.heap.size = m := ⟨_, rfl⟩
  rw [hm] at h2
  obtain ⟨w3, hw3⟩ : ∃ w3, w2.alloc (.cells #[.int .u8 120, .int .u8 121] 5 (2, 3)) = w3 := ⟨_, rfl⟩
  have cs : Sem.run Try.prog (convert 29 29 (.slice (some ⟨w2.heap.size, 0, none⟩) 2 2)) (w2.alloc (.cells #[.int .u8 120, .int .u8 121] 5)) = .ok (.slice (some ⟨w2.heap.size, 0, none⟩) 2 2) w3 := by rw [← hw3]; exact Lib.run_convert_bytes_const (P := Try.prog) w2 29 5 #[.int .u8 120, .int .u8 121] 2 2 Try.underlying29 Try.underlying5
  have b3 : Below w2.heap.size w2 w3 := by rw [← hw3]; exact bal _ _
  have hi := lit2 w2
  rw [hw3] at hi
  have c1 := on_write (h2.keep b3) (awb 0 (by decide) (by decide)) (x := tA) (show tA.size ≤ maxLen by decide) hi (by decide)
  rw [aw1, aw1z] at c1
  clear cW h2 b3 hi
  go_wp2_with fail
  go_at_call 12
  refine c1.mono ?_
  rintro e w4 ⟨rfl, h4, _⟩
  have c2 := on_sync h4 (awb 1 (by decide) (by decide)) (x := tA) (show tA.size ≤ maxLen by decide)
  rw [aw2, aw2z] at c2
  clear c1 h4 hw3 cs
  go_wp2_with fail
  go_at_call 16
  refine c2.mono ?_
  rintro e w5 ⟨rfl, h5, _⟩
  have c3 := on_rename h5 (awb 2 (by decide) (by decide)) (x := tA) (y := tB) (show tA.size ≤ maxLen by decide) (show tB.size ≤ maxLen by decide)
  rw [aw3, aw3z] at c3
  clear c2 h5
  go_wp2_with fail
  go_at_call 13
  refine c3.mono ?_
  rintro e w6 ⟨rfl, h6, _⟩
  have c4 := on_crash h6 (k := 0) (by decide) (by decide)
  rw [aw4] at c4
  clear c3 h6
  go_wp2_with fail
  go_at_call 14
  refine c4.mono ?_
  rintro e w7 ⟨rfl, h7, _⟩
  have c5 := on_read h7 (awb 3 (by decide) (by decide)) (x := tB) (show tB.size ≤ maxLen by decide)
  rw [aw5, aw5s, aw5z] at c5
  clear c4 h7
  go_wp2_with fail
  go_at_call 15
  refine c5.mono ?_
  rintro e w8 ⟨a, n, c, rfl, HH⟩
  obtain ⟨hi, h8, _⟩ := HH.out
  have cv8' := hi.conv
  have c6 := ops_any k ⟨0, 4, false⟩ w8 h8.fz
  have c7 := on_used h8
  have hu : ((used aS3.fs : Nat) : Int) = 2 := by rfl
  rw [hu] at c7
  dsimp only at c6
  have HB : Hid (Below w.heap.size w w8) := h8.b
  have cv8 : Sem.run Try.prog (convert 29 9 (.slice a n c)) w8 = .ok (.string { data := #[120, 121] }) w8 := cv8'
  have hxy : ({ data := #[120, 121] } : ByteArray).toList = [120, 121] := by rw [ByteArray.toList_eq]
  clear c5 HH hi h8 hu cv8'
  go_wp2_with fail
  go_at_call 23
  refine c6.mono ?_
  rintro e w9 ⟨rfl, rfl⟩
  clear c6
  go_wp2_with fail
  go_at_call 31
  refine c7.mono ?_
  rintro e w9 ⟨rfl, rfl⟩
  clear c7
  go_wp2
  go_ret
  exact ⟨rfl, HB.out⟩
end Go.Proofs.Ythkhkijdehbbmaa
