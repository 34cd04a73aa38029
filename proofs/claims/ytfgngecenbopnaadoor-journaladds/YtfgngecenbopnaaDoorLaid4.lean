/-
  The table of crc as the program lays it, out of the row's condition; the first sentence of each law of layer 4 (awake) is true.
-/
import Derived.Test.YtfgngecenbopnaaDoorCrc
import Derived.LaidMore
import Derived.Lib.SlBytesConst
import Derived.MakeChecks
import Derived.Lib.LaidTab
import Derived.Stop.Joined
namespace Go.Proofs.YtfgngecenbopnaaDoor
open Go.RowKit Crc
attribute [local go_sem ↓] Go.wp_at_zero Go.wp_at_succ

def laidAll : List (String × DataW Unit) := [("strongbox/crc.halfSteps", Rows.laid_strongbox_crc_halfSteps)]
def zs : List Int := (List.range 16).map fun i => ((itn 4 i : Nat) : Int)
theorem laid_zs : (Rows.laid_strongbox_crc_halfSteps : DataW Unit) = Lib.tabData .u32 zs := by
  have e : zs = [0, 274646895, 549293790, 820201905, 1098587580, 1361435347, 1640403810, 1905808397, 2197175160, 2460548119, 2722870694, 2987750089, 3280807620, 3553878443, 3811616794, 4084100981] := by decide +kernel
  rw [e]; rfl
theorem gHalf : Tryd.prog.globalNamed "strongbox/crc.halfSteps" = some 0 := by kernel_rfl
theorem tHalf : (Tryd.prog.globals[0]?).map (·.type) = some 64 := by kernel_rfl
theorem halfT_of {W : World} (h : laidMetH Tryd.prog laidAll W) : HalfT W := by
  rw [MakeChecks.laidMetH_plain _ _ _ (by kernel_rfl)] at h
  unfold laidAll at h
  rw [laid_zs] at h
  have hT := Lib.tabIs_of_head gHalf tHalf Tryd.underlying64 Tryd.underlying31 (by kernel_rfl) (by kernel_rfl) h
  intro i hi
  have := hT.cell gHalf i (by simpa [zs] using hi)
  rw [this]
  congr 2
  unfold zs
  simp [hi]
theorem door_met (os : Os) (args : Array Value) : laidMetH Tryd.prog laidAll ((World.doorLaid Tryd.prog 400 os).forCall (fun _ _ => 0) ⟨#[], args, []⟩).memory :=
  laidMetH_of_parts3 (fuel := 8) (laidMet_of_run' 8 (by kernel_rfl) (by kernel_rfl)) (by kernel_rfl) (by kernel_rfl)

theorem sum_known : sum 9 (fun i => if i < 9 then 49 + i else 0) = 3808858755 := by decide +kernel
theorem sum_none (f : Nat → Nat) : sum 0 f = 0 := more_none 0 f

theorem cell_new_any (w : World) (c : Array Value) (t : TypeId) (z : Nat × Nat) (i : Nat) : (w.alloc (.cells c t z)).cell? ⟨w.heap.size, i, none⟩ = c[i]? := by
  have : (w.alloc (.cells c t z)).heap[w.heap.size]? = some (.cells c t z) := by
    show (w.heap.push (.cells c t z))[w.heap.size]? = _
    simp
  unfold World.cell?
  dsimp only
  rw [this]
  rfl
/-- Nine bytes that were just written out. -/
theorem lit9 (w : World) : Row (w.alloc (.cells #[.int .u8 49, .int .u8 50, .int .u8 51, .int .u8 52, .int .u8 53, .int .u8 54, .int .u8 55, .int .u8 56, .int .u8 57] 5 (9, 10))) (some ⟨w.heap.size, 0, none⟩) 9 (fun i => if i < 9 then 49 + i else 0) :=
  ⟨fun i => by split <;> omega, fun _ => ⟨w.heap.size, 0, rfl, fun i hi => by
    rw [Nat.zero_add, cell_new_any]
    match i, hi with
    | 0, _ => rfl
    | 1, _ => rfl
    | 2, _ => rfl
    | 3, _ => rfl
    | 4, _ => rfl
    | 5, _ => rfl
    | 6, _ => rfl
    | 7, _ => rfl
    | 8, _ => rfl⟩⟩

end Go.Proofs.YtfgngecenbopnaaDoor
