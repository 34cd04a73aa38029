/-
  The law ArrayKnown of layer 12 (chapter 12's example; a disk that can tell its room, and one that cannot; disks that are none) answers true, where crc's table is as the program's text lays it.
-/
import Derived.Test.YtebngmgdciahiaaDoorRows
import Derived.WalkKit
import Derived.ProofKit
import Derived.OpenShut
import Derived.ShutString
import Derived.ChangeOld
import Derived.Below
import Derived.SizedLaws
import Derived.LaidMore
import Derived.Stop.Joined
import Derived.SevenTiedAt
import Derived.Test.YtebngmgdciahiaaDoorCards
import Derived.Test.YtebngmgdciahiaaDoorTie
import Derived.Test.YtebngmgdciahiaaDoorArL
import Derived.Test.YtebngmgdciahiaaDoorArU
set_option maxRecDepth 100000
namespace Go.Proofs.YtebngmgdciahiaaDoor
namespace arrayKnown
open Go.ChangeShapes Go.WideShapes Go.ChangeAt Go.RowKit Crc
open _root_.Go.Proofs.YtebngmgdciahiaaDoor.Nm _root_.Go.Proofs.YtebngmgdciahiaaDoor.Dk
set_option linter.unusedVariables false
attribute [local go_sem ↓] Go.wp_at_zero Go.wp_at_succ

theorem own : ownKnob Tryd.prog.godebug = none := by kernel_rfl
theorem laidOut : laidOutB Tryd.prog = true := by kernel_rfl

theorem ifs (p : Nat) : ifv (some p) = .iface 29 (.pointer (some ⟨p, 0, none⟩)) := rfl
/-- Too few disks. -/
theorem few (w : World) (p g : Nat) (h : w.heap[g]? = some (.cells #[.iface 29 (.pointer (some ⟨p, 0, none⟩))] 37 (0, 0))) :
    Calls Tryd.prog 8 #[.agg #[.int .i64 1, .int .i64 1, .int .i64 16], .slice (some ⟨g, 0, none⟩) 1 1] w fun e w' => e = .returned (.tuple #[.pointer none, .int .i64 1]) ∧ Below w.heap.size w w' :=
  anew_bad w 1 1 16 g 1 _ [some p] (by decide) (by decide) (by decide) (by decide) (by decide) h (fun i hi => by
    match i, hi with
    | 0, _ => rfl) (by show 1 ≤ 1000; decide) (.inl (by show 1 ≠ 1 + 1; decide))
theorem nod (w : World) (p g : Nat) (h : w.heap[g]? = some (.cells #[.iface 29 (.pointer (some ⟨p, 0, none⟩)), .nilIface] 37 (0, 0))) :
    Calls Tryd.prog 8 #[.agg #[.int .i64 1, .int .i64 1, .int .i64 16], .slice (some ⟨g, 0, none⟩) 2 2] w fun e w' => e = .returned (.tuple #[.pointer none, .int .i64 1]) ∧ Below w.heap.size w w' :=
  anew_bad w 1 1 16 g 2 _ [some p, none] (by decide) (by decide) (by decide) (by decide) (by decide) h (fun i hi => by
    match i, hi with
    | 0, _ => rfl
    | 1, _ => rfl) (by show 2 ≤ 1000; decide) (.inr rfl)
theorem nw (mo : Int) (w : World) (hm0 : -9223372036854775808 ≤ mo) (hm1 : mo ≤ 9223372036854775807) : Calls Tryd.prog 9 #[.int .i64 mo, .pointer none] w fun e w' => e = .returned (.pointer (some ⟨w.heap.size + 1, 0, none⟩)) ∧ PX w' (w.heap.size + 1) w.heap.size [] none (newSt mo) 0 ∧ Below w.heap.size w w' := new_any mo none w hm0 hm1
/-- Shape's box. -/
theorem bx3 {w : World} {sb : Nat} (hs : w.heap[sb]? = some (.cells #[.int .i64 1, .int .i64 1, .int .i64 16] 24 (0, 0))) : (w.cell? ⟨sb, 0, none⟩ = some (.int .i64 1) ∧ w.cell? ⟨sb, 1, none⟩ = some (.int .i64 1) ∧ w.cell? ⟨sb, 2, none⟩ = some (.int .i64 16)) := by
  have c0 := cell_of_row w sb 0 _ _ _ hs
  have c1 := cell_of_row w sb 1 _ _ _ hs
  have c2 := cell_of_row w sb 2 _ _ _ hs
  simp only [List.getElem?_toArray, List.getElem?_cons_zero, List.getElem?_cons_succ] at c0 c1 c2
  exact ⟨c0, c1, c2⟩
theorem bx_keep {w w' : World} {sb : Nat} {o : Obj} (hs : w.heap[sb]? = some o) (b : Below w.heap.size w w') : w'.heap[sb]? = some o := (b.block sb (Array.getElem?_eq_some_iff.1 hs).1).trans hs
theorem kA (w : World) (sb : Nat) (hs : w.heap[sb]? = some (.cells #[.int .i64 1, .int .i64 1, .int .i64 16] 24 (0, 0))) :
    Calls Tryd.prog 9 #[.int .i64 5, .pointer none] w fun e w5 => ∃ p, e = .returned (.pointer (some ⟨p, 0, none⟩)) ∧ (w5.cell? ⟨sb, 0, none⟩ = some (.int .i64 1) ∧ w5.cell? ⟨sb, 1, none⟩ = some (.int .i64 1) ∧ w5.cell? ⟨sb, 2, none⟩ = some (.int .i64 16)) ∧ Hid (Calls Tryd.prog 8 #[.agg #[.int .i64 1, .int .i64 1, .int .i64 16], .slice (some ⟨w5.heap.size, 0, none⟩) 1 1] (w5.alloc (.cells #[.iface 29 (.pointer (some ⟨p, 0, none⟩))] 37)) fun e w6 => e = .returned (.tuple #[.pointer none, .int .i64 1]) ∧ (w6.cell? ⟨sb, 0, none⟩ = some (.int .i64 1) ∧ w6.cell? ⟨sb, 1, none⟩ = some (.int .i64 1) ∧ w6.cell? ⟨sb, 2, none⟩ = some (.int .i64 16)) ∧ Hid (Below w.heap.size w w6)) := by
  refine (nw 5 w (by decide) (by decide)).mono ?_
  rintro e w5 ⟨rfl, _, b5⟩
  have h5 := bx_keep hs b5
  have bl5 := bal w5 (.cells #[.iface 29 (.pointer (some ⟨w.heap.size + 1, 0, none⟩))] 37)
  refine ⟨_, rfl, bx3 h5, ?_⟩
  refine (few _ (w.heap.size + 1) w5.heap.size (heap_alloc_new _ _)).mono ?_
  rintro e w6 ⟨rfl, b6⟩
  have b7 := bl5.trans (b6.mono bl5.size)
  exact ⟨rfl, bx3 (bx_keep h5 b7), b5.trans (b7.mono b5.size)⟩
theorem kB (w : World) (sb : Nat) (hs : w.heap[sb]? = some (.cells #[.int .i64 1, .int .i64 1, .int .i64 16] 24 (0, 0))) :
    Calls Tryd.prog 9 #[.int .i64 5, .pointer none] w fun e w5 => ∃ p, e = .returned (.pointer (some ⟨p, 0, none⟩)) ∧ (w5.cell? ⟨sb, 0, none⟩ = some (.int .i64 1) ∧ w5.cell? ⟨sb, 1, none⟩ = some (.int .i64 1) ∧ w5.cell? ⟨sb, 2, none⟩ = some (.int .i64 16)) ∧ Hid (Calls Tryd.prog 8 #[.agg #[.int .i64 1, .int .i64 1, .int .i64 16], .slice (some ⟨w5.heap.size, 0, none⟩) 2 2] (w5.alloc (.cells #[.iface 29 (.pointer (some ⟨p, 0, none⟩)), .nilIface] 37)) fun e w6 => e = .returned (.tuple #[.pointer none, .int .i64 1]) ∧ (w6.cell? ⟨sb, 0, none⟩ = some (.int .i64 1) ∧ w6.cell? ⟨sb, 1, none⟩ = some (.int .i64 1) ∧ w6.cell? ⟨sb, 2, none⟩ = some (.int .i64 16)) ∧ Hid (Below w.heap.size w w6)) := by
  refine (nw 5 w (by decide) (by decide)).mono ?_
  rintro e w5 ⟨rfl, _, b5⟩
  have h5 := bx_keep hs b5
  have bl5 := bal w5 (.cells #[.iface 29 (.pointer (some ⟨w.heap.size + 1, 0, none⟩)), .nilIface] 37)
  refine ⟨_, rfl, bx3 h5, ?_⟩
  refine (nod _ (w.heap.size + 1) w5.heap.size (heap_alloc_new _ _)).mono ?_
  rintro e w6 ⟨rfl, b6⟩
  have b7 := bl5.trans (b6.mono bl5.size)
  exact ⟨rfl, bx3 (bx_keep h5 b7), b5.trans (b7.mono b5.size)⟩
theorem HIDK {p : Prop} (h : p) : Hid p := h
set_option maxHeartbeats 8000000 in
theorem core (W0 : World) (T : HalfT W0) :
    Calls Tryd.prog 3 #[] W0 fun e w' => e = .returned (.bool true) ∧ Below W0.heap.size W0 w' := by
  have cA := awake12 W0 W0 (Below.refl _ _) T
  have HT : Hid (HalfT W0) := T
  clear T
  go_enter Tryd.func3, Tryd.ntmps3
  go_wp2_with fail
  go_at_call 7
  refine cA.mono ?_
  rintro e w2 ⟨rfl, b2⟩
  clear cA
  obtain ⟨w3, hw3⟩ : ∃ w3, w2.alloc (.cells #[.int .i64 1, .int .i64 1, .int .i64 16] 24) = w3 := ⟨_, rfl⟩
  obtain ⟨sb, hsb⟩ : ∃ sb, w2.heap.size = sb := ⟨_, rfl⟩
  have b3 : Below w2.heap.size w2 w3 := by rw [← hw3]; exact bal _ _
  have hs3 : w3.heap[sb]? = some (.cells #[.int .i64 1, .int .i64 1, .int .i64 16] 24 (0, 0)) := by rw [← hw3, ← hsb]; exact heap_alloc_new _ _
  have HS : Hid (w3.heap[sb]? = some (.cells #[.int .i64 1, .int .i64 1, .int .i64 16] 24 (0, 0)) ∧ Below W0.heap.size W0 w3) := ⟨hs3, b2.trans (b3.mono b2.size)⟩
  clear b2 b3 hs3
  go_wp2_with fail
  have HS9 : Hid (w3.drew.cell? ⟨sb, 0, none⟩ = some (.int .i64 1) ∧ w3.drew.cell? ⟨sb, 1, none⟩ = some (.int .i64 1) ∧ w3.drew.cell? ⟨sb, 2, none⟩ = some (.int .i64 16)) := bx3 (bx_keep HS.out.1 (Below.refl _ _).drew)
  have K := HIDK (kA w3.drew sb (bx_keep HS.out.1 (Below.refl _ _).drew))
  have HB9 : Hid (Below w3.heap.size w3 w3.drew) := (Below.refl _ _).drew
  go_wp2_with fail
  go_region_held3 (fun Y => Y.cell? ⟨sb, 0, none⟩ = some (.int .i64 1) ∧ Y.cell? ⟨sb, 1, none⟩ = some (.int .i64 1) ∧ Y.cell? ⟨sb, 2, none⟩ = some (.int .i64 16))
    (first | with_reducible exact HS9.out | with_reducible exact p1 | with_reducible exact p2 | exact ⟨cell_al p1.1, cell_al p1.2.1, cell_al p1.2.2⟩)
    (first
      | (go_at_call 9; with_reducible refine K.out.mono ?_; rintro e w4 ⟨p, rfl, p1, HK2⟩)
      | (go_at_call 8; with_reducible refine HK2.out.mono ?_; rintro e w5 ⟨rfl, p2, HE⟩))
  have HS2 : Hid (w5.heap[sb]? = some (.cells #[.int .i64 1, .int .i64 1, .int .i64 16] 24 (0, 0)) ∧ Below W0.heap.size W0 w5) := ⟨bx_keep HS.out.1 (HB9.out.trans (HE.out.mono HB9.out.size)), HS.out.2.trans ((HB9.out.trans (HE.out.mono HB9.out.size)).mono HS.out.2.size)⟩
  clear HS9 K HK2 p1 p2 HE HB9 HS
  have HS9 : Hid (w5.drew.cell? ⟨sb, 0, none⟩ = some (.int .i64 1) ∧ w5.drew.cell? ⟨sb, 1, none⟩ = some (.int .i64 1) ∧ w5.drew.cell? ⟨sb, 2, none⟩ = some (.int .i64 16)) := bx3 (bx_keep HS2.out.1 (Below.refl _ _).drew)
  have K := HIDK (kB w5.drew sb (bx_keep HS2.out.1 (Below.refl _ _).drew))
  have HB9 : Hid (Below w5.heap.size w5 w5.drew) := (Below.refl _ _).drew
  go_wp2_with fail
  go_region_held3 (fun Y => Y.cell? ⟨sb, 0, none⟩ = some (.int .i64 1) ∧ Y.cell? ⟨sb, 1, none⟩ = some (.int .i64 1) ∧ Y.cell? ⟨sb, 2, none⟩ = some (.int .i64 16))
    (first | with_reducible exact HS9.out | with_reducible exact p1 | with_reducible exact p2 | exact ⟨cell_al p1.1, cell_al p1.2.1, cell_al p1.2.2⟩)
    (first
      | (go_at_call 9; with_reducible refine K.out.mono ?_; rintro e w6 ⟨p, rfl, p1, HK2⟩)
      | (go_at_call 8; with_reducible refine HK2.out.mono ?_; rintro e w7 ⟨rfl, p2, HE⟩))
  have HS3 : Hid (w7.heap[sb]? = some (.cells #[.int .i64 1, .int .i64 1, .int .i64 16] 24 (0, 0)) ∧ Below W0.heap.size W0 w7) := ⟨bx_keep HS2.out.1 (HB9.out.trans (HE.out.mono HB9.out.size)), HS2.out.2.trans ((HB9.out.trans (HE.out.mono HB9.out.size)).mono HS2.out.2.size)⟩
  clear HS9 K HK2 p1 p2 HE HB9 HS2
  clear hw3 hsb
  -- a block too small
  have c1 := nw 5 w7 (by decide) (by decide)
  go_wp2_with fail
  go_at_call 9
  refine c1.mono ?_
  rintro e w8 ⟨rfl, _, b8⟩
  obtain ⟨p8, hp8⟩ : ∃ p, w7.heap.size + 1 = p := ⟨_, rfl⟩
  rw [hp8]
  have c2 := nw 5 w8 (by decide) (by decide)
  clear hp8 c1
  go_wp2_with fail
  go_at_call 9
  refine c2.mono ?_
  rintro e w9 ⟨rfl, _, b9⟩
  obtain ⟨p9, hp9⟩ : ∃ p, w8.heap.size + 1 = p := ⟨_, rfl⟩
  rw [hp9]
  have HB9 : Hid (Below W0.heap.size W0 w9) := by
    have e1 := HS3.out.2.trans (b8.mono HS3.out.2.size)
    exact e1.trans (b9.mono e1.size)
  have c3 := fun Y v => anew_block Y 1 1 15 v (by decide) (by decide) (by decide) (.inl (by decide))
  clear hp9 b8 b9 c2 HS3
  go_wp2_with fail
  go_at_call 8
  refine (c3 _ _).mono ?_
  rintro e wa ⟨rfl, ba⟩
  have bl9 := bal w9 (.cells #[.iface 29 (.pointer (some ⟨p8, 0, none⟩)), .iface 29 (.pointer (some ⟨p9, 0, none⟩))] 37)
  have HBa : Hid (Below W0.heap.size W0 wa) := by
    have e1 := HB9.out.trans (bl9.mono HB9.out.size)
    exact e1.trans (ba.mono e1.size)
  clear c3 bl9 ba HB9
  -- the room of one that tells it
  have c1 := nw 7 wa (by decide) (by decide)
  go_wp2_with fail
  go_at_call 9
  refine c1.mono ?_
  rintro e wb ⟨rfl, px, bb⟩
  have c2 := room_has px
  rw [show (newSt 7).most - ((used (newSt 7).fs : Nat) : Int) = 7 from rfl] at c2
  have HBb : Hid (Below W0.heap.size W0 wb) := HBa.out.trans (bb.mono HBa.out.size)
  clear c1 px bb HBa
  go_wp2_with fail
  go_at_call 10
  refine c2.mono ?_
  rintro e wc ⟨rfl, nc, hwc⟩
  have HBc : Hid (Below W0.heap.size W0 wc) := by rw [hwc]; exact HBb.out.trans ((bdn' _ _).mono HBb.out.size)
  have c3 := room_nil wc
  clear c2 hwc HBb
  go_wp2_with fail
  go_at_call 10
  refine c3.mono ?_
  rintro e wd ⟨rfl, rfl⟩
  clear c3
  have cM := make_any W0 wd HBc.out 4 2 16 100 (by decide) (by decide) (by decide) (by decide) (by decide) (by decide) (by decide) (by decide)
  clear HBc
  go_wp2_with fail
  go_at_call 11
  refine cM.mono ?_
  rintro e we hE
  clear cM
  rcases hE with ⟨bl, pp, hbl, hb1, hb2, rfl, hM⟩ | ⟨hno, rfl, b3⟩
  rotate_left
  · exact absurd ⟨by decide, by decide⟩ hno
  obtain rfl : bl = 16 := by omega
  obtain ⟨R, kq, kg, ab, vb, hA, hs, hv, hp, hb⟩ := hM.out
  have cM := make_any W0 we hA.b 1 3 16 100 (by decide) (by decide) (by decide) (by decide) (by decide) (by decide) (by decide) (by decide)
  have HA : Hid (Ar W0 we R (some kq) (some kg) (fun _ => newSt 100) (fun _ => newSt 100) (some z0) (some z0) ∧ Hs R ab 4 2 16 ∧ Ps R pp ab vb kq kg (4 + 2)) := ⟨hA, hs, hp⟩
  clear hM hA hs hv hp hb hbl hb1 hb2
  go_wp2_with fail
  go_at_call 11
  refine cM.mono ?_
  rintro e wf hE
  clear cM
  rcases hE with ⟨bl, pq, hbl, hb1, hb2, rfl, hM⟩ | ⟨hno, rfl, b3⟩
  rotate_left
  · exact absurd ⟨by decide, by decide⟩ hno
  obtain rfl : bl = 16 := by omega
  obtain ⟨R2, kq2, kg2, ab2, vb2, hA2, hs2, hv2, hp2, hb2'⟩ := hM.out
  have hA := HA.out.1.keep hb2'
  have p0 := Ps.arr hA HA.out.2.2
  have q0 := Ps.arr hA2 hp2
  have a0 := hA.ax HA.out.2.1
  have cD6 := disk_no a0 (i := 6) (.inr (by decide))
  have cD5 := disk_yes a0 (i := 5) (by decide)
  have cQ := fun Y (b : Below wf.heap.size wf Y) => quorum_any (a0.keep b)
  have cQ2 := fun Y (b : Below wf.heap.size wf Y) => quorum_any ((hA2.ax hs2).keep b)
  have cS := fun Y (b : Below wf.heap.size wf Y) => save_no (a0.keep b) (i := 6) (.inr (by decide)) ⟨#[120]⟩ (.slice none 0 0)
  rw [show quo 4 2 = 4 by decide] at cQ
  rw [show quo 1 3 = 3 by decide] at cQ2
  have HBf : Hid (Below W0.heap.size W0 wf) := hA.b
  clear hM hA2 hs2 hv2 hp2 hb2' hbl hb1 hb2 hA HA a0
  go_wp2_with fail
  go_at_call 12
  refine cD6.mono ?_
  rintro e wg ⟨rfl, rfl⟩
  clear cD6
  go_wp2_with fail
  go_at_call 12
  refine cD5.mono ?_
  rintro e wh ⟨rfl, rfl⟩
  clear cD5
  go_wp2_with fail
  go_at_call 13
  refine (cQ _ (Below.refl _ _)).mono ?_
  rintro e wi ⟨rfl, ni, hwi⟩
  have q0 : wi.cell? ⟨pq, 0, none⟩ = some (.pointer (some ⟨ab2, 0, none⟩)) := by rw [hwi]; exact q0
  have p0 : wi.cell? ⟨pp, 0, none⟩ = some (.pointer (some ⟨ab, 0, none⟩)) := by rw [hwi]; exact p0
  have bi : Below wh.heap.size wh wi := by rw [hwi]; exact bdn' _ _
  clear hwi cQ
  go_wp2_with fail
  go_at_call 13
  refine (cQ2 _ bi).mono ?_
  rintro e wj ⟨rfl, nj, hwj⟩
  have p0 : wj.cell? ⟨pp, 0, none⟩ = some (.pointer (some ⟨ab, 0, none⟩)) := by rw [hwj]; exact p0
  have bj : Below wh.heap.size wh wj := bi.trans (by rw [hwj]; exact (bdn' _ _).mono bi.size)
  clear hwj cQ2 q0 bi
  go_wp2_with fail
  go_at_call 14
  refine (cS _ bj).mono ?_
  rintro e wk ⟨rfl, rfl⟩
  clear cS
  go_wp2
  go_ret
  exact ⟨rfl, HBf.out.trans (bj.mono HBf.out.size)⟩


set_option maxRecDepth 100000 in
theorem lifted (os : Os) (started : os.Started) (H : Type) (enc : TypeId × Value → H) :
    ReturnsInHanded {} Tryd.checked os 3 .any (fun w args => (Rows.arrayKnownSpec.pre enc Tryd.prog Tryd.f3 [] false w args ∧ laidMetH Tryd.prog laidAll w) ∧ sizedMet enc Tryd.prog Tryd.f3 (OpenSpec.ofChange Rows.arrayKnownSpec) false w args) (Rows.arrayKnownSpec.post enc Tryd.prog Tryd.f3 false true false false) := by
  refine returnsInHanded_of_change_and (C := Tryd.checked) (X := fun w _ => laidMetH Tryd.prog laidAll w) (fun _ _ _ hh h => h.of_heap hh) own started (by kernel_rfl) Tryd.func3
    (ChangeSpec.witness_shaped (enc := enc) (C := Tryd.checked) (os := os) (X := fun w _ => laidMetH Tryd.prog laidAll w) false (World.doorLaid Tryd.prog 400 os) #[] 8 rfl (World.shaped_of_RefB (by kernel_rfl) (by kernel_rfl)) (by kernel_rfl) (by kernel_rfl) (by kernel_rfl) (door_met os _)) ?_
  intro W base args ds gs before hval0 hW _ hsz0 hL _
  have hval : ∀ (j : Nat) t v, Tryd.f3.params[j]? = some t → args[j]? = some v → Value.okWide Tryd.prog W .any base t v := hval0
  have hW' := hW
  obtain ⟨p, q, hA0, hV, rfl, hfz, hnd⟩ := hW
  have hA : DataW.TrodAll enc Tryd.prog W 0 (fun _ => true) true Tryd.f3.params.toList args.toList ds p := hA0
  rw [Tryd.params3] at hA hval
  have T := halfT_of hL
  obtain ⟨hargs, rfl, rfl⟩ := trodAll_nil hA
  obtain rfl : args = #[] := by cases args; simp_all
  obtain ⟨rfl, rfl⟩ := trodVars_none hV
  clear hA0 hval0 hsz0 hL
  refine (core  W T ).mono fun e W' ⟨he, bel⟩ => ?_
  subst he
  exact ⟨_, rfl, _, _, _, [], _, [], hW', trodAll_mk1 (shut_bool Tryd.underlying4 _), trodAll_mk0, rfl, bel.frame _, fun h => by cases h⟩

theorem over : Rows.arrayKnownRow.holds Tryd.pinned (OpenSpec.ofChange Rows.arrayKnownSpec) :=
  OpenClaim.holds_of_wide 3 Tryd.f3 rfl rfl rfl rfl rfl rfl rfl ⟨rfl, rfl, rfl, rfl, rfl⟩ rfl rfl rfl rfl rfl (by kernel_rfl) Tryd.func3 (by kernel_rfl)
    (of_decide_eq_true (by kernel_rfl)) (by unfold Func.isWrapper; first | (rw [if_pos (by decide +kernel)]; kernel_rfl) | (rw [if_neg (by decide +kernel)]; exact ⟨rfl, rfl⟩))
    (fun os started H enc _ => lifted os started H enc)

end arrayKnown

/-- The statement. -/
theorem arrayKnown_holds : Rows.ArrayKnownCardSaid :=
  Claim7.holds_tied_plain_at .later [] [.data] true (true, "1030a19dec020d70f9d3e07f477f037649f156ed148aaf108150bb6ba0b72429") true
    arrayKnown.over (fun _ h => by cases h) (by kernel_rfl) (fun _ h => by cases h) arrayKnown_row_tie rfl ⟨rfl, rfl⟩ (by kernel_rfl) rfl
    (fun f fn hf hfn => by
      obtain rfl : f = 3 := Option.some.inj ((show Tryd.prog.funcNamed "strongbox/strongboxlaw12.ArrayKnown" = some 3 by kernel_rfl).symm.trans hf) |>.symm
      obtain rfl : fn = Tryd.f3 := (Option.some.inj (Tryd.func3.symm.trans hfn)).symm
      exact ⟨by kernel_rfl, fun j t ht => by
        rw [Tryd.params3] at ht
        have hm : t ∈ [] := by simpa using Array.mem_of_getElem? ht
        have hall : ([].all fun u => !Tryd.prog.wantsStandIn u) = true := by kernel_rfl
        exact (show Tryd.prog.wantsStandIn t = false by simpa using List.all_eq_true.1 hall t hm)⟩)
    (by kernel_rfl)
#print axioms arrayKnown_holds
end Go.Proofs.YtebngmgdciahiaaDoor
