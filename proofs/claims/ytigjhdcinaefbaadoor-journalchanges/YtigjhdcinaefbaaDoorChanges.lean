/-
  The law JournalChanges of layer 7 (any journal that may be: what is found, the latest, one more, one less; what was handed in stays) answers true for all journals, versions and ids, where crc's table is as the program's text lays it.
-/
import Derived.Test.YtigjhdcinaefbaaDoorRows
import Derived.WalkKit
import Derived.ProofKit
import Derived.OpenShut
import Derived.ShutString
import Derived.ChangeOld
import Derived.Below
import Derived.SizedLaws
import Derived.LaidMore
import Derived.Stop.Joined
import Derived.SevenTiedAt
import Derived.Test.YtigjhdcinaefbaaDoorCards
import Derived.Test.YtigjhdcinaefbaaDoorTie
import Derived.Test.YtigjhdcinaefbaaDoorJnX
import Derived.Test.YtigjhdcinaefbaaDoorJnL
import Derived.Test.YtigjhdcinaefbaaDoorJnD
import Derived.Test.YtigjhdcinaefbaaDoorLaid4
import Derived.Test.YtigjhdcinaefbaaDoorOp7
namespace Go.Proofs.YtigjhdcinaefbaaDoor
namespace journalChanges
open Go.ChangeShapes Go.WideShapes Go.ChangeAt Go.RowKit Crc
set_option linter.unusedVariables false
attribute [local go_sem ↓] Go.wp_at_zero Go.wp_at_succ

theorem own : ownKnob Tryd.prog.godebug = none := by kernel_rfl
theorem laidOut : laidOutB Tryd.prog = true := by kernel_rfl


structure V4 (w : World) (b : Nat) (v : Ver) : Prop where
  c0 : w.cell? ⟨b, 0, none⟩ = some (.int .i64 v.id)
  c1 : w.cell? ⟨b, 1, none⟩ = some (.bool v.mr)
  c2 : w.cell? ⟨b, 2, none⟩ = some (.int .i64 v.sz)
  c3 : w.cell? ⟨b, 3, none⟩ = some (.int .u32 (v.sm : Int))
theorem V4.keep {w w' : World} {b : Nat} {v : Ver} (h : V4 w b v) (hb : Below w.heap.size w w') : V4 w' b v :=
  ⟨(hb.cell (p := ⟨b, 0, none⟩) (block_lt_of_cell h.c0)).trans h.c0, (hb.cell (p := ⟨b, 1, none⟩) (block_lt_of_cell h.c1)).trans h.c1,
    (hb.cell (p := ⟨b, 2, none⟩) (block_lt_of_cell h.c2)).trans h.c2, (hb.cell (p := ⟨b, 3, none⟩) (block_lt_of_cell h.c3)).trans h.c3⟩
theorem box_v4 (w : World) (t : TypeId) (v : Ver) : ∃ W, w.alloc (.cells #[.int .i64 v.id, .bool v.mr, .int .i64 v.sz, .int .u32 (v.sm : Int)] t) = W ∧ V4 W w.heap.size v ∧ Below w.heap.size w W := by
  obtain ⟨W, h, k, b⟩ := box_ver w t v
  exact ⟨W, h, ⟨k.c0, k.c1, k.c2, k.c3⟩, b⟩
theorem find_as (F : Nat → Ver) (id : Int) (n : Nat) : ∃ (x : Ver) (ok : Bool), ∀ w e w', FindEnd F id n w e w' → Below w.heap.size w w' ∧ e = .returned (.tuple #[vv x, .bool ok]) := by
  rcases pl_or F id n with ⟨k, hk⟩ | hn
  · refine ⟨F k, true, fun w e w' h => ?_⟩
    obtain ⟨⟨j, hj, rfl⟩ | ⟨h, _⟩, b⟩ := h
    · rw [hj.one hk]; exact ⟨b, rfl⟩
    · exact absurd h (fun q => hk.not q)
  · refine ⟨zeroV, false, fun w e w' h => ?_⟩
    obtain ⟨⟨j, hj, rfl⟩ | ⟨h, rfl⟩, b⟩ := h
    · exact absurd hn (fun q => hj.not q)
    · exact ⟨b, rfl⟩
theorem late_as (F : Nat → Ver) (n : Nat) : ∃ (x : Ver) (ok : Bool), ∀ w e w', LateEnd F n w e w' → Below w.heap.size w w' ∧ e = .returned (.tuple #[vv x, .bool ok]) := by
  by_cases h0 : n = 0
  · refine ⟨zeroV, false, fun w e w' h => ?_⟩
    obtain ⟨⟨h, _⟩ | ⟨_, rfl⟩, b⟩ := h
    · exact absurd h0 h
    · exact ⟨b, rfl⟩
  · refine ⟨F (n - 1), true, fun w e w' h => ?_⟩
    obtain ⟨⟨_, rfl⟩ | ⟨h, _⟩, b⟩ := h
    · exact ⟨b, rfl⟩
    · exact absurd h h0
/-- An answer that is a journal and a value. -/
def JAns (x : Value) (t : Int) (s : ByteArray) (m : Nat) (G : Nat → Ver) (w : World) (e : Ending) (w' : World) : Prop := Below w.heap.size w w' ∧ ∃ a c, e = .returned (.tuple #[.agg #[.int .i64 t, .string s, .slice a m c], x]) ∧ Vs w' a m G ∧ (a = none → m = 0 ∧ c = 0)
theorem no_ans (x : Value) {w w' : World} {e : Ending} (b : Below w.heap.size w w') (h : e = .returned (.tuple #[nojn, x])) : JAns x 0 noS 0 (fun _ => zeroV) w e w' :=
  ⟨b, none, 0, h, ⟨fun _ => zeroV_fits, fun h => absurd h (by omega)⟩, fun _ => ⟨rfl, rfl⟩⟩
theorem jn_ans {x u : Value} {t : Int} {s : ByteArray} {m : Nat} {G : Nat → Ver} {w w' : World} {e : Ending} (b : Below w.heap.size w w') (h : e = .returned (.tuple #[u, x])) (j : Jn w' u t s m G) : JAns x t s m G w e w' := by
  obtain ⟨a, c, rfl, hv, z, _⟩ := j
  exact ⟨b, a, c, h, hv, z⟩
theorem add_as (t : Int) (s : ByteArray) (n : Nat) (F : Nat → Ver) (v : Ver) (hn : n ≤ 64) : ∃ (cc t' : Int) (s' : ByteArray) (m : Nat) (G : Nat → Ver), m ≤ 65 ∧ ∀ w e w', AddEnd t s n F v w e w' → JAns (.int .i64 cc) t' s' m G w e w' := by
  by_cases h6 : 64 ≤ n
  · refine ⟨18, 0, noS, 0, fun _ => zeroV, by omega, fun w e w' h => ?_⟩
    obtain ⟨⟨_, h⟩ | ⟨h, _⟩ | ⟨h, _⟩, b⟩ := h
    · exact no_ans _ b h
    · omega
    · omega
  cases hm : mayJ t s.size (n + 1) (upd F n v) with
  | false =>
    refine ⟨1, 0, noS, 0, fun _ => zeroV, by omega, fun w e w' h => ?_⟩
    obtain ⟨⟨h, _⟩ | ⟨_, _, h⟩ | ⟨_, h, _⟩, b⟩ := h
    · omega
    · exact no_ans _ b h
    · rw [hm] at h; cases h
  | true =>
    refine ⟨0, t, s, n + 1, upd F n v, by omega, fun w e w' h => ?_⟩
    obtain ⟨⟨h, _⟩ | ⟨_, h, _⟩ | ⟨_, _, u, h, hj⟩, b⟩ := h
    · omega
    · rw [hm] at h; cases h
    · exact jn_ans b h hj
theorem drop_as (t : Int) (s : ByteArray) (n : Nat) (F : Nat → Ver) (id : Int) (hn : n ≤ 64) : ∃ (ok : Bool) (t' : Int) (s' : ByteArray) (m : Nat) (G : Nat → Ver), m ≤ 65 ∧ ∀ w e w', DropEnd t s n F id w e w' → JAns (.bool ok) t' s' m G w e w' := by
  rcases pl_or F id n with ⟨k, hk⟩ | hno
  · refine ⟨true, t, s, n - 1, dropF F k, by omega, fun w e w' h => ?_⟩
    obtain ⟨⟨j, hj, u, h, hJ⟩ | ⟨h, _⟩, b⟩ := h
    · rw [hj.one hk] at hJ; exact jn_ans b h hJ
    · exact absurd h (fun q => hk.not q)
  · refine ⟨false, 0, noS, 0, fun _ => zeroV, by omega, fun w e w' h => ?_⟩
    obtain ⟨⟨j, hj, _⟩ | ⟨_, h⟩, b⟩ := h
    · exact absurd hno (fun q => hj.not q)
    · exact no_ans _ b h
open Classical in
set_option maxRecDepth 100000 in
set_option maxHeartbeats 16000000 in
theorem core (t : Int) (s : ByteArray) (a : Option Addr) (n c : Nat) (F : Nat → Ver) (v : Ver) (id : Int) (w : World) (T : HalfT w) (_ : -9223372036854775808 ≤ t ∧ t ≤ 9223372036854775807) (hs : s.size ≤ maxLen) (hF : Vs w a n F) (z : a = none → n = 0 ∧ c = 0) (hn : n ≤ maxLen) (hc : n ≤ c) (hvf : v.fits) (hi0 : -9223372036854775808 ≤ id) (hi1 : id ≤ 9223372036854775807) :
    Calls Tryd.prog 6 #[.agg #[.int .i64 t, .string s, .slice a n c], .agg #[.int .i64 v.id, .bool v.mr, .int .i64 v.sz, .int .u32 (v.sm : Int)], .int .i64 id] w fun e w' => e = .returned (.bool true) ∧ Below w.heap.size w w' := by
  obtain ⟨W0, hbx0, hj, hb0⟩ := box_jn w 24 t s (.slice a n c)
  obtain ⟨W, hbx, hv, hb1⟩ := box_v4 W0 46 v
  have hb : Below w.heap.size w W := hop hb0 hb1
  have cA := awake_any W (T.keep hb)
  have J0 : Hid (JAt W w.heap.size t s (.slice a n c)) := hj.keep hb1
  have U0 : Hid (V4 W W0.heap.size v) := hv
  have V0 : Hid (Vs W a n F) := hF.keep hb
  have HB0 : Hid (Below w.heap.size w W) := hb
  clear T hj hF hb hb0 hb1 hv
  go_enter Tryd.func6, Tryd.ntmps6
  go_wp2_with fail
  go_at_call 9
  refine cA.mono ?_
  rintro e w1 ⟨rfl, b1⟩
  clear cA
  obtain ⟨c0, c1, c2⟩ := J0.out.keep b1
  have cR := room_any t s a n c w1 hs hn
  have J1 : Hid (JAt w1 w.heap.size t s (.slice a n c)) := J0.out.keep b1
  have U1 : Hid (V4 w1 W0.heap.size v) := U0.out.keep b1
  have V1 : Hid (Vs w1 a n F) := V0.out.keep b1
  have HB1 : Hid (Below w.heap.size w w1) := hop HB0.out b1
  clear J0 V0 HB0 b1 U0
  unfold jv at cR
  go_wp2_with fail
  go_at_call 10
  refine cR.mono ?_
  rintro e w2 ⟨rfl, b2⟩
  clear cR c0 c1 c2
  by_cases hR : s.size ≤ 1000 ∧ n ≤ 100
  rotate_left
  · rw [decide_eq_false hR]
    clear hR
    go_wp2
    go_ret
    exact ⟨rfl, hop HB1.out b2⟩
  rw [decide_eq_true hR]
  obtain ⟨hs2, hn2⟩ := hR
  obtain ⟨c0, c1, c2⟩ := J1.out.keep b2
  have cM := rmay_any t s a n c F w2 (V1.out.keep b2) hs hn
  have J2 : Hid (JAt w2 w.heap.size t s (.slice a n c)) := J1.out.keep b2
  have U2 : Hid (V4 w2 W0.heap.size v) := U1.out.keep b2
  have V2 : Hid (Vs w2 a n F) := V1.out.keep b2
  have HB2 : Hid (Below w.heap.size w w2) := hop HB1.out b2
  clear J1 V1 HB1 b2 U1
  unfold jv at cM
  go_wp2_with fail
  go_at_call 15
  refine cM.mono ?_
  rintro e w3 ⟨rfl, b3⟩
  clear cM c0 c1 c2
  cases hm : mayJ t s.size n F with
  | false =>
    go_wp2
    go_ret
    exact ⟨rfl, hop HB2.out b3⟩
  | true =>
  have hn6 : n ≤ 64 := (mayJ_iff.1 hm).2.2.2.1
  obtain ⟨fv, fo, hfa⟩ := find_as F id n
  obtain ⟨lv, lo, hla⟩ := late_as F n
  obtain ⟨ac, ta, sa, am, AG, hal, haa⟩ := add_as t s n F v hn6
  obtain ⟨dk, dt, ds, dm, DG, hdl, hda⟩ := drop_as t s n F id hn6
  have HFA : Hid (∀ w e w', FindEnd F id n w e w' → Below w.heap.size w w' ∧ e = .returned (.tuple #[vv fv, .bool fo])) := hfa
  have HLA : Hid (∀ w e w', LateEnd F n w e w' → Below w.heap.size w w' ∧ e = .returned (.tuple #[vv lv, .bool lo])) := hla
  have HAA : Hid (∀ w e w', AddEnd t s n F v w e w' → JAns (.int .i64 ac) ta sa am AG w e w') := haa
  have HDA : Hid (∀ w e w', DropEnd t s n F id w e w' → JAns (.bool dk) dt ds dm DG w e w') := hda
  have HZ : Hid (a = none → n = 0 ∧ c = 0) := z
  have J3 : Hid (JAt w3 w.heap.size t s (.slice a n c)) := J2.out.keep b3
  have U3 : Hid (V4 w3 W0.heap.size v) := U2.out.keep b3
  have V3 : Hid (Vs w3 a n F) := V2.out.keep b3
  have HB3 : Hid (Below w.heap.size w w3) := hop HB2.out b3
  clear J2 U2 V2 HB2 b3 hm z hfa hla haa hda
  obtain ⟨c0, c1, c2⟩ := J3.out
  have cC : Calls Tryd.prog 12 #[.agg #[.int .i64 t, .string s, .slice a n c]] w3 fun e w' => Below w3.heap.size w3 w' ∧ ∃ a' c', e = .returned (.agg #[.int .i64 t, .string s, .slice a' n c']) ∧ Vs w' a' n F ∧ (a' = none → n = 0 ∧ c' = 0) ∧ n ≤ c' := by
    refine (journal_any t s a n c F w3 V3.out HZ.out (by omega)).mono ?_
    rintro e w' ⟨v', rfl, ⟨a', c', rfl, h1, h2, h3⟩, b⟩
    exact ⟨b, a', c', rfl, h1, h2, h3⟩
  go_wp2_with fail
  go_at_call 12
  refine cC.mono ?_
  rintro e y5 ⟨b5, pa, pc, rfl, hv5, pz, phc⟩
  clear cC c0  c1  c2
  obtain ⟨X5, hX5, hj5, bX5⟩ := box_jn y5 31 t s (.slice pa n pc)
  have bb : Below w3.heap.size w3 X5 := hop b5 bX5
  have Jx5 : Hid (JAt X5 w.heap.size t s (.slice a n c)) := J3.out.keep bb
  have Ux5 : Hid (V4 X5 W0.heap.size v) := U3.out.keep bb
  have Vx5 : Hid (Vs X5 a n F) := V3.out.keep bb
  have JPx5 : Hid (JAt X5 y5.heap.size t s (.slice pa n pc)) := hj5
  have VPx5 : Hid (Vs X5 pa n F) := hv5.keep bX5
  have HBx5 : Hid (Below w.heap.size w X5) := hop HB3.out bb
  clear bb b5 bX5 hj5 HB3 hv5 J3 U3 V3
  have HPZ : Hid (pa = none → n = 0 ∧ pc = 0) := pz
  clear pz
  obtain ⟨c0, c1, c2⟩ := JPx5.out
  have cC : Calls Tryd.prog 20 #[.agg #[.int .i64 t, .string s, .slice pa n pc], .int .i64 id] X5 fun e w' => Below X5.heap.size X5 w' ∧ e = .returned (.tuple #[.agg #[.int .i64 fv.id, .bool fv.mr, .int .i64 fv.sz, .int .u32 (fv.sm : Int)], .bool fo]) := by
    exact (find_any t s pa n pc id F X5 VPx5.out hn).mono fun e w' h => HFA.out _ _ _ h
  go_wp2_with fail
  go_at_call 20
  refine cC.mono ?_
  rintro e y6 ⟨b6, rfl⟩
  clear cC c0  c1  c2
  obtain ⟨X6, hX6, hj6, bX6⟩ := box_v4 y6 46 fv
  have bb : Below X5.heap.size X5 X6 := hop b6 bX6
  have Jx6 : Hid (JAt X6 w.heap.size t s (.slice a n c)) := Jx5.out.keep bb
  have Ux6 : Hid (V4 X6 W0.heap.size v) := Ux5.out.keep bb
  have Vx6 : Hid (Vs X6 a n F) := Vx5.out.keep bb
  have JPx6 : Hid (JAt X6 y5.heap.size t s (.slice pa n pc)) := JPx5.out.keep bb
  have VPx6 : Hid (Vs X6 pa n F) := VPx5.out.keep bb
  have B6x6 : Hid (V4 X6 y6.heap.size fv) := hj6
  have HBx6 : Hid (Below w.heap.size w X6) := hop HBx5.out bb
  clear bb b6 bX6 hj6 HBx5  Jx5 Ux5 Vx5 JPx5 VPx5
  obtain ⟨c0, c1, c2⟩ := Jx6.out
  have cC : Calls Tryd.prog 21 #[.agg #[.int .i64 t, .string s, .slice a n c], .int .i64 id] X6 fun e w' => Below X6.heap.size X6 w' ∧ e = .returned (.tuple #[.agg #[.int .i64 fv.id, .bool fv.mr, .int .i64 fv.sz, .int .u32 (fv.sm : Int)], .bool fo]) := by
    exact (rfind_any t s a n c id F X6 Vx6.out hn).mono fun e w' h => HFA.out _ _ _ h
  go_wp2_with fail
  go_at_call 21
  refine cC.mono ?_
  rintro e y7 ⟨b7, rfl⟩
  clear cC c0  c1  c2
  obtain ⟨X7, hX7, hj7, bX7⟩ := box_v4 y7 46 fv
  have bb : Below X6.heap.size X6 X7 := hop b7 bX7
  have Jx7 : Hid (JAt X7 w.heap.size t s (.slice a n c)) := Jx6.out.keep bb
  have Ux7 : Hid (V4 X7 W0.heap.size v) := Ux6.out.keep bb
  have Vx7 : Hid (Vs X7 a n F) := Vx6.out.keep bb
  have JPx7 : Hid (JAt X7 y5.heap.size t s (.slice pa n pc)) := JPx6.out.keep bb
  have VPx7 : Hid (Vs X7 pa n F) := VPx6.out.keep bb
  have B6x7 : Hid (V4 X7 y6.heap.size fv) := B6x6.out.keep bb
  have B7x7 : Hid (V4 X7 y7.heap.size fv) := hj7
  have HBx7 : Hid (Below w.heap.size w X7) := hop HBx6.out bb
  clear bb b7 bX7 hj7 HBx6  Jx6 Ux6 Vx6 JPx6 VPx6 B6x6
  obtain ⟨c0, c1, c2⟩ := JPx7.out
  have cC : Calls Tryd.prog 22 #[.agg #[.int .i64 t, .string s, .slice pa n pc]] X7 fun e w' => Below X7.heap.size X7 w' ∧ e = .returned (.tuple #[.agg #[.int .i64 lv.id, .bool lv.mr, .int .i64 lv.sz, .int .u32 (lv.sm : Int)], .bool lo]) := by
    exact (latest_any t s pa n pc F X7 VPx7.out hn).mono fun e w' h => HLA.out _ _ _ h
  go_wp2_with fail
  go_at_call 22
  refine cC.mono ?_
  rintro e y8 ⟨b8, rfl⟩
  clear cC c0  c1  c2
  obtain ⟨X8, hX8, hj8, bX8⟩ := box_v4 y8 46 lv
  have bb : Below X7.heap.size X7 X8 := hop b8 bX8
  have Jx8 : Hid (JAt X8 w.heap.size t s (.slice a n c)) := Jx7.out.keep bb
  have Ux8 : Hid (V4 X8 W0.heap.size v) := Ux7.out.keep bb
  have Vx8 : Hid (Vs X8 a n F) := Vx7.out.keep bb
  have JPx8 : Hid (JAt X8 y5.heap.size t s (.slice pa n pc)) := JPx7.out.keep bb
  have VPx8 : Hid (Vs X8 pa n F) := VPx7.out.keep bb
  have B6x8 : Hid (V4 X8 y6.heap.size fv) := B6x7.out.keep bb
  have B7x8 : Hid (V4 X8 y7.heap.size fv) := B7x7.out.keep bb
  have B8x8 : Hid (V4 X8 y8.heap.size lv) := hj8
  have HBx8 : Hid (Below w.heap.size w X8) := hop HBx7.out bb
  clear bb b8 bX8 hj8 HBx7  Jx7 Ux7 Vx7 JPx7 VPx7 B6x7 B7x7
  obtain ⟨c0, c1, c2⟩ := Jx8.out
  have cC : Calls Tryd.prog 23 #[.agg #[.int .i64 t, .string s, .slice a n c]] X8 fun e w' => Below X8.heap.size X8 w' ∧ e = .returned (.tuple #[.agg #[.int .i64 lv.id, .bool lv.mr, .int .i64 lv.sz, .int .u32 (lv.sm : Int)], .bool lo]) := by
    exact (rlatest_any t s a n c F X8 Vx8.out hn).mono fun e w' h => HLA.out _ _ _ h
  go_wp2_with fail
  go_at_call 23
  refine cC.mono ?_
  rintro e y9 ⟨b9, rfl⟩
  clear cC c0  c1  c2
  obtain ⟨X9, hX9, hj9, bX9⟩ := box_v4 y9 46 lv
  have bb : Below X8.heap.size X8 X9 := hop b9 bX9
  have Jx9 : Hid (JAt X9 w.heap.size t s (.slice a n c)) := Jx8.out.keep bb
  have Ux9 : Hid (V4 X9 W0.heap.size v) := Ux8.out.keep bb
  have Vx9 : Hid (Vs X9 a n F) := Vx8.out.keep bb
  have JPx9 : Hid (JAt X9 y5.heap.size t s (.slice pa n pc)) := JPx8.out.keep bb
  have VPx9 : Hid (Vs X9 pa n F) := VPx8.out.keep bb
  have B6x9 : Hid (V4 X9 y6.heap.size fv) := B6x8.out.keep bb
  have B7x9 : Hid (V4 X9 y7.heap.size fv) := B7x8.out.keep bb
  have B8x9 : Hid (V4 X9 y8.heap.size lv) := B8x8.out.keep bb
  have B9x9 : Hid (V4 X9 y9.heap.size lv) := hj9
  have HBx9 : Hid (Below w.heap.size w X9) := hop HBx8.out bb
  clear bb b9 bX9 hj9 HBx8  Jx8 Ux8 Vx8 JPx8 VPx8 B6x8 B7x8 B8x8
  obtain ⟨c0, c1, c2⟩ := JPx9.out
  obtain ⟨d0, d1, d2, d3⟩ := Ux9.out
  have cC : Calls Tryd.prog 24 #[.agg #[.int .i64 t, .string s, .slice pa n pc], .agg #[.int .i64 v.id, .bool v.mr, .int .i64 v.sz, .int .u32 (v.sm : Int)]] X9 fun e w' => Below X9.heap.size X9 w' ∧ ∃ a' c', e = .returned (.tuple #[.agg #[.int .i64 ta, .string sa, .slice a' am c'], .int .i64 ac]) ∧ Vs w' a' am AG ∧ (a' = none → am = 0 ∧ c' = 0) := by
    exact (add_any t s pa n pc F v X9 VPx9.out hvf hs hn).mono fun e w' h => HAA.out _ _ _ h
  go_wp2_with fail
  go_at_call 24
  refine cC.mono ?_
  rintro e y10 ⟨b10, a10, c10, rfl, hv10, z10⟩
  clear cC c0  c1  c2 d0  d1  d2  d3
  obtain ⟨X10, hX10, hj10, bX10⟩ := box_jn y10 31 ta sa (.slice a10 am c10)
  have bb : Below X9.heap.size X9 X10 := hop b10 bX10
  have Jx10 : Hid (JAt X10 w.heap.size t s (.slice a n c)) := Jx9.out.keep bb
  have Ux10 : Hid (V4 X10 W0.heap.size v) := Ux9.out.keep bb
  have Vx10 : Hid (Vs X10 a n F) := Vx9.out.keep bb
  have JPx10 : Hid (JAt X10 y5.heap.size t s (.slice pa n pc)) := JPx9.out.keep bb
  have VPx10 : Hid (Vs X10 pa n F) := VPx9.out.keep bb
  have B6x10 : Hid (V4 X10 y6.heap.size fv) := B6x9.out.keep bb
  have B7x10 : Hid (V4 X10 y7.heap.size fv) := B7x9.out.keep bb
  have B8x10 : Hid (V4 X10 y8.heap.size lv) := B8x9.out.keep bb
  have B9x10 : Hid (V4 X10 y9.heap.size lv) := B9x9.out.keep bb
  have B10x10 : Hid (JAt X10 y10.heap.size ta sa (.slice a10 am c10)) := hj10
  have D10x10 : Hid (Vs X10 a10 am AG) := hv10.keep bX10
  have HBx10 : Hid (Below w.heap.size w X10) := hop HBx9.out bb
  clear bb b10 bX10 hj10 HBx9 hv10 Jx9 Ux9 Vx9 JPx9 VPx9 B6x9 B7x9 B8x9 B9x9
  have Z10 : Hid (a10 = none → am = 0 ∧ c10 = 0) := z10
  clear z10
  obtain ⟨c0, c1, c2⟩ := Jx10.out
  obtain ⟨d0, d1, d2, d3⟩ := Ux10.out
  have cC : Calls Tryd.prog 25 #[.agg #[.int .i64 t, .string s, .slice a n c], .agg #[.int .i64 v.id, .bool v.mr, .int .i64 v.sz, .int .u32 (v.sm : Int)]] X10 fun e w' => Below X10.heap.size X10 w' ∧ ∃ a' c', e = .returned (.tuple #[.agg #[.int .i64 ta, .string sa, .slice a' am c'], .int .i64 ac]) ∧ Vs w' a' am AG ∧ (a' = none → am = 0 ∧ c' = 0) := by
    exact (radd_any t s a n c F v X10 Vx10.out HZ.out hvf hs hn).mono fun e w' h => HAA.out _ _ _ h
  go_wp2_with fail
  go_at_call 25
  refine cC.mono ?_
  rintro e y11 ⟨b11, a11, c11, rfl, hv11, z11⟩
  clear cC c0  c1  c2 d0  d1  d2  d3
  obtain ⟨X11, hX11, hj11, bX11⟩ := box_jn y11 24 ta sa (.slice a11 am c11)
  have bb : Below X10.heap.size X10 X11 := hop b11 bX11
  have Jx11 : Hid (JAt X11 w.heap.size t s (.slice a n c)) := Jx10.out.keep bb
  have Ux11 : Hid (V4 X11 W0.heap.size v) := Ux10.out.keep bb
  have Vx11 : Hid (Vs X11 a n F) := Vx10.out.keep bb
  have JPx11 : Hid (JAt X11 y5.heap.size t s (.slice pa n pc)) := JPx10.out.keep bb
  have VPx11 : Hid (Vs X11 pa n F) := VPx10.out.keep bb
  have B6x11 : Hid (V4 X11 y6.heap.size fv) := B6x10.out.keep bb
  have B7x11 : Hid (V4 X11 y7.heap.size fv) := B7x10.out.keep bb
  have B8x11 : Hid (V4 X11 y8.heap.size lv) := B8x10.out.keep bb
  have B9x11 : Hid (V4 X11 y9.heap.size lv) := B9x10.out.keep bb
  have B10x11 : Hid (JAt X11 y10.heap.size ta sa (.slice a10 am c10)) := B10x10.out.keep bb
  have D10x11 : Hid (Vs X11 a10 am AG) := D10x10.out.keep bb
  have B11x11 : Hid (JAt X11 y11.heap.size ta sa (.slice a11 am c11)) := hj11
  have D11x11 : Hid (Vs X11 a11 am AG) := hv11.keep bX11
  have HBx11 : Hid (Below w.heap.size w X11) := hop HBx10.out bb
  clear bb b11 bX11 hj11 HBx10 hv11 Jx10 Ux10 Vx10 JPx10 VPx10 B6x10 B7x10 B8x10 B9x10 B10x10 D10x10
  have Z11 : Hid (a11 = none → am = 0 ∧ c11 = 0) := z11
  clear z11
  obtain ⟨c0, c1, c2⟩ := JPx11.out
  have cC : Calls Tryd.prog 26 #[.agg #[.int .i64 t, .string s, .slice pa n pc], .int .i64 id] X11 fun e w' => Below X11.heap.size X11 w' ∧ ∃ a' c', e = .returned (.tuple #[.agg #[.int .i64 dt, .string ds, .slice a' dm c'], .bool dk]) ∧ Vs w' a' dm DG ∧ (a' = none → dm = 0 ∧ c' = 0) := by
    exact (drop_any t s pa n pc F id X11 VPx11.out phc (by omega)).mono fun e w' h => HDA.out _ _ _ h
  go_wp2_with fail
  go_at_call 26
  refine cC.mono ?_
  rintro e y12 ⟨b12, a12, c12, rfl, hv12, z12⟩
  clear cC c0  c1  c2
  obtain ⟨X12, hX12, hj12, bX12⟩ := box_jn y12 31 dt ds (.slice a12 dm c12)
  have bb : Below X11.heap.size X11 X12 := hop b12 bX12
  have Jx12 : Hid (JAt X12 w.heap.size t s (.slice a n c)) := Jx11.out.keep bb
  have Ux12 : Hid (V4 X12 W0.heap.size v) := Ux11.out.keep bb
  have Vx12 : Hid (Vs X12 a n F) := Vx11.out.keep bb
  have JPx12 : Hid (JAt X12 y5.heap.size t s (.slice pa n pc)) := JPx11.out.keep bb
  have VPx12 : Hid (Vs X12 pa n F) := VPx11.out.keep bb
  have B6x12 : Hid (V4 X12 y6.heap.size fv) := B6x11.out.keep bb
  have B7x12 : Hid (V4 X12 y7.heap.size fv) := B7x11.out.keep bb
  have B8x12 : Hid (V4 X12 y8.heap.size lv) := B8x11.out.keep bb
  have B9x12 : Hid (V4 X12 y9.heap.size lv) := B9x11.out.keep bb
  have B10x12 : Hid (JAt X12 y10.heap.size ta sa (.slice a10 am c10)) := B10x11.out.keep bb
  have D10x12 : Hid (Vs X12 a10 am AG) := D10x11.out.keep bb
  have B11x12 : Hid (JAt X12 y11.heap.size ta sa (.slice a11 am c11)) := B11x11.out.keep bb
  have D11x12 : Hid (Vs X12 a11 am AG) := D11x11.out.keep bb
  have B12x12 : Hid (JAt X12 y12.heap.size dt ds (.slice a12 dm c12)) := hj12
  have D12x12 : Hid (Vs X12 a12 dm DG) := hv12.keep bX12
  have HBx12 : Hid (Below w.heap.size w X12) := hop HBx11.out bb
  clear bb b12 bX12 hj12 HBx11 hv12 Jx11 Ux11 Vx11 JPx11 VPx11 B6x11 B7x11 B8x11 B9x11 B10x11 D10x11 B11x11 D11x11
  have Z12 : Hid (a12 = none → dm = 0 ∧ c12 = 0) := z12
  clear z12
  obtain ⟨c0, c1, c2⟩ := Jx12.out
  have cC : Calls Tryd.prog 27 #[.agg #[.int .i64 t, .string s, .slice a n c], .int .i64 id] X12 fun e w' => Below X12.heap.size X12 w' ∧ ∃ a' c', e = .returned (.tuple #[.agg #[.int .i64 dt, .string ds, .slice a' dm c'], .bool dk]) ∧ Vs w' a' dm DG ∧ (a' = none → dm = 0 ∧ c' = 0) := by
    exact (rdrop_any t s a n c F id X12 Vx12.out (by omega)).mono fun e w' h => HDA.out _ _ _ h
  go_wp2_with fail
  go_at_call 27
  refine cC.mono ?_
  rintro e y13 ⟨b13, a13, c13, rfl, hv13, z13⟩
  clear cC c0  c1  c2
  obtain ⟨X13, hX13, hj13, bX13⟩ := box_jn y13 24 dt ds (.slice a13 dm c13)
  have bb : Below X12.heap.size X12 X13 := hop b13 bX13
  have Jx13 : Hid (JAt X13 w.heap.size t s (.slice a n c)) := Jx12.out.keep bb
  have Ux13 : Hid (V4 X13 W0.heap.size v) := Ux12.out.keep bb
  have Vx13 : Hid (Vs X13 a n F) := Vx12.out.keep bb
  have JPx13 : Hid (JAt X13 y5.heap.size t s (.slice pa n pc)) := JPx12.out.keep bb
  have VPx13 : Hid (Vs X13 pa n F) := VPx12.out.keep bb
  have B6x13 : Hid (V4 X13 y6.heap.size fv) := B6x12.out.keep bb
  have B7x13 : Hid (V4 X13 y7.heap.size fv) := B7x12.out.keep bb
  have B8x13 : Hid (V4 X13 y8.heap.size lv) := B8x12.out.keep bb
  have B9x13 : Hid (V4 X13 y9.heap.size lv) := B9x12.out.keep bb
  have B10x13 : Hid (JAt X13 y10.heap.size ta sa (.slice a10 am c10)) := B10x12.out.keep bb
  have D10x13 : Hid (Vs X13 a10 am AG) := D10x12.out.keep bb
  have B11x13 : Hid (JAt X13 y11.heap.size ta sa (.slice a11 am c11)) := B11x12.out.keep bb
  have D11x13 : Hid (Vs X13 a11 am AG) := D11x12.out.keep bb
  have B12x13 : Hid (JAt X13 y12.heap.size dt ds (.slice a12 dm c12)) := B12x12.out.keep bb
  have D12x13 : Hid (Vs X13 a12 dm DG) := D12x12.out.keep bb
  have B13x13 : Hid (JAt X13 y13.heap.size dt ds (.slice a13 dm c13)) := hj13
  have D13x13 : Hid (Vs X13 a13 dm DG) := hv13.keep bX13
  have HBx13 : Hid (Below w.heap.size w X13) := hop HBx12.out bb
  clear bb b13 bX13 hj13 HBx12 hv13 Jx12 Ux12 Vx12 JPx12 VPx12 B6x12 B7x12 B8x12 B9x12 B10x12 D10x12 B11x12 D11x12 B12x12 D12x12
  have Z13 : Hid (a13 = none → dm = 0 ∧ c13 = 0) := z13
  clear z13
  have HS : Hid (∀ Y, Below X13.heap.size X13 Y → Y.cell? ⟨w.heap.size, 0, none⟩ = some (.int .i64 t) ∧ Y.cell? ⟨w.heap.size, 1, none⟩ = some (.string s) ∧ Y.cell? ⟨w.heap.size, 2, none⟩ = some (.slice a n c) ∧ Y.cell? ⟨y5.heap.size, 0, none⟩ = some (.int .i64 t) ∧ Y.cell? ⟨y5.heap.size, 1, none⟩ = some (.string s) ∧ Y.cell? ⟨y5.heap.size, 2, none⟩ = some (.slice pa n pc) ∧ Y.cell? ⟨y6.heap.size, 0, none⟩ = some (.int .i64 fv.id) ∧ Y.cell? ⟨y6.heap.size, 1, none⟩ = some (.bool fv.mr) ∧ Y.cell? ⟨y6.heap.size, 2, none⟩ = some (.int .i64 fv.sz) ∧ Y.cell? ⟨y6.heap.size, 3, none⟩ = some (.int .u32 (fv.sm : Int)) ∧ Y.cell? ⟨y7.heap.size, 0, none⟩ = some (.int .i64 fv.id) ∧ Y.cell? ⟨y7.heap.size, 1, none⟩ = some (.bool fv.mr) ∧ Y.cell? ⟨y7.heap.size, 2, none⟩ = some (.int .i64 fv.sz) ∧ Y.cell? ⟨y7.heap.size, 3, none⟩ = some (.int .u32 (fv.sm : Int)) ∧ Y.cell? ⟨y8.heap.size, 0, none⟩ = some (.int .i64 lv.id) ∧ Y.cell? ⟨y8.heap.size, 1, none⟩ = some (.bool lv.mr) ∧ Y.cell? ⟨y8.heap.size, 2, none⟩ = some (.int .i64 lv.sz) ∧ Y.cell? ⟨y8.heap.size, 3, none⟩ = some (.int .u32 (lv.sm : Int)) ∧ Y.cell? ⟨y9.heap.size, 0, none⟩ = some (.int .i64 lv.id) ∧ Y.cell? ⟨y9.heap.size, 1, none⟩ = some (.bool lv.mr) ∧ Y.cell? ⟨y9.heap.size, 2, none⟩ = some (.int .i64 lv.sz) ∧ Y.cell? ⟨y9.heap.size, 3, none⟩ = some (.int .u32 (lv.sm : Int)) ∧ Y.cell? ⟨y10.heap.size, 0, none⟩ = some (.int .i64 ta) ∧ Y.cell? ⟨y10.heap.size, 1, none⟩ = some (.string sa) ∧ Y.cell? ⟨y10.heap.size, 2, none⟩ = some (.slice a10 am c10) ∧ Y.cell? ⟨y11.heap.size, 0, none⟩ = some (.int .i64 ta) ∧ Y.cell? ⟨y11.heap.size, 1, none⟩ = some (.string sa) ∧ Y.cell? ⟨y11.heap.size, 2, none⟩ = some (.slice a11 am c11) ∧ Y.cell? ⟨y12.heap.size, 0, none⟩ = some (.int .i64 dt) ∧ Y.cell? ⟨y12.heap.size, 1, none⟩ = some (.string ds) ∧ Y.cell? ⟨y12.heap.size, 2, none⟩ = some (.slice a12 dm c12) ∧ Y.cell? ⟨y13.heap.size, 0, none⟩ = some (.int .i64 dt) ∧ Y.cell? ⟨y13.heap.size, 1, none⟩ = some (.string ds) ∧ Y.cell? ⟨y13.heap.size, 2, none⟩ = some (.slice a13 dm c13)) := fun Y h => ⟨(Jx13.out.keep h).c0, (Jx13.out.keep h).c1, (Jx13.out.keep h).c2, (JPx13.out.keep h).c0, (JPx13.out.keep h).c1, (JPx13.out.keep h).c2, (B6x13.out.keep h).c0, (B6x13.out.keep h).c1, (B6x13.out.keep h).c2, (B6x13.out.keep h).c3, (B7x13.out.keep h).c0, (B7x13.out.keep h).c1, (B7x13.out.keep h).c2, (B7x13.out.keep h).c3, (B8x13.out.keep h).c0, (B8x13.out.keep h).c1, (B8x13.out.keep h).c2, (B8x13.out.keep h).c3, (B9x13.out.keep h).c0, (B9x13.out.keep h).c1, (B9x13.out.keep h).c2, (B9x13.out.keep h).c3, (B10x13.out.keep h).c0, (B10x13.out.keep h).c1, (B10x13.out.keep h).c2, (B11x13.out.keep h).c0, (B11x13.out.keep h).c1, (B11x13.out.keep h).c2, (B12x13.out.keep h).c0, (B12x13.out.keep h).c1, (B12x13.out.keep h).c2, (B13x13.out.keep h).c0, (B13x13.out.keep h).c1, (B13x13.out.keep h).c2⟩
  have bD : Below X13.heap.size X13 X13.drew := (Below.refl _ _).drew
  have hN2 : n ≤ maxLen := hn
  have hA2 : am ≤ maxLen := by unfold maxLen; omega
  have hD2 : dm ≤ maxLen := by unfold maxLen; omega
  obtain ⟨sd, hsd⟩ : ∃ sd, decide (SameJ t ta s sa n am F AG) = sd := ⟨_, rfl⟩
  have K : Hid (Calls Tryd.prog 19 #[.agg #[.int .i64 ta, .string sa, .slice a10 am c10]] X13.drew fun e x1 => ∃ ka1 kc1, e = .returned (.agg #[.int .i64 ta, .string sa, .slice ka1 am kc1]) ∧ Below X13.heap.size X13 x1 ∧ Calls Tryd.prog 18 #[.agg #[.int .i64 ta, .string sa, .slice ka1 am kc1], .agg #[.int .i64 ta, .string sa, .slice a11 am c11]] x1 fun e x2 => e = .returned (.bool true) ∧ Below X13.heap.size X13 x2 ∧ Calls Tryd.prog 19 #[.agg #[.int .i64 dt, .string ds, .slice a12 dm c12]] x2 fun e x3 => ∃ ka3 kc3, e = .returned (.agg #[.int .i64 dt, .string ds, .slice ka3 dm kc3]) ∧ Below X13.heap.size X13 x3 ∧ Calls Tryd.prog 18 #[.agg #[.int .i64 dt, .string ds, .slice ka3 dm kc3], .agg #[.int .i64 dt, .string ds, .slice a13 dm c13]] x3 fun e x4 => e = .returned (.bool true) ∧ Below X13.heap.size X13 x4 ∧ Calls Tryd.prog 19 #[.agg #[.int .i64 t, .string s, .slice pa n pc]] x4 fun e x5 => ∃ ka5 kc5, e = .returned (.agg #[.int .i64 t, .string s, .slice ka5 n kc5]) ∧ Below X13.heap.size X13 x5 ∧ Calls Tryd.prog 18 #[.agg #[.int .i64 t, .string s, .slice ka5 n kc5], .agg #[.int .i64 t, .string s, .slice a n c]] x5 fun e x6 => e = .returned (.bool true) ∧ Below X13.heap.size X13 x6 ∧ Calls Tryd.prog 12 #[.agg #[.int .i64 t, .string s, .slice a n c]] x6 fun e x7 => ∃ ka7 kc7, e = .returned (.agg #[.int .i64 t, .string s, .slice ka7 n kc7]) ∧ Below X13.heap.size X13 x7 ∧ Calls Tryd.prog 28 #[.agg #[.int .i64 t, .string s, .slice pa n pc], .agg #[.int .i64 t, .string s, .slice ka7 n kc7]] x7 fun e x8 => e = .returned (.bool true) ∧ Below X13.heap.size X13 x8 ∧ Calls Tryd.prog 28 #[.agg #[.int .i64 t, .string s, .slice pa n pc], .agg #[.int .i64 ta, .string sa, .slice a10 am c10]] x8 fun e x9 => e = .returned (.bool sd) ∧ Below X13.heap.size X13 x9 ∧ Calls Tryd.prog 18 #[.agg #[.int .i64 t, .string s, .slice a n c], .agg #[.int .i64 ta, .string sa, .slice a11 am c11]] x9 fun e x10 => e = .returned (.bool sd) ∧ Below X13.heap.size X13 x10) := by
    refine (back_any ta sa a10 am c10 AG _ (D10x13.out.keep bD) Z10.out (by omega)).mono ?_
    rintro e g0 ⟨_, rfl, ⟨q1, k1, rfl, h1, _, _⟩, e0⟩
    have f0 := hop bD e0
    refine ⟨q1, k1, rfl, f0, ?_⟩
    refine (rsame_any q1 a11 am am k1 c11 ta ta sa sa AG AG _ h1 (D11x13.out.keep f0) hA2 hA2).mono ?_
    rintro e g1 ⟨rfl, e1⟩
    have f1 := hop f0 e1
    rw [decide_eq_true (show SameJ ta ta sa sa am am AG AG from ⟨rfl, rfl, rfl, fun i hi => rfl⟩)]
    refine ⟨rfl, f1, ?_⟩
    refine (back_any dt ds a12 dm c12 DG _ (D12x13.out.keep f1) Z12.out (by omega)).mono ?_
    rintro e g2 ⟨_, rfl, ⟨q3, k3, rfl, h3, _, _⟩, e2⟩
    have f2 := hop f1 e2
    refine ⟨q3, k3, rfl, f2, ?_⟩
    refine (rsame_any q3 a13 dm dm k3 c13 dt dt ds ds DG DG _ h3 (D13x13.out.keep f2) hD2 hD2).mono ?_
    rintro e g3 ⟨rfl, e3⟩
    have f3 := hop f2 e3
    rw [decide_eq_true (show SameJ dt dt ds ds dm dm DG DG from ⟨rfl, rfl, rfl, fun i hi => rfl⟩)]
    refine ⟨rfl, f3, ?_⟩
    refine (back_any t s pa n pc F _ (VPx13.out.keep f3) HPZ.out (by omega)).mono ?_
    rintro e g4 ⟨_, rfl, ⟨q5, k5, rfl, h5, _, _⟩, e4⟩
    have f4 := hop f3 e4
    refine ⟨q5, k5, rfl, f4, ?_⟩
    refine (rsame_any q5 a n n k5 c t t s s F F _ h5 (Vx13.out.keep f4) hN2 hN2).mono ?_
    rintro e g5 ⟨rfl, e5⟩
    have f5 := hop f4 e5
    rw [decide_eq_true (show SameJ t t s s n n F F from ⟨rfl, rfl, rfl, fun i hi => rfl⟩)]
    refine ⟨rfl, f5, ?_⟩
    refine (journal_any t s a n c F _ (Vx13.out.keep f5) HZ.out (by omega)).mono ?_
    rintro e g6 ⟨_, rfl, ⟨q7, k7, rfl, h7, _, _⟩, e6⟩
    have f6 := hop f5 e6
    refine ⟨q7, k7, rfl, f6, ?_⟩
    refine (same_any pa q7 n n pc k7 t t s s F F _ (VPx13.out.keep f6) h7 hN2 hN2).mono ?_
    rintro e g7 ⟨rfl, e7⟩
    have f7 := hop f6 e7
    rw [decide_eq_true (show SameJ t t s s n n F F from ⟨rfl, rfl, rfl, fun i hi => rfl⟩)]
    refine ⟨rfl, f7, ?_⟩
    refine (same_any pa a10 n am pc c10 t ta s sa F AG _ (VPx13.out.keep f7) (D10x13.out.keep f7) hN2 hA2).mono ?_
    rintro e g8 ⟨rfl, e8⟩
    have f8 := hop f7 e8
    rw [hsd]
    refine ⟨rfl, f8, ?_⟩
    refine (rsame_any a a11 n am c c11 t ta s sa F AG _ (Vx13.out.keep f8) (D11x13.out.keep f8) hN2 hA2).mono ?_
    rintro e g9 ⟨rfl, e9⟩
    have f9 := hop f8 e9
    rw [hsd]
    exact ⟨rfl, f9⟩
  have q0 := HS.out X13.drew bD
  obtain ⟨u0, u1, u2, u3, u4, u5, u6, u7, u8, u9, u10, u11, u12, u13, u14, u15, u16, u17, u18, u19, u20, u21, u22, u23, u24, u25, u26, u27, u28, u29, u30, u31, u32, u33⟩ := q0
  clear hsd bD hA2 hD2 hN2 HPZ HZ HFA HLA HAA HDA Z10 Z11 Z12 Z13 Jx13 Ux13 Vx13 JPx13 VPx13 B6x13 B7x13 B8x13 B9x13 B10x13 D10x13 B11x13 D11x13 B12x13 D12x13 B13x13 D13x13
  go_wp2_with fail
  go_region_held3 (fun Y => Y.cell? ⟨w.heap.size, 0, none⟩ = some (.int .i64 t) ∧ Y.cell? ⟨w.heap.size, 1, none⟩ = some (.string s) ∧ Y.cell? ⟨w.heap.size, 2, none⟩ = some (.slice a n c) ∧ Y.cell? ⟨y5.heap.size, 0, none⟩ = some (.int .i64 t) ∧ Y.cell? ⟨y5.heap.size, 1, none⟩ = some (.string s) ∧ Y.cell? ⟨y5.heap.size, 2, none⟩ = some (.slice pa n pc) ∧ Y.cell? ⟨y6.heap.size, 0, none⟩ = some (.int .i64 fv.id) ∧ Y.cell? ⟨y6.heap.size, 1, none⟩ = some (.bool fv.mr) ∧ Y.cell? ⟨y6.heap.size, 2, none⟩ = some (.int .i64 fv.sz) ∧ Y.cell? ⟨y6.heap.size, 3, none⟩ = some (.int .u32 (fv.sm : Int)) ∧ Y.cell? ⟨y7.heap.size, 0, none⟩ = some (.int .i64 fv.id) ∧ Y.cell? ⟨y7.heap.size, 1, none⟩ = some (.bool fv.mr) ∧ Y.cell? ⟨y7.heap.size, 2, none⟩ = some (.int .i64 fv.sz) ∧ Y.cell? ⟨y7.heap.size, 3, none⟩ = some (.int .u32 (fv.sm : Int)) ∧ Y.cell? ⟨y8.heap.size, 0, none⟩ = some (.int .i64 lv.id) ∧ Y.cell? ⟨y8.heap.size, 1, none⟩ = some (.bool lv.mr) ∧ Y.cell? ⟨y8.heap.size, 2, none⟩ = some (.int .i64 lv.sz) ∧ Y.cell? ⟨y8.heap.size, 3, none⟩ = some (.int .u32 (lv.sm : Int)) ∧ Y.cell? ⟨y9.heap.size, 0, none⟩ = some (.int .i64 lv.id) ∧ Y.cell? ⟨y9.heap.size, 1, none⟩ = some (.bool lv.mr) ∧ Y.cell? ⟨y9.heap.size, 2, none⟩ = some (.int .i64 lv.sz) ∧ Y.cell? ⟨y9.heap.size, 3, none⟩ = some (.int .u32 (lv.sm : Int)) ∧ Y.cell? ⟨y10.heap.size, 0, none⟩ = some (.int .i64 ta) ∧ Y.cell? ⟨y10.heap.size, 1, none⟩ = some (.string sa) ∧ Y.cell? ⟨y10.heap.size, 2, none⟩ = some (.slice a10 am c10) ∧ Y.cell? ⟨y11.heap.size, 0, none⟩ = some (.int .i64 ta) ∧ Y.cell? ⟨y11.heap.size, 1, none⟩ = some (.string sa) ∧ Y.cell? ⟨y11.heap.size, 2, none⟩ = some (.slice a11 am c11) ∧ Y.cell? ⟨y12.heap.size, 0, none⟩ = some (.int .i64 dt) ∧ Y.cell? ⟨y12.heap.size, 1, none⟩ = some (.string ds) ∧ Y.cell? ⟨y12.heap.size, 2, none⟩ = some (.slice a12 dm c12) ∧ Y.cell? ⟨y13.heap.size, 0, none⟩ = some (.int .i64 dt) ∧ Y.cell? ⟨y13.heap.size, 1, none⟩ = some (.string ds) ∧ Y.cell? ⟨y13.heap.size, 2, none⟩ = some (.slice a13 dm c13))
    (first | with_reducible exact ⟨u0, u1, u2, u3, u4, u5, u6, u7, u8, u9, u10, u11, u12, u13, u14, u15, u16, u17, u18, u19, u20, u21, u22, u23, u24, u25, u26, u27, u28, u29, u30, u31, u32, u33⟩ | with_reducible exact HS.out _ m10 | with_reducible exact HS.out _ m9 | with_reducible exact HS.out _ m8 | with_reducible exact HS.out _ m7 | with_reducible exact HS.out _ m6 | with_reducible exact HS.out _ m5 | with_reducible exact HS.out _ m4 | with_reducible exact HS.out _ m3 | with_reducible exact HS.out _ m2 | with_reducible exact HS.out _ m1)
    (first
      | (go_at_call 19; with_reducible refine K.out.mono ?_; rintro e x1 ⟨ka1, kc1, rfl, m1, p1⟩)
      | (go_at_call 18; with_reducible refine p1.mono ?_; rintro e x2 ⟨rfl, m2, p2⟩)
      | (go_at_call 19; with_reducible refine p2.mono ?_; rintro e x3 ⟨ka3, kc3, rfl, m3, p3⟩)
      | (go_at_call 18; with_reducible refine p3.mono ?_; rintro e x4 ⟨rfl, m4, p4⟩)
      | (go_at_call 19; with_reducible refine p4.mono ?_; rintro e x5 ⟨ka5, kc5, rfl, m5, p5⟩)
      | (go_at_call 18; with_reducible refine p5.mono ?_; rintro e x6 ⟨rfl, m6, p6⟩)
      | (go_at_call 12; with_reducible refine p6.mono ?_; rintro e x7 ⟨ka7, kc7, rfl, m7, p7⟩)
      | (go_at_call 28; with_reducible refine p7.mono ?_; rintro e x8 ⟨rfl, m8, p8⟩)
      | (go_at_call 28; with_reducible refine p8.mono ?_; rintro e x9 ⟨rfl, m9, p9⟩)
      | (go_at_call 18; with_reducible refine p9.mono ?_; rintro e x10 ⟨rfl, m10⟩))
  all_goals
    go_wp2
    go_ret
    exact ⟨rfl, hop HBx13.out m10⟩


set_option maxRecDepth 100000 in
theorem lifted (os : Os) (started : os.Started) (H : Type) (enc : TypeId × Value → H) :
    ReturnsInHanded {} Tryd.checked os 6 .any (fun w args => (Rows.journalChangesSpec.pre enc Tryd.prog Tryd.f6 [] false w args ∧ laidMetH Tryd.prog laidAll w) ∧ sizedMet enc Tryd.prog Tryd.f6 (OpenSpec.ofChange Rows.journalChangesSpec) false w args) (Rows.journalChangesSpec.post enc Tryd.prog Tryd.f6 false true false false) := by
  refine returnsInHanded_of_change_and (C := Tryd.checked) (X := fun w _ => laidMetH Tryd.prog laidAll w) (fun _ _ _ hh h => h.of_heap hh) own started (by kernel_rfl) Tryd.func6
    (ChangeSpec.witness_shaped (enc := enc) (C := Tryd.checked) (os := os) (X := fun w _ => laidMetH Tryd.prog laidAll w) false (World.doorLaid Tryd.prog 400 os) #[.agg #[.int .i64 0, .string { data := #[] }, .slice none 0 0], .agg #[.int .i64 0, .bool false, .int .i64 0, .int .u32 0], .int .i64 0] 8 rfl (World.shaped_of_RefB (by kernel_rfl) (by kernel_rfl)) (by kernel_rfl) (by kernel_rfl) (by kernel_rfl) (door_met os _)) ?_
  intro W base args ds gs before hval0 hW _ hsz0 hL _
  have hval : ∀ (j : Nat) t v, Tryd.f6.params[j]? = some t → args[j]? = some v → Value.okWide Tryd.prog W .any base t v := hval0
  have hW' := hW
  obtain ⟨p, q, hA0, hV, rfl, hfz, hnd⟩ := hW
  have hA : DataW.TrodAll enc Tryd.prog W 0 (fun _ => true) true Tryd.f6.params.toList args.toList ds p := hA0
  rw [Tryd.params6] at hA hval
  have T := halfT_of hL
  obtain ⟨v0, vs0, d0, ds0, p0, q0, hargs, rfl, rfl, h0, r0⟩ := trodAll_cons hA
  obtain ⟨v1, vs1, d1, ds1, p1, q1, rfl, rfl, rfl, h1, r1⟩ := trodAll_cons r0
  obtain ⟨v2, vs2, d2, ds2, p2, q2, rfl, rfl, rfl, h2, r2⟩ := trodAll_cons r1
  obtain ⟨rfl, rfl, rfl⟩ := trodAll_nil r2
  obtain rfl : args = #[v0, v1, v2] := by cases args; simp_all
  obtain ⟨rfl, rfl⟩ := trodVars_none hV
  have k0 := h0
  have lt0 : ∀ x ∈ p0, x.block < W.heap.size := by obtain ⟨m, hm⟩ := k0; exact DataW.trod_lt m _ _ _ hm
  obtain ⟨t0, s0, a0, n0, c0, F0, rfl, e0, g0, m0, z0, l0, b0⟩ := open_jn (hval 0 24 v0 rfl rfl) h0
  have k1 := h1
  have lt1 : ∀ x ∈ p1, x.block < W.heap.size := by obtain ⟨m, hm⟩ := k1; exact DataW.trod_lt m _ _ _ hm
  obtain ⟨u1, e1, rfl⟩ := open_ver (hval 1 46 v1 rfl rfl) h1
  have k2 := h2
  have lt2 : ∀ x ∈ p2, x.block < W.heap.size := by obtain ⟨m, hm⟩ := k2; exact DataW.trod_lt m _ _ _ hm
  obtain ⟨x2, rfl, _, _, w2⟩ := open_int Tryd.underlying3 (hval 2 3 v2 rfl rfl) h2
  have e2 : -9223372036854775808 ≤ x2 ∧ x2 ≤ 9223372036854775807 := by simpa [Lit.wf, IntKind.min, IntKind.max, IntKind.signed, IntKind.bits] using w2
  clear hA0 hval0 hsz0 hL
  refine (core t0 s0 a0 n0 c0 F0 u1 x2 W T e0 g0 m0 z0 l0 b0 e1 e2.1 e2.2).mono fun e W' ⟨he, bel⟩ => ?_
  subst he
  exact ⟨_, rfl, _, _, _, [], _, [], hW', trodAll_mk1 (shut_bool Tryd.underlying4 _), (trodAll_cons_mk (Below.trod laidOut (by kernel_rfl) (of_decide_eq_true (by kernel_rfl)) k0 bel lt0) (trodAll_cons_mk (Below.trod laidOut (by kernel_rfl) (of_decide_eq_true (by kernel_rfl)) k1 bel lt1) (trodAll_cons_mk (Below.trod laidOut (by kernel_rfl) (of_decide_eq_true (by kernel_rfl)) k2 bel lt2) trodAll_mk0))), rfl, bel.frame _, fun h => by cases h⟩

theorem over : Rows.journalChangesRow.holds Tryd.pinned (OpenSpec.ofChange Rows.journalChangesSpec) :=
  OpenClaim.holds_of_wide 6 Tryd.f6 rfl rfl rfl rfl rfl rfl rfl ⟨rfl, rfl, rfl, rfl, rfl⟩ rfl rfl rfl rfl rfl (by kernel_rfl) Tryd.func6 (by kernel_rfl)
    (of_decide_eq_true (by kernel_rfl)) (by unfold Func.isWrapper; first | (rw [if_pos (by decide +kernel)]; kernel_rfl) | (rw [if_neg (by decide +kernel)]; exact ⟨rfl, rfl⟩))
    (fun os started H enc _ => lifted os started H enc)

end journalChanges

/-- The statement. -/
theorem journalChanges_holds : Rows.JournalChangesCardSaid :=
  Claim7.holds_tied_plain_at .later [] [.data] true (true, "b01ff8a6c8b92320785ce916cd8b28e8ad0e0f9566158e0aa5de0e22eeab96d7") false
    journalChanges.over (fun _ h => by cases h) (by kernel_rfl) (fun _ h => by cases h) journalChanges_row_tie rfl ⟨rfl, rfl⟩ (by kernel_rfl) rfl
    (fun f fn hf hfn => by
      obtain rfl : f = 6 := Option.some.inj ((show Tryd.prog.funcNamed "strongbox/strongboxlaw7.JournalChanges" = some 6 by kernel_rfl).symm.trans hf) |>.symm
      obtain rfl : fn = Tryd.f6 := (Option.some.inj (Tryd.func6.symm.trans hfn)).symm
      exact ⟨by kernel_rfl, fun j t ht => by
        rw [Tryd.params6] at ht
        have hm : t ∈ [24, 46, 3] := by simpa using Array.mem_of_getElem? ht
        have hall : ([24, 46, 3].all fun u => !Tryd.prog.wantsStandIn u) = true := by kernel_rfl
        exact (show Tryd.prog.wantsStandIn t = false by simpa using List.all_eq_true.1 hall t hm)⟩)
    (by kernel_rfl)
#print axioms journalChanges_holds
end Go.Proofs.YtigjhdcinaefbaaDoor
