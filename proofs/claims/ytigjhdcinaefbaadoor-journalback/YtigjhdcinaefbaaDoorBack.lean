/-
  The law JournalBack of layer 7 (what was written is read as it was; what is read, written again, is the bytes) answers true for all journals and bytes, where crc's table is as the program's text lays it.
-/
import Derived.Test.YtigjhdcinaefbaaDoorRows
import Derived.WalkKit
import Derived.ProofKit
import Derived.OpenShut
import Derived.ShutString
import Derived.ChangeOld
import Derived.Below
import Derived.SizedLaws
import Derived.LaidMore
import Derived.Stop.Joined
import Derived.SevenTiedAt
import Derived.Test.YtigjhdcinaefbaaDoorCards
import Derived.Test.YtigjhdcinaefbaaDoorTie
import Derived.Test.YtigjhdcinaefbaaDoorJnX
import Derived.Test.YtigjhdcinaefbaaDoorJnL
import Derived.Test.YtigjhdcinaefbaaDoorJnT
import Derived.Test.YtigjhdcinaefbaaDoorLaid4
import Derived.Test.YtigjhdcinaefbaaDoorOp7
namespace Go.Proofs.YtigjhdcinaefbaaDoor
namespace journalBack
open Go.ChangeShapes Go.WideShapes Go.ChangeAt Go.RowKit Crc
set_option linter.unusedVariables false
attribute [local go_sem ↓] Go.wp_at_zero Go.wp_at_succ

theorem own : ownKnob Tryd.prog.godebug = none := by kernel_rfl
theorem laidOut : laidOutB Tryd.prog = true := by kernel_rfl


theorem jf_nm {t N n : Nat} {nm nm' : Nat → Nat} {F : Nat → Ver} (h : ∀ i, i < N → nm i = nm' i) (i : Nat) : jf t N nm n F i = jf t N nm' n F i := by
  have hb : jb t N nm n F = jb t N nm' n F := funext fun i => by
    unfold jb
    split
    · rfl
    · split
      · rfl
      · split
        · rfl
        · split
          · exact h _ (by omega)
          · rfl
  unfold jf
  rw [hb]
open Classical in
set_option maxRecDepth 100000 in
set_option maxHeartbeats 8000000 in
theorem core (t : Int) (s : ByteArray) (a : Option Addr) (n c : Nat) (F : Nat → Ver) (ab : Option Addr) (lb kb : Nat) (fb : Nat → Nat) (w : World) (T : HalfT w) (_ : -9223372036854775808 ≤ t ∧ t ≤ 9223372036854775807) (hs : s.size ≤ maxLen) (hF : Vs w a n F) (z : a = none → n = 0 ∧ c = 0) (hn : n ≤ maxLen) (hc : n ≤ c) (hRb : Row w ab lb fb) (_ : ab = none → lb = 0 ∧ kb = 0) (hlb : lb ≤ maxLen) (hcb : lb ≤ kb) :
    Calls Tryd.prog 5 #[.agg #[.int .i64 t, .string s, .slice a n c], .slice ab lb kb] w fun e w' => e = .returned (.bool true) ∧ Below w.heap.size w w' := by
  obtain ⟨W, hbx, hj, hb⟩ := box_jn w 24 t s (.slice a n c)
  have cA := awake_any W (T.keep hb)
  have T0 : Hid (HalfT W) := T.keep hb
  have R0 : Hid (Row W ab lb fb) := hRb.keep hb
  have J0 : Hid (JAt W w.heap.size t s (.slice a n c)) := hj
  have V0 : Hid (Vs W a n F) := hF.keep hb
  have HB0 : Hid (Below w.heap.size w W) := hb
  unfold maxLen at hlb
  clear T hj hF hb hRb
  go_enter Tryd.func5, Tryd.ntmps5
  go_wp2_with fail
  go_at_call 9
  refine cA.mono ?_
  rintro e w1 ⟨rfl, b1⟩
  clear cA
  obtain ⟨c0, c1, c2⟩ := J0.out.keep b1
  have cR := room_any t s a n c w1 hs hn
  have T1 : Hid (HalfT w1) := T0.out.keep b1
  have R1 : Hid (Row w1 ab lb fb) := R0.out.keep b1
  have J1 : Hid (JAt w1 w.heap.size t s (.slice a n c)) := J0.out.keep b1
  have V1 : Hid (Vs w1 a n F) := V0.out.keep b1
  have HB1 : Hid (Below w.heap.size w w1) := hop HB0.out b1
  clear T0 J0 V0 HB0 b1 R0
  unfold jv at cR
  go_wp2_with fail
  go_at_call 10
  refine cR.mono ?_
  rintro e w2 ⟨rfl, b2⟩
  clear cR c0 c1 c2
  by_cases hR : s.size ≤ 1000 ∧ n ≤ 100
  rotate_left
  · rw [decide_eq_false hR]
    clear hR
    go_wp2
    go_ret
    exact ⟨rfl, hop HB1.out b2⟩
  rw [decide_eq_true hR]
  obtain ⟨hs2, hn2⟩ := hR
  by_cases h2 : 20000 < lb
  · have g1 : (20000 : Int) < (lb : Int) := by omega
    go_wp2
    go_ret
    exact ⟨rfl, hop HB1.out b2⟩
  have g1 : decide ((20000 : Int) < (lb : Int)) = false := decide_eq_false (by omega)
  obtain ⟨c0, c1, c2⟩ := J1.out.keep b2
  have cJ := journal_any t s a n c F w2 (V1.out.keep b2) z (by omega)
  have T2 : Hid (HalfT w2) := T1.out.keep b2
  have R2 : Hid (Row w2 ab lb fb) := R1.out.keep b2
  have J2 : Hid (JAt w2 w.heap.size t s (.slice a n c)) := J1.out.keep b2
  have V2 : Hid (Vs w2 a n F) := V1.out.keep b2
  have HB2 : Hid (Below w.heap.size w w2) := hop HB1.out b2
  clear T1 J1 V1 HB1 b2 R1
  unfold jv at cJ
  go_wp2_with fail
  go_at_call 12
  refine cJ.mono ?_
  rintro e w3 ⟨v3, rfl, ⟨a3, k3, rfl, hv3, z3, hc3⟩, b3⟩
  clear cJ c0 c1 c2
  cases hm : mayJ t s.size n F with
  | false =>
  have cE := encode_bad t s a3 n k3 F w3 hv3 hs hn hm
  have T3 : Hid (HalfT w3) := T2.out.keep b3
  have R3 : Hid (Row w3 ab lb fb) := R2.out.keep b3
  have HB3 : Hid (Below w.heap.size w w3) := hop HB2.out b3
  clear T2 J2 V2 HB2 b3 hv3 z3 hc3 R2
  unfold jv at *
  go_wp2_with fail
  go_at_call 11
  refine cE.mono ?_
  rintro e WX ⟨rfl, bx⟩
  clear cE
  have TX : Hid (HalfT WX) := T3.out.keep bx
  have RX : Hid (Row WX ab lb fb) := R3.out.keep bx
  have HBX0 : Hid (Below w.heap.size w WX) := hop HB3.out bx
  clear T3 R3 HB3 bx

  -- the second part, from the world WX
  have cD := decode_any ab lb kb fb WX (TX.out) (RX.out) (by unfold maxLen; omega) hcb
  go_wp2_with fail
  go_at_call 16
  refine cD.mono ?_
  rintro e w6 ⟨b6, ⟨hg, g6, rfl, hV6⟩ | ⟨cc, hbad, rfl⟩⟩
  rotate_left
  · have hne := hbad.ne
    have g5 : (cc != 0) = true := by rw [bne_iff_ne]; exact hne
    obtain ⟨X, hX, _, bX⟩ := box_jn w6 31 0 noS (.slice none 0 0)
    have hjX : JB X w6.heap.size 0 noS (.slice none 0 0) 31 := by rw [← hX]; exact heap_alloc_new _ _
    obtain ⟨q0, q1, q2⟩ := hjX.at
    have fX : ∀ j, X.frozen? ⟨w6.heap.size, j, none⟩ = false := hjX.soft
    have HBX : Hid (Below w.heap.size w (((X.setCell ⟨w6.heap.size, 0, none⟩ (.int .i64 0)).setCell ⟨w6.heap.size, 1, none⟩ (.string noS)).setCell ⟨w6.heap.size, 2, none⟩ (.slice none 0 0))) := below3 (hop HBX0.out (hop b6 bX)) (Nat.le_trans HBX0.out.size b6.size) _ _ _
    clear b6 bX hjX cD hbad hne
    unfold nojn jv noS at *
    go_wp2
    go_ret
    exact ⟨rfl, HBX.out⟩
  obtain ⟨X, hX, ⟨q0, q1, q2⟩, bX⟩ := box_jn w6 31 (rt fb) (str (fun i => fb (10 + i)) (rk fb)) (.slice (some ⟨g6, 0, none⟩) (rc fb) (rc fb))
  have hT := TX.out.keep (hop b6 bX)
  have hm := hg.may
  have hsz := str_size (fun i => fb (10 + i)) (rk fb)
  have cE := encode_ok (rt fb) (str (fun i => fb (10 + i)) (rk fb)) (some ⟨g6, 0, none⟩) (rc fb) (rc fb) (rF fb) X hT ((hV6.keep bX).vs (rF_fits RX.out.lt)) (by rw [hsz]; exact hm)
  rw [hsz] at cE
  have hwb := write_back RX.out.lt hg
  have HZ : Hid (∀ Y v, Own Y X.heap.size v (jl (rk fb) (rc fb) + 4) (jf (rt fb) (rk fb) (sb (str (fun i => fb (10 + i)) (rk fb))) (rc fb) (rF fb)) → ∃ q k, v = .slice (some ⟨q, 0, none⟩) lb k ∧ Row Y (some ⟨q, 0, none⟩) lb fb) := fun Y v ho => by
    rw [← hwb.1] at ho
    have ho' : Own Y X.heap.size v lb fb := ho.congr fun i hi => by
      rw [← hwb.2 i hi]
      exact jf_nm (fun j hj => str_get (fun j => RX.out.lt _) hj) i
    obtain ⟨q, k, rfl, _, _, _, r⟩ := ho'.row (by have := hg.lo; omega) RX.out.lt
    exact ⟨q, k, rfl, r⟩
  have RX2 : Hid (Row X ab lb fb) := RX.out.keep (hop b6 bX)
  have HBX : Hid (Below w.heap.size w X) := hop HBX0.out (hop b6 bX)
  have hlo := hg.lo
  clear b6 bX cD hV6 hT hm hsz hwb hg
  generalize str (fun i => fb (10 + i)) (rk fb) = S at *
  generalize rt fb = TT at *
  unfold jv at *
  go_wp2_with fail
  go_at_call 11
  refine cE.mono ?_
  rintro e w7 ⟨v7, rfl, o7, b7⟩
  clear cE
  obtain ⟨q7, k7, rfl, r7⟩ := HZ.out w7 v7 o7
  have cv1 := conv_row (c := k7) r7 (fun e => by cases e)
  have cv2 := conv_row (c := kb) (RX2.out.keep b7) (fun e => absurd e (row_some RX2.out (by omega)))
  have HB7 : Hid (Below w.heap.size w w7) := hop HBX.out b7
  clear o7 b7 r7 HZ
  go_wp2
  go_ret
  exact ⟨rfl, HB7.out⟩
  | true =>
  have ht := (mayJ_iff.1 hm)
  obtain ⟨tn, rfl⟩ : ∃ tn : Nat, t = (tn : Int) := ⟨t.toNat, by omega⟩
  have HM : Hid (mayJ tn s.size n F = true) := hm
  have hFf := hv3.ft
  have cE := encode_ok tn s a3 n k3 F w3 (T2.out.keep b3) hv3 hm
  have T3 : Hid (HalfT w3) := T2.out.keep b3
  have R3 : Hid (Row w3 ab lb fb) := R2.out.keep b3
  have J3 : Hid (JAt w3 w.heap.size tn s (.slice a n c)) := J2.out.keep b3
  have V3 : Hid (Vs w3 a n F) := V2.out.keep b3
  have HB3 : Hid (Below w.heap.size w w3) := hop HB2.out b3
  have hN6 := ht.2.2.1
  have hn6 := ht.2.2.2.1
  clear T2 J2 V2 HB2 b3 hv3 z3 hc3 R2 hm ht z
  unfold jv at *
  go_wp2_with fail
  go_at_call 11
  refine cE.mono ?_
  rintro e w4 ⟨v4, rfl, ho4, b4⟩
  clear cE
  obtain ⟨L, hL⟩ : ∃ L, jl s.size n + 4 = L := ⟨_, rfl⟩
  have hL1 : 15 ≤ L := by rw [← hL]; unfold jl; omega
  have hL2 : L ≤ 2000 := by rw [← hL]; unfold jl; omega
  rw [hL] at ho4
  obtain ⟨g4, k4, rfl, _, hk4, _, r4⟩ := ho4.row (by omega) (jf_lt (sb_lt s))
  have cD : Calls Tryd.prog 16 #[.slice (some ⟨g4, 0, none⟩) L k4] w4 fun e w' => Below w4.heap.size w4 w' ∧ ∃ v, e = .returned (.tuple #[v, .int .i64 0]) ∧ Jn w' v tn s n F := by
    refine (decode_any _ L k4 _ w4 (T3.out.keep b4) r4 (by unfold maxLen; omega) hk4).mono ?_
    intro e w' h
    exact decode_back HM.out hFf hL.symm (fun i _ => rfl) h
  have T4 : Hid (HalfT w4) := T3.out.keep b4
  have R4 : Hid (Row w4 ab lb fb) := R3.out.keep b4
  have J4 : Hid (JAt w4 w.heap.size tn s (.slice a n c)) := J3.out.keep b4
  have V4 : Hid (Vs w4 a n F) := V3.out.keep b4
  have HB4 : Hid (Below w.heap.size w w4) := hop HB3.out b4
  clear T3 R3 J3 V3 HB3 b4 ho4 r4 hL
  go_wp2_with fail
  go_at_call 16
  refine cD.mono ?_
  rintro e w5 ⟨b5, v5, rfl, a5, k5, rfl, hv5, z5, hc5⟩
  clear cD
  unfold jv at *
  obtain ⟨W5, hW5, hj5, bW5⟩ := box_jn w5 31 tn s (.slice a5 n k5)
  obtain ⟨p0, p1, p2⟩ := hj5
  have hj5 : JAt W5 w5.heap.size tn s (.slice a5 n k5) := ⟨p0, p1, p2⟩
  have b45 := hop b5 bW5
  have hj4 := J4.out.keep b45
  have HS : Hid (∀ X, Below W5.heap.size W5 X → (X.cell? ⟨w5.heap.size, 0, none⟩ = some (.int .i64 (tn : Int)) ∧ X.cell? ⟨w5.heap.size, 1, none⟩ = some (.string s) ∧ X.cell? ⟨w5.heap.size, 2, none⟩ = some (.slice a5 n k5)) ∧ X.cell? ⟨w.heap.size, 0, none⟩ = some (.int .i64 (tn : Int)) ∧ X.cell? ⟨w.heap.size, 1, none⟩ = some (.string s) ∧ X.cell? ⟨w.heap.size, 2, none⟩ = some (.slice a n c)) := fun X hX => by
    have h1 := hj5.keep hX
    have h2 := hj4.keep hX
    exact ⟨⟨h1.c0, h1.c1, h1.c2⟩, h2.c0, h2.c1, h2.c2⟩
  have bD : Below W5.heap.size W5 W5.drew := (Below.refl _ _).drew
  have hv5' := hv5.keep bW5
  have hV5 := V4.out.keep b45
  have K : Hid (Calls Tryd.prog 19 #[.agg #[.int .i64 (tn : Int), .string s, .slice a5 n k5]] W5.drew fun e w9 => ∃ a9 c9, e = .returned (.agg #[.int .i64 (tn : Int), .string s, .slice a9 n c9]) ∧ Below W5.heap.size W5 w9 ∧ Calls Tryd.prog 18 #[.agg #[.int .i64 (tn : Int), .string s, .slice a9 n c9], .agg #[.int .i64 (tn : Int), .string s, .slice a n c]] w9 fun e w' => e = .returned (.bool true) ∧ Below W5.heap.size W5 w') := by
    refine (back_any tn s a5 n k5 F W5.drew (hv5'.keep bD) z5 (by omega)).mono ?_
    rintro e w9 ⟨v9, rfl, ⟨a9, c9, rfl, hv9, _, _⟩, b9⟩
    refine ⟨a9, c9, rfl, hop bD b9, ?_⟩
    refine (rsame_any a9 a n n c9 c tn tn s s F F w9 hv9 (hV5.keep (hop bD b9)) hn hn).mono ?_
    rintro e w' ⟨rfl, b'⟩
    rw [decide_eq_true (show SameJ tn tn s s n n F F from ⟨rfl, rfl, rfl, fun i hi => rfl⟩)]
    exact ⟨rfl, hop (hop bD b9) b'⟩
  have q0 := HS.out W5.drew bD
  obtain ⟨⟨q1, q2, q3⟩, q4, q5, q6⟩ := q0
  have T5 : Hid (HalfT W5) := T4.out.keep b45
  have R5 : Hid (Row W5 ab lb fb) := R4.out.keep b45
  have HB5 : Hid (Below w.heap.size w W5) := hop HB4.out b45
  clear T4 R4 J4 V4 HB4 b5 bW5 b45 hj4 hj5 hv5 hv5' hV5 z5 hc5 bD HM hFf
  go_wp2_with fail
  go_region_held3 (fun X => (X.cell? ⟨w5.heap.size, 0, none⟩ = some (.int .i64 (tn : Int)) ∧ X.cell? ⟨w5.heap.size, 1, none⟩ = some (.string s) ∧ X.cell? ⟨w5.heap.size, 2, none⟩ = some (.slice a5 n k5)) ∧ X.cell? ⟨w.heap.size, 0, none⟩ = some (.int .i64 (tn : Int)) ∧ X.cell? ⟨w.heap.size, 1, none⟩ = some (.string s) ∧ X.cell? ⟨w.heap.size, 2, none⟩ = some (.slice a n c))
    (first | with_reducible exact ⟨⟨q1, q2, q3⟩, q4, q5, q6⟩ | with_reducible exact HS.out _ y3 | with_reducible exact HS.out _ y1)
    (first
      | (go_at_call 19; with_reducible refine K.out.mono ?_; rintro e w9 ⟨a9, c9, rfl, y1, y2⟩)
      | (go_at_call 18; with_reducible refine y2.mono ?_; rintro e w10 ⟨rfl, y3⟩))
  have TX : Hid (HalfT w10) := T5.out.keep y3
  have RX : Hid (Row w10 ab lb fb) := R5.out.keep y3
  have HBX0 : Hid (Below w.heap.size w w10) := hop HB5.out y3
  clear T5 R5 HB5 y1 y2 y3 K HS q1 q2 q3 q4 q5 q6 p0 p1 p2

  -- the second part, from the world w10
  have cD := decode_any ab lb kb fb w10 (TX.out) (RX.out) (by unfold maxLen; omega) hcb
  go_wp2_with fail
  go_at_call 16
  refine cD.mono ?_
  rintro e w6 ⟨b6, ⟨hg, g6, rfl, hV6⟩ | ⟨cc, hbad, rfl⟩⟩
  rotate_left
  · have hne := hbad.ne
    have g5 : (cc != 0) = true := by rw [bne_iff_ne]; exact hne
    obtain ⟨X, hX, _, bX⟩ := box_jn w6 31 0 noS (.slice none 0 0)
    have hjX : JB X w6.heap.size 0 noS (.slice none 0 0) 31 := by rw [← hX]; exact heap_alloc_new _ _
    obtain ⟨q0, q1, q2⟩ := hjX.at
    have fX : ∀ j, X.frozen? ⟨w6.heap.size, j, none⟩ = false := hjX.soft
    have HBX : Hid (Below w.heap.size w (((X.setCell ⟨w6.heap.size, 0, none⟩ (.int .i64 0)).setCell ⟨w6.heap.size, 1, none⟩ (.string noS)).setCell ⟨w6.heap.size, 2, none⟩ (.slice none 0 0))) := below3 (hop HBX0.out (hop b6 bX)) (Nat.le_trans HBX0.out.size b6.size) _ _ _
    clear b6 bX hjX cD hbad hne
    unfold nojn jv noS at *
    go_wp2
    go_ret
    exact ⟨rfl, HBX.out⟩
  obtain ⟨X, hX, ⟨q0, q1, q2⟩, bX⟩ := box_jn w6 31 (rt fb) (str (fun i => fb (10 + i)) (rk fb)) (.slice (some ⟨g6, 0, none⟩) (rc fb) (rc fb))
  have hT := TX.out.keep (hop b6 bX)
  have hm := hg.may
  have hsz := str_size (fun i => fb (10 + i)) (rk fb)
  have cE := encode_ok (rt fb) (str (fun i => fb (10 + i)) (rk fb)) (some ⟨g6, 0, none⟩) (rc fb) (rc fb) (rF fb) X hT ((hV6.keep bX).vs (rF_fits RX.out.lt)) (by rw [hsz]; exact hm)
  rw [hsz] at cE
  have hwb := write_back RX.out.lt hg
  have HZ : Hid (∀ Y v, Own Y X.heap.size v (jl (rk fb) (rc fb) + 4) (jf (rt fb) (rk fb) (sb (str (fun i => fb (10 + i)) (rk fb))) (rc fb) (rF fb)) → ∃ q k, v = .slice (some ⟨q, 0, none⟩) lb k ∧ Row Y (some ⟨q, 0, none⟩) lb fb) := fun Y v ho => by
    rw [← hwb.1] at ho
    have ho' : Own Y X.heap.size v lb fb := ho.congr fun i hi => by
      rw [← hwb.2 i hi]
      exact jf_nm (fun j hj => str_get (fun j => RX.out.lt _) hj) i
    obtain ⟨q, k, rfl, _, _, _, r⟩ := ho'.row (by have := hg.lo; omega) RX.out.lt
    exact ⟨q, k, rfl, r⟩
  have RX2 : Hid (Row X ab lb fb) := RX.out.keep (hop b6 bX)
  have HBX : Hid (Below w.heap.size w X) := hop HBX0.out (hop b6 bX)
  have hlo := hg.lo
  clear b6 bX cD hV6 hT hm hsz hwb hg
  generalize str (fun i => fb (10 + i)) (rk fb) = S at *
  generalize rt fb = TT at *
  unfold jv at *
  go_wp2_with fail
  go_at_call 11
  refine cE.mono ?_
  rintro e w7 ⟨v7, rfl, o7, b7⟩
  clear cE
  obtain ⟨q7, k7, rfl, r7⟩ := HZ.out w7 v7 o7
  have cv1 := conv_row (c := k7) r7 (fun e => by cases e)
  have cv2 := conv_row (c := kb) (RX2.out.keep b7) (fun e => absurd e (row_some RX2.out (by omega)))
  have HB7 : Hid (Below w.heap.size w w7) := hop HBX.out b7
  clear o7 b7 r7 HZ
  go_wp2
  go_ret
  exact ⟨rfl, HB7.out⟩


set_option maxRecDepth 100000 in
theorem lifted (os : Os) (started : os.Started) (H : Type) (enc : TypeId × Value → H) :
    ReturnsInHanded {} Tryd.checked os 5 .any (fun w args => (Rows.journalBackSpec.pre enc Tryd.prog Tryd.f5 [] false w args ∧ laidMetH Tryd.prog laidAll w) ∧ sizedMet enc Tryd.prog Tryd.f5 (OpenSpec.ofChange Rows.journalBackSpec) false w args) (Rows.journalBackSpec.post enc Tryd.prog Tryd.f5 false true false false) := by
  refine returnsInHanded_of_change_and (C := Tryd.checked) (X := fun w _ => laidMetH Tryd.prog laidAll w) (fun _ _ _ hh h => h.of_heap hh) own started (by kernel_rfl) Tryd.func5
    (ChangeSpec.witness_shaped (enc := enc) (C := Tryd.checked) (os := os) (X := fun w _ => laidMetH Tryd.prog laidAll w) false (World.doorLaid Tryd.prog 400 os) #[.agg #[.int .i64 0, .string { data := #[] }, .slice none 0 0], .slice none 0 0] 8 rfl (World.shaped_of_RefB (by kernel_rfl) (by kernel_rfl)) (by kernel_rfl) (by kernel_rfl) (by kernel_rfl) (door_met os _)) ?_
  intro W base args ds gs before hval0 hW _ hsz0 hL _
  have hval : ∀ (j : Nat) t v, Tryd.f5.params[j]? = some t → args[j]? = some v → Value.okWide Tryd.prog W .any base t v := hval0
  have hW' := hW
  obtain ⟨p, q, hA0, hV, rfl, hfz, hnd⟩ := hW
  have hA : DataW.TrodAll enc Tryd.prog W 0 (fun _ => true) true Tryd.f5.params.toList args.toList ds p := hA0
  rw [Tryd.params5] at hA hval
  have T := halfT_of hL
  obtain ⟨v0, vs0, d0, ds0, p0, q0, hargs, rfl, rfl, h0, r0⟩ := trodAll_cons hA
  obtain ⟨v1, vs1, d1, ds1, p1, q1, rfl, rfl, rfl, h1, r1⟩ := trodAll_cons r0
  obtain ⟨rfl, rfl, rfl⟩ := trodAll_nil r1
  obtain rfl : args = #[v0, v1] := by cases args; simp_all
  obtain ⟨rfl, rfl⟩ := trodVars_none hV
  have k0 := h0
  have lt0 : ∀ x ∈ p0, x.block < W.heap.size := by obtain ⟨m, hm⟩ := k0; exact DataW.trod_lt m _ _ _ hm
  obtain ⟨t0, s0, a0, n0, c0, F0, rfl, e0, g0, m0, z0, l0, b0⟩ := open_jn (hval 0 24 v0 rfl rfl) h0
  obtain ⟨a1, len1, cap1, rfl⟩ := okWide_slice Tryd.underlying27 (hval 1 27 v1 rfl rfl)
  have k1 := h1
  have lt1 : ∀ x ∈ p1, x.block < W.heap.size := by obtain ⟨m, hm⟩ := k1; exact DataW.trod_lt m _ _ _ hm
  obtain ⟨f1, m1, z1, e1, c1⟩ := open_row h1
  clear hA0 hval0 hsz0 hL
  refine (core t0 s0 a0 n0 c0 F0 a1 len1 cap1 f1 W T e0 g0 m0 z0 l0 b0 m1 z1 e1 c1).mono fun e W' ⟨he, bel⟩ => ?_
  subst he
  exact ⟨_, rfl, _, _, _, [], _, [], hW', trodAll_mk1 (shut_bool Tryd.underlying4 _), (trodAll_cons_mk (Below.trod laidOut (by kernel_rfl) (of_decide_eq_true (by kernel_rfl)) k0 bel lt0) (trodAll_cons_mk (Below.trod laidOut (by kernel_rfl) (of_decide_eq_true (by kernel_rfl)) k1 bel lt1) trodAll_mk0)), rfl, bel.frame _, fun h => by cases h⟩

theorem over : Rows.journalBackRow.holds Tryd.pinned (OpenSpec.ofChange Rows.journalBackSpec) :=
  OpenClaim.holds_of_wide 5 Tryd.f5 rfl rfl rfl rfl rfl rfl rfl ⟨rfl, rfl, rfl, rfl, rfl⟩ rfl rfl rfl rfl rfl (by kernel_rfl) Tryd.func5 (by kernel_rfl)
    (of_decide_eq_true (by kernel_rfl)) (by unfold Func.isWrapper; first | (rw [if_pos (by decide +kernel)]; kernel_rfl) | (rw [if_neg (by decide +kernel)]; exact ⟨rfl, rfl⟩))
    (fun os started H enc _ => lifted os started H enc)

end journalBack

/-- The statement. -/
theorem journalBack_holds : Rows.JournalBackCardSaid :=
  Claim7.holds_tied_plain_at .later [] [.data] true (true, "b01ff8a6c8b92320785ce916cd8b28e8ad0e0f9566158e0aa5de0e22eeab96d7") false
    journalBack.over (fun _ h => by cases h) (by kernel_rfl) (fun _ h => by cases h) journalBack_row_tie rfl ⟨rfl, rfl⟩ (by kernel_rfl) rfl
    (fun f fn hf hfn => by
      obtain rfl : f = 5 := Option.some.inj ((show Tryd.prog.funcNamed "strongbox/strongboxlaw7.JournalBack" = some 5 by kernel_rfl).symm.trans hf) |>.symm
      obtain rfl : fn = Tryd.f5 := (Option.some.inj (Tryd.func5.symm.trans hfn)).symm
      exact ⟨by kernel_rfl, fun j t ht => by
        rw [Tryd.params5] at ht
        have hm : t ∈ [24, 27] := by simpa using Array.mem_of_getElem? ht
        have hall : ([24, 27].all fun u => !Tryd.prog.wantsStandIn u) = true := by kernel_rfl
        exact (show Tryd.prog.wantsStandIn t = false by simpa using List.all_eq_true.1 hall t hm)⟩)
    (by kernel_rfl)
#print axioms journalBack_holds
end Go.Proofs.YtigjhdcinaefbaaDoor
