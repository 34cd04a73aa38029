/-
  The first sentence of each law of layer 7 (awake) is true.
-/
import Derived.Test.YtfgngecenbopnaaDoorJnF
import Derived.Test.YtfgngecenbopnaaDoorJnI
import Derived.Test.YtfgngecenbopnaaDoorJnS
namespace Go.Proofs.YtfgngecenbopnaaDoor
open Go.RowKit Crc
attribute [local go_sem ↓] Go.wp_at_zero Go.wp_at_succ
set_option linter.unusedVariables false

/-- What was written is read as a journal. -/
theorem decode_back {t : Nat} {s : ByteArray} {n : Nat} {F : Nat → Ver} {L : Nat} {f : Nat → Nat} {w w' : World} {e : Ending} (hm : mayJ t s.size n F = true) (hF : ∀ i, (F i).fits) (hL : L = jl s.size n + 4) (hf : ∀ i, i < L → f i = jf t s.size (sb s) n F i) (h : DecEnd L f w e w') :
    Below w.heap.size w w' ∧ ∃ v, e = .returned (.tuple #[v, .int .i64 0]) ∧ Jn w' v t s n F := by
  subst hL
  have rb := read_back (sb_lt s) (fun i => (hF i).s1) hm hf
  obtain ⟨hb, ⟨hg, g, rfl, hV⟩ | ⟨c, hc, _⟩⟩ := h
  · refine ⟨hb, _, rfl, ?_⟩
    have es : str (fun i => f (10 + i)) (rk f) = s := by
      rw [rb.k]
      apply ByteArray.ext
      apply Array.toList_inj.1
      apply List.ext_getElem?
      intro i
      by_cases hi : i < s.size
      · have h1 := rb.nm i hi
        unfold str strOfNums
        have hi' : i < s.data.toList.length := by rw [Array.length_toList]; exact hi
        simp [hi, h1]
        unfold sb
        rw [List.getD_eq_getElem?_getD, List.getElem?_eq_getElem hi']
        simp
      · rw [List.getElem?_eq_none (by rw [Array.length_toList]; have := str_size (fun i => f (10 + i)) s.size; exact Nat.le_trans (Nat.le_of_eq this) (by omega)), List.getElem?_eq_none (by rw [Array.length_toList]; exact Nat.le_of_not_lt hi)]
    rw [es, rb.t, rb.c]
    rw [rb.c] at hV
    exact ⟨some ⟨g, 0, none⟩, n, rfl, (hV.congr rb.v).vs hF, (fun e => by cases e), Nat.le_refl _⟩
  · exact absurd hc (fun q => rb.good.not_bad q)
def sA : ByteArray := { data := #[97] }
theorem mayA : mayJ 1 sA.size 0 (fun _ => zeroV) = true := rfl

open Classical in
set_option maxRecDepth 100000 in
set_option maxHeartbeats 4000000 in
theorem awake_any (w : World) (T : HalfT w) : Calls Tryd.prog 4 #[] w fun e w' => e = .returned (.bool true) ∧ Below w.heap.size w w' := by
  obtain ⟨W, hW, hj, hb⟩ := box_jn w 41 1 sA (.slice none 0 0)
  have hjb : JB W w.heap.size 1 sA (.slice none 0 0) 41 := by rw [← hW]; exact heap_alloc_new _ _
  obtain ⟨c0, c1, c2⟩ := hj
  have fj : ∀ j, W.frozen? ⟨w.heap.size, j, none⟩ = false := hjb.soft
  have vnil : ∀ X : World, Vs X none 0 (fun _ => zeroV) := fun X => ⟨fun _ => zeroV_fits, fun h => absurd h (by omega)⟩
  obtain ⟨W1, hW1⟩ : ∃ W1, W.setCell ⟨w.heap.size, 2, none⟩ (.slice none 0 0) = W1 := ⟨_, rfl⟩
  have hj1 : JB W1 w.heap.size 1 sA (.slice none 0 0) 41 := by rw [← hW1]; exact heap_setCell_same _ _ 2 _ _ _ hjb
  have b1 : Below w.heap.size w W1 := by rw [← hW1]; exact hb.setCell (p := ⟨w.heap.size, 2, none⟩) (Nat.le_refl _) _
  have cJ := journal_any 1 sA none 0 0 (fun _ => zeroV) W1 (vnil _) (fun _ => ⟨rfl, rfl⟩) (by omega)
  obtain ⟨d0, d1, d2⟩ := hj1.at
  have HJ1 : Hid (JB W1 w.heap.size 1 sA (.slice none 0 0) 41) := hj1
  have HB1 : Hid (Below w.heap.size w W1) := b1
  clear hb hjb hj1 b1
  unfold jv at cJ
  unfold sA at *
  go_enter Tryd.func4, Tryd.ntmps4
  go_wp2_with fail
  go_at_call 11
  refine cJ.mono ?_
  rintro e w2 ⟨v2, rfl, hJn, b2⟩
  clear cJ c0 c1 c2 fj d0 d1 d2 hW1 hW
  obtain ⟨a2, k2, rfl, hv2, z2, hc2⟩ := hJn
  have hb2 := hop HB1.out b2
  have cE := encode_ok 1 sA a2 0 k2 (fun _ => zeroV) w2 (T.keep hb2) hv2 mayA
  have hj2 := HJ1.out.keep b2
  have HJ2 : Hid (JB w2 w.heap.size 1 sA (.slice none 0 0) 41) := hj2
  have HB2 : Hid (Below w.heap.size w w2) := hb2
  clear hv2 z2 hc2 b2 hb2 hj2 HJ1 HB1
  unfold jv at *
  unfold sA at *
  go_wp2_with fail
  go_at_call 10
  refine cE.mono ?_
  rintro e w3 ⟨v3, rfl, o3, b3⟩
  clear cE
  have eL : jl sA.size 0 + 4 = 16 := rfl
  rw [show jl (ByteArray.size { data := #[97] }) 0 + 4 = 16 from rfl] at o3
  obtain ⟨g3, k3, rfl, _, hk3, _, r3⟩ := o3.row (by omega) (jf_lt (sb_lt _))
  have hb3 := hop HB2.out b3
  have cD : Calls Tryd.prog 12 #[.slice (some ⟨g3, 0, none⟩) 16 k3] w3 fun e w' => Below w3.heap.size w3 w' ∧ ∃ a c, e = .returned (.tuple #[.agg #[.int .i64 1, .string { data := #[97] }, .slice a 0 c], .int .i64 0]) ∧ (a = none → c = 0) := by
    refine (decode_any _ 16 k3 _ w3 (T.keep hb3) r3 (by unfold maxLen; omega) hk3).mono ?_
    intro e w' h
    obtain ⟨hb, v, rfl, a, c, rfl, _, z, _⟩ := decode_back (s := sA) mayA (fun _ => zeroV_fits) rfl (fun i _ => rfl) h
    exact ⟨hb, a, c, rfl, fun q => (z q).2⟩
  have HJ3 : Hid (JB w3 w.heap.size 1 sA (.slice none 0 0) 41) := HJ2.out.keep b3
  have HB3 : Hid (Below w.heap.size w w3) := hb3
  clear o3 r3 b3 hb3 HJ2 HB2
  go_wp2_with fail
  go_at_call 12
  refine cD.mono ?_
  rintro e w4 ⟨b4, a4, k4, rfl, z4⟩
  clear cD
  obtain ⟨W5, hW5, ⟨p0, p1, p2⟩, b5⟩ := box_jn w4 26 1 sA (.slice a4 0 k4)
  have hj5 := HJ3.out.keep (hop b4 b5)
  obtain ⟨d0, d1, d2⟩ := hj5.at
  have HB5 : Hid (Below w.heap.size w W5) := hop HB3.out (hop b4 b5)
  have hj4 : JAt W5 w4.heap.size 1 sA (.slice a4 0 k4) := ⟨p0, p1, p2⟩
  have HS : Hid (∀ X, Below W5.heap.size W5 X → (X.cell? ⟨w4.heap.size, 0, none⟩ = some (.int .i64 1) ∧ X.cell? ⟨w4.heap.size, 1, none⟩ = some (.string { data := #[97] }) ∧ X.cell? ⟨w4.heap.size, 2, none⟩ = some (.slice a4 0 k4)) ∧ X.cell? ⟨w.heap.size, 0, none⟩ = some (.int .i64 1) ∧ X.cell? ⟨w.heap.size, 1, none⟩ = some (.string { data := #[97] }) ∧ X.cell? ⟨w.heap.size, 2, none⟩ = some (.slice none 0 0)) := fun X hX => by
    have h1 := hj4.keep hX
    have h2 := (hj5.keep hX).at
    exact ⟨⟨h1.c0, h1.c1, h1.c2⟩, h2.c0, h2.c1, h2.c2⟩
  have bD : Below W5.heap.size W5 W5.drew := (Below.refl _ _).drew
  have K : Hid (Calls Tryd.prog 14 #[.agg #[.int .i64 1, .string { data := #[97] }, .slice a4 0 k4]] W5.drew fun e w9 => ∃ a9 c9, e = .returned (.agg #[.int .i64 1, .string { data := #[97] }, .slice a9 0 c9]) ∧ Below W5.heap.size W5 w9 ∧ Calls Tryd.prog 13 #[.agg #[.int .i64 1, .string { data := #[97] }, .slice a9 0 c9], .agg #[.int .i64 1, .string { data := #[97] }, .slice none 0 0]] w9 fun e w' => e = .returned (.bool true) ∧ Below W5.heap.size W5 w') := by
    refine (back_any 1 sA a4 0 k4 (fun _ => zeroV) W5.drew ⟨fun _ => zeroV_fits, fun h => absurd h (by omega)⟩ (fun q => ⟨rfl, z4 q⟩) (by omega)).mono ?_
    rintro e w9 ⟨v9, rfl, ⟨a9, c9, rfl, hv9, _, _⟩, b9⟩
    refine ⟨a9, c9, rfl, hop bD b9, ?_⟩
    refine (rsame_any a9 none 0 0 c9 0 1 1 sA sA (fun _ => zeroV) (fun _ => zeroV) w9 hv9 (vnil w9) (by unfold maxLen; omega) (by unfold maxLen; omega)).mono ?_
    rintro e w' ⟨rfl, b'⟩
    rw [decide_eq_true (show SameJ 1 1 sA sA 0 0 (fun _ => zeroV) (fun _ => zeroV) from ⟨rfl, rfl, rfl, fun i hi => rfl⟩)]
    exact ⟨rfl, hop (hop bD b9) b'⟩
  have q0 := HS.out W5.drew bD
  clear b4 b5 hj4 hj5 HJ3 HB3 T vnil z4
  obtain ⟨⟨q1, q2, q3⟩, q4, q5, q6⟩ := q0
  unfold sA at *
  go_wp2_with fail
  go_region_held3 (fun X => (X.cell? ⟨w4.heap.size, 0, none⟩ = some (.int .i64 1) ∧ X.cell? ⟨w4.heap.size, 1, none⟩ = some (.string { data := #[97] }) ∧ X.cell? ⟨w4.heap.size, 2, none⟩ = some (.slice a4 0 k4)) ∧ X.cell? ⟨w.heap.size, 0, none⟩ = some (.int .i64 1) ∧ X.cell? ⟨w.heap.size, 1, none⟩ = some (.string { data := #[97] }) ∧ X.cell? ⟨w.heap.size, 2, none⟩ = some (.slice none 0 0))
    (first | with_reducible exact ⟨⟨q1, q2, q3⟩, q4, q5, q6⟩ | with_reducible exact HS.out _ y3 | with_reducible exact HS.out _ y1)
    (first
      | (go_at_call 14; with_reducible refine K.out.mono ?_; rintro e w9 ⟨a9, c9, rfl, y1, y2⟩)
      | (go_at_call 13; with_reducible refine y2.mono ?_; rintro e w10 ⟨rfl, y3⟩))
  all_goals
    go_wp2
    go_ret
    exact ⟨rfl, hop HB5.out y3⟩
end Go.Proofs.YtfgngecenbopnaaDoor
