/-
  What Drop answers, with the block of the versions that are left (law JournalAdds).
-/
import Derived.Test.YtfgngecenbopnaaDoorJnB
namespace Go.Proofs.YtfgngecenbopnaaDoor
open Go.RowKit Crc
attribute [local go_sem ↓] Go.wp_at_zero Go.wp_at_succ
set_option linter.unusedVariables false

def DropNew (t : Int) (s : ByteArray) (n : Nat) (F : Nat → Ver) (id : Int) (w : World) (e : Ending) (w' : World) : Prop :=
  ((∃ k, Pl F id n k ∧ ∃ g, e = .returned (.tuple #[jv t s (.slice (some ⟨g, 0, none⟩) (n - 1) (n - 1)), .bool true]) ∧ VB w' g (n - 1) (dropF F k)) ∨ (No F id n ∧ e = .returned (.tuple #[nojn, .bool false]))) ∧ Below w.heap.size w w'

set_option maxRecDepth 100000 in
set_option maxHeartbeats 4000000 in
theorem drop_new (t : Int) (s : ByteArray) (a : Option Addr) (n c : Nat) (F : Nat → Ver) (id : Int) (w : World) (hF : Vs w a n F) (hc : n ≤ c) (hn : n ≤ 1000) :
    Calls Tryd.prog 6 #[jv t s (.slice a n c), .int .i64 id] w (DropNew t s n F id w) := by
  obtain ⟨W, hbx, hj, hb⟩ := box_jn w 26 t s (.slice a n c)
  obtain ⟨W2, hW2⟩ : ∃ W2, W.alloc (.cells #[.int .i64 0, .string noS, .slice none 0 0] 26) = W2 := ⟨_, rfl⟩
  have b2 : Below W.heap.size W W2 := by rw [← hW2]; exact bal _ _
  have hr2 : JB W2 W.heap.size 0 noS (.slice none 0 0) 26 := by rw [← hW2]; exact heap_alloc_new _ _
  have hF2 := hF.keep (hop hb b2)
  obtain ⟨c0, c1, c2⟩ := hj.keep b2
  have cP := place_any t s a n c id F W2 hF2 (by unfold maxLen; omega)
  have HB : Hid (Below w.heap.size w W2) := hop hb b2
  have HJ2 : Hid (JAt W2 w.heap.size t s (.slice a n c)) := hj.keep b2
  have HR2 : Hid (JB W2 W.heap.size 0 noS (.slice none 0 0) 26) := hr2
  have HF2 : Hid (Vs W2 a n F) := hF2
  have hWl := hb.size
  clear hF hj hb b2 hr2 hF2
  unfold jv at *
  unfold noS at *
  go_enter Tryd.func6, Tryd.ntmps6
  go_wp2_with fail
  go_at_call 15
  refine cP.mono ?_
  rintro e w3 ⟨⟨x, rfl, hx⟩, b3⟩
  clear cP c0 c1 c2
  have hr3 := HR2.out.keep b3
  have hj3 := HJ2.out.keep b3
  have hF3 := HF2.out.keep b3
  have HB3 : Hid (Below w.heap.size w w3) := hop HB.out b3
  have hW3 : W.heap.size < w3.heap.size := (Array.getElem?_eq_some_iff.1 hr3).1
  clear b3 HR2 HJ2 HF2 HB
  rcases hx with ⟨k, rfl, hk⟩ | ⟨rfl, hN⟩
  rotate_left
  · have HE : Hid (∀ w', Below w.heap.size w w' → DropNew t s n F id w (.returned (.tuple #[nojn, .bool false])) w') := fun w' h => ⟨.inr ⟨hN, rfl⟩, h⟩
    obtain ⟨q0, q1, q2⟩ := hr3.at
    have fq : ∀ j, w3.frozen? ⟨W.heap.size, j, none⟩ = false := hr3.soft
    clear hN hj3 hr3 hF3
    unfold noS at *
    go_wp2_with fail
    exact bodyPost_ret (v := .tuple #[nojn, .bool false]) (by simp [results, Tryd.results6, go_sem, nojn, jv, noS, *]) rfl (HE.out _ (below3 HB3.out hWl _ _ _))
  have hlt := hk.lt
  obtain ⟨X1, mk, vb1, bX1⟩ := makeV w3 (n - 1) (by omega)
  have e1 : (n : Int) - 1 = ((n - 1 : Nat) : Int) := by omega
  -- the first copy
  have s2 := sliceV_h a n c k (by omega) hc
  have vc2 := hF3.cut (c := c) 0 k (by omega) hc
  simp only [Nat.zero_add] at vc2
  obtain ⟨A2, hA2⟩ : ∃ A2, (if c = 0 then a else a.map (·.add (0 * 4))) = A2 := ⟨_, rfl⟩
  rw [hA2] at vc2
  have s2' : ∀ w', Sem.run Tryd.prog (Instr.slice 24 (.slice a n c) none (some (.int .i64 (k : Int))) none) w' = .ok (.slice A2 k c) w' := fun w' => by rw [← hA2]; exact s2 w'
  obtain ⟨X2, hr, vb2, bX2⟩ := copy_any (base := w3.heap.size) (dl := n - 1) (dc := n - 1) (c := c) vb1 (Nat.le_refl _) (vc2.keep bX1) (by omega) (by omega)
  have b32 : Below w3.heap.size w3 X2 := bX1.trans bX2
  -- the second copy
  have s3 := sliceV_l (some ⟨w3.heap.size, 0, none⟩) (n - 1) (n - 1) k (by omega) (Nat.le_refl _)
  obtain ⟨A3, hA3⟩ : ∃ A3, (if n - 1 = k then (some ⟨w3.heap.size, 0, none⟩ : Option Addr) else (some ⟨w3.heap.size, 0, none⟩ : Option Addr).map (·.add (k * 4))) = A3 := ⟨_, rfl⟩
  have s3' : ∀ w', Sem.run Tryd.prog (Instr.slice 24 (.slice (some ⟨w3.heap.size, 0, none⟩) (n - 1) (n - 1)) (some (.int .i64 (k : Int))) none none) w' = .ok (.slice A3 (n - 1 - k) (n - 1 - k)) w' := fun w' => by rw [← hA3]; exact s3 w'
  have HA3 : Hid (0 < n - 1 - k → A3 = some ⟨w3.heap.size, k * 4, none⟩) := fun h0 => by
    rw [← hA3, if_neg (by omega)]; simp [add_plain]
  have s4 := sliceV_l a n c (k + 1) (by omega) hc
  have vc4 := hF3.cut (c := c) (k + 1) (n - (k + 1)) (by omega) hc
  obtain ⟨A4, hA4⟩ : ∃ A4, (if c = k + 1 then a else a.map (·.add ((k + 1) * 4))) = A4 := ⟨_, rfl⟩
  rw [hA4] at vc4
  have e4 : n - (k + 1) = n - 1 - k := by omega
  rw [e4] at vc4
  have s4' : ∀ w', Sem.run Tryd.prog (Instr.slice 24 (.slice a n c) (some (.int .i64 ((k : Int) + 1))) none none) w' = .ok (.slice A4 (n - 1 - k) (c - (k + 1))) w' := fun w' => by
    rw [← hA4, ← e4, show (k : Int) + 1 = ((k + 1 : Nat) : Int) by omega]; exact s4 w'
  have HC2 : Hid (∀ q, ∃ Y, Sem.run Tryd.prog (Builtin.copy_ #[24, 24] 3 #[.slice A3 (n - 1 - k) (n - 1 - k), .slice A4 (n - 1 - k) (c - (k + 1))]) (X2.drewN q) = .ok (goInt ((n - 1 - k : Nat) : Int)) Y ∧ VB Y w3.heap.size (n - 1) (dropF F k) ∧ Below w3.heap.size w3 Y) := fun q => by
    obtain ⟨Y, h1, h2, h3⟩ := copy_at (base := w3.heap.size) (dl := n - 1 - k) (dc := n - 1 - k) (c := c - (k + 1)) (vb2.keep (bdn X2 q)) (Nat.le_refl _) (vc4.keep (b32.trans ((bdn X2 q).mono b32.size))) HA3.out (Nat.le_refl _) (by omega)
    refine ⟨Y, h1, h2.congr fun i hi => ?_, (b32.trans ((bdn X2 q).mono b32.size)).trans h3⟩
    unfold spl dropF
    by_cases h : i < k
    · rw [if_neg (by omega), if_pos (by omega), if_pos h, Nat.sub_zero]
    · rw [if_pos (by omega), if_neg h]; show F (k + 1 + (i - k)) = F (i + 1); congr 1; omega
  obtain ⟨p0, p1, p2⟩ := hj3.keep bX1
  obtain ⟨o0, o1, o2⟩ := hj3.keep b32
  obtain ⟨c0, c1, c2⟩ := hj3
  have hj3 : JAt w3 w.heap.size t s (.slice a n c) := ⟨c0, c1, c2⟩
  have HJ3 : Hid (JAt w3 w.heap.size t s (.slice a n c)) := hj3
  have HR3 : Hid (JB w3 W.heap.size 0 noS (.slice none 0 0) 26) := hr3
  have HE : Hid (∀ w', Below w.heap.size w w' → VB w' w3.heap.size (n - 1) (dropF F k) → DropNew t s n F id w (.returned (.tuple #[jv t s (.slice (some ⟨w3.heap.size, 0, none⟩) (n - 1) (n - 1)), .bool true])) w') := fun w' h hV => ⟨.inl ⟨k, hk, _, rfl, hV⟩, h⟩
  have ik : (k : Int) < (n : Int) := by omega
  have gk : decide ((k : Int) < 0) = false := decide_eq_false (by omega)
  have ne : Nonempty Nat := ⟨0⟩
  clear hk hF3 vb1 bX1 s2 vc2 vb2 bX2 s3 s4 vc4 b32 hj3 hr3 HA3 hA2 hA3 hA4 e4
  generalize dropF F k = FF at *
  generalize n - 1 - k = m at *
  generalize n - 1 = n1 at *
  generalize c - (k + 1) = c4 at *
  go_wp2_with fail
  refine region_head (C := fun w' => ∃ q, w' = X2.drewN q) 8 (by kernel_rfl) (by kernel_rfl) ⟨1, rfl⟩ ?_
  simp only [List.take_succ_cons, List.take_zero, List.drop_succ_cons, List.drop_zero]
  repeat (go_big_quiet_step (fail))
  refine wpQuiet_nil ?_
  rintro _ ⟨q, rfl⟩
  obtain ⟨Y, hc2, vY, bY⟩ := HC2.out q
  obtain ⟨X2', hX2'⟩ : ∃ X2', X2.drewN q = X2' := ⟨_, rfl⟩
  rw [hX2'] at hc2 ⊢
  clear HC2 hr mk p0 p1 p2 o0 o1 o2 c0 c1 c2 s2' s3' s4' hX2'
  obtain ⟨p0, p1, p2⟩ := HJ3.out.keep bY
  have hrY := HR3.out.keep bY
  obtain ⟨q0, q1, q2⟩ := hrY.at
  have fq : ∀ j, Y.frozen? ⟨W.heap.size, j, none⟩ = false := hrY.soft
  have HBY : Hid (Below w.heap.size w Y) := hop HB3.out bY
  have HVY : Hid (VB Y w3.heap.size n1 FF) := vY
  clear vY bY hrY HJ3 HR3 HB3
  unfold noS at *
  go_wp2_with fail
  exact bodyPost_ret (v := .tuple #[jv t s (.slice (some ⟨w3.heap.size, 0, none⟩) n1 n1), .bool true]) (by simp [results, Tryd.results6, go_sem, jv, *]) rfl (HE.out _ (below3 HBY.out hWl _ _ _) (((HVY.out.other (by omega) _ _).other (by omega) _ _).other (by omega) _ _))
end Go.Proofs.YtfgngecenbopnaaDoor
