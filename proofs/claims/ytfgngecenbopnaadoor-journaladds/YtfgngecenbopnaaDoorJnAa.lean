/-
  What Add answers, with the block of the new versions (law JournalAdds).
-/
import Derived.Test.YtfgngecenbopnaaDoorJnA
namespace Go.Proofs.YtfgngecenbopnaaDoor
open Go.RowKit Crc
attribute [local go_sem ↓] Go.wp_at_zero Go.wp_at_succ
set_option linter.unusedVariables false

def AddNew (t : Int) (s : ByteArray) (n : Nat) (F : Nat → Ver) (v : Ver) (w : World) (e : Ending) (w' : World) : Prop :=
  ((64 ≤ n ∧ e = .returned (.tuple #[nojn, .int .i64 18])) ∨ (n < 64 ∧ mayJ t s.size (n + 1) (upd F n v) = false ∧ e = .returned (.tuple #[nojn, .int .i64 1])) ∨
   (n < 64 ∧ mayJ t s.size (n + 1) (upd F n v) = true ∧ ∃ g, e = .returned (.tuple #[jv t s (.slice (some ⟨g, 0, none⟩) (n + 1) (n + 1)), .int .i64 0]) ∧ VB w' g (n + 1) (upd F n v))) ∧ Below w.heap.size w w'

set_option maxRecDepth 100000 in
set_option maxHeartbeats 4000000 in
theorem add_new (t : Int) (s : ByteArray) (a : Option Addr) (n c : Nat) (F : Nat → Ver) (v : Ver) (w : World) (hF : Vs w a n F) (hv : v.fits) (hs : s.size ≤ maxLen) (hn : n ≤ maxLen) :
    Calls Tryd.prog 5 #[jv t s (.slice a n c), vv v] w (AddNew t s n F v w) := by
  obtain ⟨W, hbx, hj, hb⟩ := box_jn w 26 t s (.slice a n c)
  obtain ⟨W1, hW1⟩ : ∃ W1, W.alloc (.cells #[.int .i64 v.id, .bool v.mr, .int .i64 v.sz, .int .u32 (v.sm : Int)] 33) = W1 := ⟨_, rfl⟩
  have b1 : Below W.heap.size W W1 := by rw [← hW1]; exact bal _ _
  have hv1 : VerB W1 W.heap.size v := by rw [← hW1]; exact heap_alloc_new _ _
  obtain ⟨W2, hW2⟩ : ∃ W2, W1.alloc (.cells #[.int .i64 0, .string noS, .slice none 0 0] 26) = W2 := ⟨_, rfl⟩
  have b2 : Below W1.heap.size W1 W2 := by rw [← hW2]; exact bal _ _
  have hr2 : JB W2 W1.heap.size 0 noS (.slice none 0 0) 26 := by rw [← hW2]; exact heap_alloc_new _ _
  have hj2 := hj.keep (hop b1 b2)
  have hv2 := hv1.keep b2
  have hF2 := hF.keep (hop hb (hop b1 b2))
  have HB2 : Hid (Below w.heap.size w W2) := hop hb (hop b1 b2)
  have hl1 : w.heap.size ≤ W1.heap.size := Nat.le_trans hb.size b1.size
  have hl2 : W1.heap.size < W2.heap.size := (Array.getElem?_eq_some_iff.1 hr2).1
  have HFF : Hid (∀ i, (F i).fits) := hF.ft
  clear hF hj hb b1 b2 hv1
  obtain ⟨c0, c1, c2⟩ := hj2
  have hj2 : JAt W2 w.heap.size t s (.slice a n c) := ⟨c0, c1, c2⟩
  obtain ⟨d0, d1, d2⟩ := hr2.at
  have fr2 : ∀ j, W2.frozen? ⟨W1.heap.size, j, none⟩ = false := hr2.soft
  obtain ⟨x0, x1, x2, x3⟩ := hv2.at
  unfold maxLen at hn
  by_cases h64 : 64 ≤ n
  · have HE : Hid (∀ w', Below w.heap.size w w' → AddNew t s n F v w (.returned (.tuple #[nojn, .int .i64 18])) w') := fun w' h => ⟨.inl ⟨h64, rfl⟩, h⟩
    have g0 : (64 : Int) ≤ (n : Int) := by omega
    clear hF2 hj2 hr2 hv2
    unfold jv vv noS at *
    go_enter Tryd.func5, Tryd.ntmps5
    go_wp2_with fail
    exact bodyPost_ret (v := .tuple #[nojn, .int .i64 18]) (by simp [results, Tryd.results5, go_sem, nojn, jv, noS, *]) rfl (HE.out _ (below3 HB2.out hl1 _ _ _))
  have g0 : decide ((64 : Int) ≤ (n : Int)) = false := decide_eq_false (by omega)
  obtain ⟨X1, mk, vb1, bX1⟩ := makeV W2 (n + 1) (by omega)
  have mk' : Sem.run Tryd.prog (Instr.makeSlice 24 (.int .i64 ((n : Int) + 1)) (.int .i64 ((n : Int) + 1))) W2 = .ok (.slice (some ⟨W2.heap.size, 0, none⟩) (n + 1) (n + 1)) X1 := mk
  obtain ⟨X2, hr, vb2, bX2⟩ := copy_any (base := W2.heap.size) (dl := n + 1) (dc := n + 1) (c := c) vb1 (Nat.le_refl _) (hF2.keep bX1) (by omega) (by omega)
  have bW2 : Below W2.heap.size W2 X2 := bX1.trans bX2
  have vb3 := vb2.put (k := n) (by omega) v
  obtain ⟨X3, hX3⟩ : ∃ X3, (((X2.setCell ⟨W2.heap.size, n * 4, none⟩ (.int .i64 v.id)).setCell ⟨W2.heap.size, n * 4 + 1, none⟩ (.bool v.mr)).setCell ⟨W2.heap.size, n * 4 + 2, none⟩ (.int .i64 v.sz)).setCell ⟨W2.heap.size, n * 4 + 3, none⟩ (.int .u32 (v.sm : Int)) = X3 := ⟨_, rfl⟩
  have vb3' : VB X3 W2.heap.size (n + 1) (upd F n v) := by
    rw [← hX3]
    refine vb3.congr fun i hi => ?_
    by_cases e : i = n
    · subst e; rw [upd_at, upd_at]
    · rw [upd_ne _ _ e, upd_ne _ _ e]; unfold spl; rw [if_pos (by omega), Nat.sub_zero]
  have bW3 : Below W2.heap.size W2 X3 := by
    rw [← hX3]
    exact (((bW2.setCell (p := ⟨W2.heap.size, _, none⟩) (Nat.le_refl _) _).setCell (p := ⟨W2.heap.size, _, none⟩) (Nat.le_refl _) _).setCell (p := ⟨W2.heap.size, _, none⟩) (Nat.le_refl _) _).setCell (p := ⟨W2.heap.size, _, none⟩) (Nat.le_refl _) _
  obtain ⟨X4, hX4, hj4, bX4⟩ := box_jn X3 26 t s (.slice (some ⟨W2.heap.size, 0, none⟩) (n + 1) (n + 1))
  have vb4 := vb3'.keep bX4
  have cM := may_any t s (some ⟨W2.heap.size, 0, none⟩) (n + 1) (n + 1) (upd F n v) X4 (vb4.vs (upd_fits HFF.out hv)) hs (by unfold maxLen; omega)
  have HA : Hid (Sem.run Tryd.prog (Builtin.copy_ #[24, 24] 3 #[.slice (some ⟨W2.heap.size, 0, none⟩) (n + 1) (n + 1), .slice a n c]) X1 = .ok (goInt n) X2) := hr
  -- the cells on the way
  obtain ⟨p0, p1, p2⟩ := hj2.keep bX1
  obtain ⟨q0, q1, q2, q3⟩ := (hv2.keep bW2).at
  obtain ⟨o0, o1, o2⟩ := hj2.keep bW3
  obtain ⟨z0, z1, z2, z3⟩ := vb2.at (i := n) (by omega)
  have fz := vb2.soft
  obtain ⟨k0, k1, k2⟩ := hj4
  have HJ4 : Hid (JAt X4 X3.heap.size t s (.slice (some ⟨W2.heap.size, 0, none⟩) (n + 1) (n + 1))) := ⟨k0, k1, k2⟩
  have HR4 : Hid (JB X4 W1.heap.size 0 noS (.slice none 0 0) 26) := hr2.keep (hop bW3 bX4)
  have HV4 : Hid (VB X4 W2.heap.size (n + 1) (upd F n v)) := vb4
  have HB4 : Hid (Below w.heap.size w X4) := hop HB2.out (hop bW3 bX4)
  have HE1 : Hid (mayJ t s.size (n + 1) (upd F n v) = false → ∀ w', Below w.heap.size w w' → AddNew t s n F v w (.returned (.tuple #[nojn, .int .i64 1])) w') := fun hm w' h => ⟨.inr (.inl ⟨by omega, hm, rfl⟩), h⟩
  have HE2 : Hid (mayJ t s.size (n + 1) (upd F n v) = true → ∀ w', Below w.heap.size w w' → VB w' W2.heap.size (n + 1) (upd F n v) → AddNew t s n F v w (.returned (.tuple #[jv t s (.slice (some ⟨W2.heap.size, 0, none⟩) (n + 1) (n + 1)), .int .i64 0])) w') := fun hm w' h hV => ⟨.inr (.inr ⟨by omega, hm, _, rfl, hV⟩), h⟩
  have ik : (n : Int) < (n : Int) + 1 := by omega
  have ik2 : n < n + 1 := by omega
  clear hF2 vb1 bX1 bX2 bW2 vb3 vb3' bW3 bX4 vb4 hr mk hj2 hv2 hr2 vb2 HFF
  generalize mayJ t s.size (n + 1) (upd F n v) = M at *
  generalize upd F n v = FF at *
  generalize spl (fun _ => zeroV) 0 n F n = zz at *
  obtain ⟨vi, vm, vz, vs⟩ := v
  dsimp only at *
  unfold jv vv at *
  go_enter Tryd.func5, Tryd.ntmps5
  unfold noS at *
  have hA := HA.out
  go_wp2_with fail
  go_at_call 9
  refine cM.mono ?_
  rintro e w5 ⟨rfl, b5⟩
  clear cM HA hA mk' hX3 hX4 d0 d1 d2 fr2 x0 x1 x2 x3 p0 p1 p2 q0 q1 q2 q3 o0 o1 o2 z0 z1 z2 z3 fz k0 k1 k2 c0 c1 c2
  have hr5 := HR4.out.keep b5
  obtain ⟨d0, d1, d2⟩ := hr5.at
  have fr5 : ∀ j, w5.frozen? ⟨W1.heap.size, j, none⟩ = false := hr5.soft
  obtain ⟨k0, k1, k2⟩ := HJ4.out.keep b5
  have HV5 : Hid (VB w5 W2.heap.size (n + 1) FF) := HV4.out.keep b5
  have HB5 : Hid (Below w.heap.size w w5) := hop HB4.out b5
  clear b5 hr5 HR4 HJ4 HV4 HB4
  unfold noS at *
  cases hm : M with
  | false =>
    have H1 : Hid _ := HE1.out hm
    clear HE1 HE2 hm
    go_wp2_with fail
    exact bodyPost_ret (v := .tuple #[nojn, .int .i64 1]) (by simp [results, Tryd.results5, go_sem, nojn, jv, noS, *]) rfl (H1.out _ (below3 HB5.out hl1 _ _ _))
  | true =>
    have H2 : Hid _ := HE2.out hm
    clear HE1 HE2 hm
    go_wp2_with fail
    exact bodyPost_ret (v := .tuple #[jv t s (.slice (some ⟨W2.heap.size, 0, none⟩) (n + 1) (n + 1)), .int .i64 0]) (by simp [results, Tryd.results5, go_sem, jv, *]) rfl (H2.out _ (below3 HB5.out hl1 _ _ _) (((HV5.out.other (by omega) _ _).other (by omega) _ _).other (by omega) _ _))
end Go.Proofs.YtfgngecenbopnaaDoor
