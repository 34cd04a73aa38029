/-
  What journal.Find, Latest and the document's answer.
-/
import Derived.Test.YtfgngecenbopnaaDoorJnP
namespace Go.Proofs.YtfgngecenbopnaaDoor
open Go.RowKit Crc
attribute [local go_sem ↓] Go.wp_at_zero Go.wp_at_succ
set_option linter.unusedVariables false

/-- What Find answers. -/
def FindEnd (F : Nat → Ver) (id : Int) (n : Nat) (w : World) (e : Ending) (w' : World) : Prop :=
  ((∃ k, Pl F id n k ∧ e = .returned (.tuple #[vv (F k), .bool true])) ∨ (No F id n ∧ e = .returned (.tuple #[vv zeroV, .bool false]))) ∧ Below w.heap.size w w'
/-- What Latest answers. -/
def LateEnd (F : Nat → Ver) (n : Nat) (w : World) (e : Ending) (w' : World) : Prop :=
  ((n ≠ 0 ∧ e = .returned (.tuple #[vv (F (n - 1)), .bool true])) ∨ (n = 0 ∧ e = .returned (.tuple #[vv zeroV, .bool false]))) ∧ Below w.heap.size w w'
theorem VerB.keep {w w' : World} {p : Nat} {v : Ver} (h : VerB w p v) (hb : Below w.heap.size w w') : VerB w' p v := (hb.block p (Array.getElem?_eq_some_iff.1 h).1).trans h
theorem VerB.soft {w : World} {p : Nat} {v : Ver} (h : VerB w p v) (j : Nat) : w.frozen? ⟨p, j, none⟩ = false := frozen_of_row w p j _ _ h
theorem below4 {w W : World} {p : Nat} (h : Below w.heap.size w W) (hp : w.heap.size ≤ p) (v0 v1 v2 v3 : Value) : Below w.heap.size w ((((W.setCell ⟨p, 0, none⟩ v0).setCell ⟨p, 1, none⟩ v1).setCell ⟨p, 2, none⟩ v2).setCell ⟨p, 3, none⟩ v3) :=
  (((h.setCell (p := ⟨_, 0, none⟩) hp _).setCell (p := ⟨_, 1, none⟩) hp _).setCell (p := ⟨_, 2, none⟩) hp _).setCell (p := ⟨_, 3, none⟩) hp _

set_option maxRecDepth 100000 in
set_option maxHeartbeats 1000000 in
theorem find_any (t : Int) (s : ByteArray) (a : Option Addr) (n c : Nat) (id : Int) (F : Nat → Ver) (w : World) (hF : Vs w a n F) (hn : n ≤ maxLen) :
    Calls Tryd.prog 7 #[jv t s (.slice a n c), .int .i64 id] w (FindEnd F id n w) := by
  obtain ⟨W, hbx, hj, hb⟩ := box_jn w 26 t s (.slice a n c)
  obtain ⟨W2, hW2⟩ : ∃ W2, W.alloc (.cells #[.int .i64 0, .bool false, .int .i64 0, .int .u32 0] 33) = W2 := ⟨_, rfl⟩
  have b2 : Below W.heap.size W W2 := by rw [← hW2]; exact bal _ _
  have r2 : VerB W2 W.heap.size zeroV := by rw [← hW2]; exact heap_alloc_new _ _
  have hj2 := hj.keep b2
  have hF2 := hF.keep (hop hb b2)
  obtain ⟨c0, c1, c2⟩ := hj2
  have cP := place_any t s a n c id F W2 hF2 hn
  have HB : Hid (Below w.heap.size w W2) := hop hb b2
  have HJ2 : Hid (JAt W2 w.heap.size t s (.slice a n c)) := hj.keep b2
  have HR2 : Hid (VerB W2 W.heap.size zeroV) := r2
  have HF2 : Hid (Vs W2 a n F) := hF2
  have hWl := hb.size
  clear hF hj hb b2 r2 hF2
  unfold maxLen at hn
  unfold jv at *
  go_enter Tryd.func7, Tryd.ntmps7
  go_wp2_with fail
  go_at_call 15
  refine cP.mono ?_
  rintro e w3 ⟨⟨x, rfl, hx⟩, b3⟩
  clear cP c0 c1 c2
  have r3 := HR2.out.keep b3
  obtain ⟨q0, q1, q2, q3⟩ := r3.at
  have fq : ∀ j, w3.frozen? ⟨W.heap.size, j, none⟩ = false := r3.soft
  obtain ⟨c0, c1, c2⟩ := HJ2.out.keep b3
  have HB3 : Hid (Below w.heap.size w w3) := hop HB.out b3
  unfold zeroV at q0 q1 q2 q3
  dsimp only at q0 q1 q2 q3
  rcases hx with ⟨k, rfl, hk⟩ | ⟨rfl, hN⟩
  · have hlt := hk.lt
    obtain ⟨b1, o1, ea, hc⟩ := (HF2.out.keep b3).lies (by omega)
    subst ea
    obtain ⟨v0, v1, v2, v3⟩ := hc k hlt
    have ik : (k : Int) < (n : Int) := by omega
    have HE : Hid (∀ w', Below w.heap.size w w' → FindEnd F id n w (.returned (.tuple #[vv (F k), .bool true])) w') := fun w' h => ⟨.inl ⟨k, hk, rfl⟩, h⟩
    clear hc hk b3 r3 HR2 HF2 HJ2
    unfold vv at HE
    generalize F k = v at *
    obtain ⟨vi, vm, vz, vs⟩ := v
    dsimp only at *
    go_wp2_with fail
    exact bodyPost_ret (v := .tuple #[.agg #[.int .i64 vi, .bool vm, .int .i64 vz, .int .u32 (vs : Int)], .bool true]) (by simp [results, Tryd.results7, go_sem, *]) rfl (HE.out _ (below4 HB3.out hWl _ _ _ _))
  · have HE : Hid (∀ w', Below w.heap.size w w' → FindEnd F id n w (.returned (.tuple #[vv zeroV, .bool false])) w') := fun w' h => ⟨.inr ⟨hN, rfl⟩, h⟩
    clear hN b3 r3 HR2 HF2 HJ2
    go_wp2_with fail
    exact bodyPost_ret (v := .tuple #[vv zeroV, .bool false]) (by simp [results, Tryd.results7, go_sem, vv, zeroV, *]) rfl (HE.out _ (below4 HB3.out hWl _ _ _ _))

set_option maxRecDepth 100000 in
set_option maxHeartbeats 1000000 in
theorem latest_any (t : Int) (s : ByteArray) (a : Option Addr) (n c : Nat) (F : Nat → Ver) (w : World) (hF : Vs w a n F) (hn : n ≤ maxLen) :
    Calls Tryd.prog 8 #[jv t s (.slice a n c)] w (LateEnd F n w) := by
  obtain ⟨W, hbx, hj, hb⟩ := box_jn w 26 t s (.slice a n c)
  obtain ⟨W2, hW2⟩ : ∃ W2, W.alloc (.cells #[.int .i64 0, .bool false, .int .i64 0, .int .u32 0] 33) = W2 := ⟨_, rfl⟩
  have b2 : Below W.heap.size W W2 := by rw [← hW2]; exact bal _ _
  have r2 : VerB W2 W.heap.size zeroV := by rw [← hW2]; exact heap_alloc_new _ _
  have hF2 := hF.keep (hop hb b2)
  obtain ⟨c0, c1, c2⟩ := hj.keep b2
  have HB : Hid (Below w.heap.size w W2) := hop hb b2
  have hWl := hb.size
  obtain ⟨q0, q1, q2, q3⟩ := r2.at
  have fq : ∀ j, W2.frozen? ⟨W.heap.size, j, none⟩ = false := r2.soft
  unfold zeroV at q0 q1 q2 q3
  dsimp only at q0 q1 q2 q3
  clear hF hj hb b2 r2
  unfold maxLen at hn
  unfold jv at *
  by_cases h0 : n = 0
  · have HE : Hid (∀ w', Below w.heap.size w w' → LateEnd F n w (.returned (.tuple #[vv zeroV, .bool false])) w') := fun w' h => ⟨.inr ⟨h0, rfl⟩, h⟩
    have g0 : ((n : Int) == 0) = true := by simp [h0]
    have g1 : (n == 0) = true := by simp [h0]
    clear h0 hF2
    go_enter Tryd.func8, Tryd.ntmps8
    go_wp2_with fail
    exact bodyPost_ret (v := .tuple #[vv zeroV, .bool false]) (by simp [results, Tryd.results8, go_sem, vv, zeroV, *]) rfl (HE.out _ (below4 HB.out hWl _ _ _ _))
  · have HE : Hid (∀ w', Below w.heap.size w w' → LateEnd F n w (.returned (.tuple #[vv (F (n - 1)), .bool true])) w') := fun w' h => ⟨.inl ⟨h0, rfl⟩, h⟩
    have g0 : ((n : Int) == 0) = false := by simp [h0]
    have g1 : (n == 0) = false := by simp [h0]
    have e1 : (n : Int) - 1 = ((n - 1 : Nat) : Int) := by omega
    have hlt : n - 1 < n := by omega
    have ik : ((n - 1 : Nat) : Int) < (n : Int) := by omega
    obtain ⟨b1, o1, ea, hc⟩ := hF2.lies (by omega)
    subst ea
    obtain ⟨v0, v1, v2, v3⟩ := hc (n - 1) hlt
    clear hc hF2 h0
    unfold vv at HE
    generalize F (n - 1) = v at *
    generalize n - 1 = k at *
    obtain ⟨vi, vm, vz, vs⟩ := v
    dsimp only at *
    go_enter Tryd.func8, Tryd.ntmps8
    go_wp2_with fail
    exact bodyPost_ret (v := .tuple #[.agg #[.int .i64 vi, .bool vm, .int .i64 vz, .int .u32 (vs : Int)], .bool true]) (by simp [results, Tryd.results8, go_sem, *]) rfl (HE.out _ (below4 HB.out hWl _ _ _ _))

end Go.Proofs.YtfgngecenbopnaaDoor
