/-
  What the program's Next of layer 6 answers.
-/
import Derived.Test.YtighljdeaofanaaDoorNmX
import Derived.Test.YtighljdeaofanaaDoorPmP
import Derived.Laws.IdiomStrings
namespace Go.Proofs.YtighljdeaofanaaDoor
open Go.RowKit Nm
attribute [local go_sem ↓] Go.wp_at_zero Go.wp_at_succ
set_option linter.unusedVariables false

/-- []byte(s). -/
theorem conv_str (w : World) (s : ByteArray) (h0 : 0 < s.size) :
    ∃ c W, Sem.run Tryd.prog (convert 9 30 (.string s)) w = .ok (.slice (some ⟨w.heap.size, 0, none⟩) s.size c) W ∧ Made W w.heap.size s.size (nl (tx s)) ∧ Below w.heap.size w W := by
  refine ⟨_, _, run_bytes_of_string (P := Tryd.prog) w 9 30 5 s Tryd.underlying9 Tryd.underlying30 Tryd.underlying5, ⟨fun j hj => ?_, fun j hj => ?_⟩, (Below.refl _ _).drew.alloc (Nat.le_refl _) _⟩
  · have hh : (w.drew.alloc (.cells (bytesRow s (grownCap w s.size 0 5)) 5 ((bytesRow s (grownCap w s.size 0 5)).size, (bytesRow s (grownCap w s.size 0 5)).size + 1))).heap[w.heap.size]? = some (.cells (bytesRow s (grownCap w s.size 0 5)) 5 ((bytesRow s (grownCap w s.size 0 5)).size, (bytesRow s (grownCap w s.size 0 5)).size + 1)) := by
      show (w.heap.push _)[w.heap.size]? = _
      simp
    unfold World.cell?
    dsimp only
    rw [hh]
    show (bytesRow s _)[j]? = _
    rw [bytesRow_at s _ j hj]
    unfold nl
    rw [tx_getD s j hj]
    rfl
  · have hh : (w.drew.alloc (.cells (bytesRow s (grownCap w s.size 0 5)) 5 ((bytesRow s (grownCap w s.size 0 5)).size, (bytesRow s (grownCap w s.size 0 5)).size + 1))).heap[w.heap.size]? = some (.cells (bytesRow s (grownCap w s.size 0 5)) 5 ((bytesRow s (grownCap w s.size 0 5)).size, (bytesRow s (grownCap w s.size 0 5)).size + 1)) := by
      show (w.heap.push _)[w.heap.size]? = _
      simp
    have hj2 : j < (bytesRow s (grownCap w s.size 0 5)).size := by
      have hb := bytesRow_at s (grownCap w s.size 0 5) j hj
      exact (Array.getElem?_eq_some_iff.1 hb).1
    unfold World.frozen?
    dsimp only
    rw [hh]
    simp; omega
theorem tx_upd (l : List UInt8) (m : Nat) (x : UInt8) (hm : l.length = m + 1) : tx (str (upd (nl l) m (x.toNat)) (m + 1)) = l.take m ++ [x] := by
  have hl : (l.take m ++ [x]).length = m + 1 := by simp [hm]
  have : str (upd (nl l) m (x.toNat)) (m + 1) = str (nl (l.take m ++ [x])) (m + 1) := str_congr fun i hi => by
    unfold upd nl
    rw [List.getD_eq_getElem?_getD, List.getD_eq_getElem?_getD]
    by_cases e : i = m
    · subst e
      rw [if_pos rfl, List.getElem?_append_right (by simp; omega)]
      simp [hm]
    · rw [if_neg e, List.getElem?_append_left (by simp; omega), List.getElem?_take, if_pos (by omega)]
  rw [this]
  have := tx_nl (l.take m ++ [x])
  rwa [hl] at this

set_option maxRecDepth 100000 in
set_option maxHeartbeats 1000000 in
theorem next_any (p : ByteArray) (w : World) (hp : p.size ≤ 1000000) :
    Calls Tryd.prog 13 #[.string p] w fun e w' => ∃ r, e = .returned (.string r) ∧ tx r = nx (tx p) ∧ Below w.heap.size w w' := by
  go_enter Tryd.func13, Tryd.ntmps13
  go_wp2
  go_loop [3] (fun i => ∃ k : Nat, k ≤ p.size ∧ i = .int .i64 (k : Int) ∧ ff ((tx p).drop k) = true) (fun i => (intOf i).toNat)
  case atStart => exact ⟨p.size, by omega, rfl, by rw [List.drop_eq_nil_of_le (by rw [tx_length]; omega)]; rfl⟩
  case round =>
    obtain ⟨k, hk, rfl, hf⟩ := hrel
    by_cases h0 : k = 0
    · subst h0
      have HN : Hid (nx (tx p) = []) := (nx_nil _).2 (by simpa using hf)
      clear hf
      go_wp2
      go_ret
      exact ⟨_, rfl, HN.out.symm, Below.refl _ _⟩
    · obtain ⟨m, hm1⟩ : ∃ m, k = m + 1 := ⟨k - 1, by omega⟩
      have hm : m < p.size := by omega
      have hd := tx_drop p m hm
      have i0 : (0 : Int) < (k : Int) := by omega
      have e1 : (k : Int) - 1 = (m : Int) := by omega
      have im : (m : Int) < (p.size : Int) := by omega
      obtain ⟨x, hx⟩ : ∃ x, p[m] = x := ⟨_, rfl⟩
      have hxt : (p[m].toNat : Int) = (x.toNat : Int) := by rw [hx]
      rw [hm1] at hf
      by_cases h5 : x = 255
      · have HH : Hid (ff ((tx p).drop m) = true) := by unfold Hid; rw [hd, ff_cons, hf, hx, h5]; rfl
        have g5 : ((x.toNat : Int) == 255) = true := by rw [h5]; rfl
        have HM : Hid (k = m + 1) := hm1
        clear hf hd h5 hm1
        go_wp2
        go_round
        case rel => exact ⟨m, by omega, by go_num, HH.out⟩
        case measure => have := HM.out; simp [intOf]; omega
      · have HN : Hid (nx (tx p) = (tx p).take m ++ [x + 1]) := by
          have e := List.take_append_drop m (tx p)
          unfold Hid
          rw [hd, hx] at e
          exact (congrArg nx e.symm).trans (nx_form _ _ x hf h5)
        have g5 : ((x.toNat : Int) == 255) = false := by
          have := u8_ne h5
          have h255 : (255 : UInt8).toNat = 255 := rfl
          simp; omega
        have g0 : ((k : Int) == 0) = false := by simp; omega
        have hi := inc_toNat h5
        have hl := x.toNat_lt
        have hx254 : x.toNat ≤ 254 := by
          have := u8_ne h5
          have h255 : (255 : UInt8).toNat = 255 := rfl
          omega
        obtain ⟨y, hy⟩ : ∃ y : Nat, x.toNat + 1 = y := ⟨_, rfl⟩
        have iy : (x.toNat : Int) + 1 = (y : Int) := by omega
        have iy2 : (y : Int) < 256 := by omega
        have c1 : (0 ≤ (k : Int) ∧ (k : Int) ≤ (p.size : Int)) := ⟨by omega, by omega⟩
        have c2 : (0 ≤ (m : Int) ∧ (m : Int) < (k : Int)) := ⟨by omega, by omega⟩
        have hsz : (p.extract 0 k).size = k := by rw [← tx_length, tx_extract _ _ hk, List.length_take, tx_length]; omega
        obtain ⟨c, W, cv, hM, hb⟩ := conv_str w (p.extract 0 k) (by omega)
        rw [hsz, tx_extract _ _ hk] at hM
        rw [hsz] at cv
        have hlen : ((tx p).take k).length = m + 1 := by rw [List.length_take, tx_length]; omega
        have hcell := hM.cell m (by omega)
        have hval : nl ((tx p).take k) m = x.toNat := by
          unfold nl
          rw [List.getD_eq_getElem?_getD, List.getElem?_take, if_pos (by omega), ← List.getD_eq_getElem?_getD, tx_getD p m hm, hx]
        rw [hval] at hcell
        have hsoft := hM.soft m (by omega)
        have hP := hM.put (x := y) (show m < k by omega)
        have cv2 := conv_row (c := c) (hP.row (fun i => by unfold upd; split; omega; exact nl_lt _ _)) (fun e => by cases e)
        have HT : Hid (tx (str (upd (nl ((tx p).take k)) m y) k) = nx (tx p)) := by
          unfold Hid
          rw [HN.out, ← hy, ← hi]
          have := tx_upd ((tx p).take k) m (x + 1) hlen
          rw [hm1] at this ⊢
          rw [this, List.take_take, show min m (m + 1) = m by omega]
        obtain ⟨r, hr⟩ : ∃ r, str (upd (nl ((tx p).take k)) m y) k = r := ⟨_, rfl⟩
        rw [hr] at cv2 HT
        have hlt : w.heap.size ≤ w.heap.size := Nat.le_refl _
        have HB : Hid (Below w.heap.size w (W.setCell ⟨w.heap.size, m, none⟩ (.int .u8 (y : Int)))) := hb.setCell (Nat.le_refl _) _
        clear hM hP hr hval hlen hb hsz HN hf hd hm1 hy hi h5
        go_wp2
        go_ret
        exact ⟨_, rfl, HT.out, HB.out⟩
end Go.Proofs.YtighljdeaofanaaDoor
