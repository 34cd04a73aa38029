/-
  What a disk's format is: the array's own words and the document's.
-/
import Derived.Test.YtebngmgdciahiaaGreatDoorArB
import Derived.Test.YtebngmgdciahiaaGreatDoorG0
import Derived.Lib.SlBytesConst
set_option maxRecDepth 100000
namespace Go.Proofs.YtebngmgdciahiaaGreatDoor
open Go.RowKit Crc
open _root_.Go.Proofs.YtebngmgdciahiaaGreatDoor.Nm _root_.Go.Proofs.YtebngmgdciahiaaGreatDoor.Dk
attribute [local go_sem ↓] Go.wp_at_zero Go.wp_at_succ
set_option linter.unusedVariables false

/-- Its first seven bytes; the rest is their sum. -/
def fmh (k m i : Nat) : Nat → Nat := cat 4 (fun j => if j = 0 then 83 else if j = 1 then 66 else if j = 2 then 70 else 49) (fun j => if j = 0 then k % 256 else if j = 1 then m % 256 else i % 256)
def fmf (k m i : Nat) : Nat → Nat := cat 7 (fmh k m i) (by4 (sum 7 (fmh k m i)))
def fmtB (k m i : Nat) : ByteArray := str (fmf k m i) 11
theorem fmh_lt (k m i j : Nat) : fmh k m i j < 256 := by
  unfold fmh cat
  dsimp only
  split
  · split
    · omega
    · split
      · omega
      · split <;> omega
  · split
    · exact Nat.mod_lt _ (by omega)
    · split <;> exact Nat.mod_lt _ (by omega)
theorem fmf_lt (k m i j : Nat) : fmf k m i j < 256 := by
  unfold fmf
  show cat 7 _ _ j < 256
  unfold cat
  split
  · exact fmh_lt _ _ _ _
  · exact by4_lt _ _
theorem str_sz (f : Nat → Nat) (n : Nat) : (str f n).size = n := by
  have := congrArg List.length (str_tx f n)
  rw [tx_length] at this
  simpa using this
theorem fmtB_sz (k m i : Nat) : (fmtB k m i).size = 11 := str_sz _ _
/-- A row with no room to spare, appended to. -/
theorem growB {w : World} {n m c b : Nat} {f g : Nat → Nat} {a : Addr} (h : Row w (some ⟨b, 0, none⟩) n f) (r : Row w (some a) m g) (hn : 0 < n) (hm : 0 < m) (hl : n + m ≤ 1000000) :
    ∃ v' W, Sem.run Tryz.prog (Builtin.append_ #[27, 27] 27 #[.slice (some ⟨b, 0, none⟩) n n, .slice (some a) m c]) w = .ok v' W ∧ Own W w.heap.size v' (n + m) (cat n f g) ∧ Below w.heap.size w W := by
  obtain ⟨i, hi, hzz⟩ := Option.map_eq_some_iff.1 info5
  simp only [Prod.mk.injEq] at hzz
  obtain ⟨hz, hs, hby⟩ := hzz
  have ho : ∀ j v, (bs f n)[j]? = some v → w.cell? ((⟨b, 0, none⟩ : Addr).add j) = some v := fun j v hv => by
    have hj : j < n := by
      have := (List.getElem?_eq_some_iff.1 hv).1
      rwa [bs_length] at this
    obtain ⟨b', o', e, hc⟩ := h.lies hn
    injection e with e
    injection e with e1 e2 _
    subst e1; subst e2
    rw [add_plain, hc j hj, ← hv, bs_at hj]
  have hw : ∀ j v, (bs g m)[j]? = some v → w.cell? (a.add j) = some v := fun j v hv => by
    have hj : j < m := by
      have := (List.getElem?_eq_some_iff.1 hv).1
      rwa [bs_length] at this
    obtain ⟨b', o', e, hc⟩ := r.lies hm
    injection e with e
    subst e
    rw [add_plain, hc j hj, ← hv, bs_at hj]
  have hr := run_append_grow (P := Tryz.prog) w 27 27 5 i (.int .u8 0) Tryz.underlying27 hi hz ⟨b, 0, none⟩ n n (bs f n) (by rw [bs_length, hs, Nat.mul_one]) ho a m c (bs g m) (by rw [bs_length, hs, Nat.mul_one]) hw (by omega) (by omega) (growslice_fits (by omega) (by rw [hby]; omega))
  have hge := grownCap_ge w (n + m) n 5
  have hcm := grownCap_le_maxLen w (n + m) n 5 (by unfold maxLen; omega)
  refine ⟨_, _, hr, ⟨by rw [bs_length, Nat.mul_one], .inr ⟨w.heap.size, _, _, rfl, Nat.le_refl _, heap_alloc_new w.drew _, hge, hcm, ?_, ?_⟩⟩, ⟨rfl, rfl, rfl, by simp, fun k hk => heap_alloc_old w.drew _ hk⟩⟩
  · simp only [Array.size_append, List.size_toArray, size_zeroCells, bs_length]
    show n + m + _ * 1 = _
    omega
  · simp only [Array.toList_append, List.append_assoc]
    rw [← List.append_assoc, ← bs_cat, Nat.mul_one]
    exact List.take_left' (by rw [List.length_append, bs_length, bs_length])
theorem wrap_u8_at (x : Int) : IntKind.u8.wrap x = x % 256 := by
  simp [IntKind.wrap, IntKind.bits, IntKind.signed]
/-- A number as a byte. -/
theorem cv_u8 (n : Nat) (hn : n ≤ 255) (W : World) : Sem.run Tryz.prog (convert 3 5 (.int .i64 (n : Int))) W = .ok (.int .u8 ((n % 256 : Nat) : Int)) W := by
  simp [convert, run_underlying Tryz.underlying5, run_underlying Tryz.underlying3, Conv.intToInt]
  rw [wrap_u8_at]
theorem cv_u8i (x : Int) (W : World) : Sem.run Tryz.prog (convert 3 5 (.int .i64 x)) W = .ok (.int .u8 (((x % 256).toNat % 256 : Nat) : Int)) W := by
  simp [convert, run_underlying Tryz.underlying5, run_underlying Tryz.underlying3, Conv.intToInt]
  rw [wrap_u8_at]; omega
theorem lfmt4 (w : World) : Row (w.alloc (.cells #[.int .u8 83, .int .u8 66, .int .u8 70, .int .u8 49] 5 (4, 5))) (some ⟨w.heap.size, 0, none⟩) 4 (fun j => if j = 0 then 83 else if j = 1 then 66 else if j = 2 then 70 else 49) := by
  refine ⟨fun i => ?_, fun _ => ⟨w.heap.size, 0, rfl, fun i hi => ?_⟩⟩
  · split
    · omega
    · split
      · omega
      · split <;> omega
  · match i, hi with
    | 0, _ => exact cell_of_row _ w.heap.size 0 _ _ _ (heap_alloc_new _ _)
    | 1, _ => exact cell_of_row _ w.heap.size 1 _ _ _ (heap_alloc_new _ _)
    | 2, _ => exact cell_of_row _ w.heap.size 2 _ _ _ (heap_alloc_new _ _)
    | 3, _ => exact cell_of_row _ w.heap.size 3 _ _ _ (heap_alloc_new _ _)
theorem lfmt3 (w : World) (k m i : Nat) : Row (w.alloc (.cells #[.int .u8 ((k % 256 : Nat) : Int), .int .u8 ((m % 256 : Nat) : Int), .int .u8 ((i % 256 : Nat) : Int)] 5)) (some ⟨w.heap.size, 0, none⟩) 3 (fun j => if j = 0 then k % 256 else if j = 1 then m % 256 else i % 256) := by
  refine ⟨fun j => ?_, fun _ => ⟨w.heap.size, 0, rfl, fun j hj => ?_⟩⟩
  · split
    · omega
    · split <;> omega
  · match j, hj with
    | 0, _ => exact cell_of_row _ w.heap.size 0 _ _ _ (heap_alloc_new _ _)
    | 1, _ => exact cell_of_row _ w.heap.size 1 _ _ _ (heap_alloc_new _ _)
    | 2, _ => exact cell_of_row _ w.heap.size 2 _ _ _ (heap_alloc_new _ _)
/-- The four bytes and the three, the sum behind them. -/
theorem fmt_rows (w : World) (k m i : Nat) : ∃ v W, Sem.run Tryz.prog (Builtin.append_ #[27, 27] 27 #[.slice (some ⟨w.heap.size, 0, none⟩) 4 4, .slice (some ⟨w.heap.size + 1, 0, none⟩) 3 3]) ((w.alloc (.cells #[.int .u8 83, .int .u8 66, .int .u8 70, .int .u8 49] 5 (4, 5))).alloc (.cells #[.int .u8 ((k % 256 : Nat) : Int), .int .u8 ((m % 256 : Nat) : Int), .int .u8 ((i % 256 : Nat) : Int)] 5)) = .ok v W ∧ (∃ a c, v = .slice (some a) 7 c ∧ Row W (some a) 7 (fmh k m i)) ∧ Own W w.heap.size v 7 (fmh k m i) ∧ Below w.heap.size w W := by
  have h4 := lfmt4 w
  obtain ⟨w1, hw1⟩ : ∃ w1, w.alloc (.cells #[.int .u8 83, .int .u8 66, .int .u8 70, .int .u8 49] 5 (4, 5)) = w1 := ⟨_, rfl⟩
  have b1 : Below w.heap.size w w1 := by rw [← hw1]; exact bal _ _
  have hs1 : w1.heap.size = w.heap.size + 1 := by rw [← hw1]; simp
  rw [hw1] at h4 ⊢
  have h3 := lfmt3 w1 k m i
  obtain ⟨w2, hw2⟩ : ∃ w2, w1.alloc (.cells #[.int .u8 ((k % 256 : Nat) : Int), .int .u8 ((m % 256 : Nat) : Int), .int .u8 ((i % 256 : Nat) : Int)] 5) = w2 := ⟨_, rfl⟩
  have b2 : Below w1.heap.size w1 w2 := by rw [← hw2]; exact bal _ _
  rw [hw2, hs1] at h3
  rw [hw2]
  obtain ⟨v, W, hr, ho, hb⟩ := growB (c := 3) (h4.keep b2) h3 (by omega) (by omega) (by omega)
  have hlo := ho.row (by omega) (fmh_lt k m i)
  obtain ⟨g, c, e, hg, _, _, hrow⟩ := hlo
  have hB : Below w.heap.size w W := (b1.trans (b2.mono b1.size)).trans (hb.mono (Nat.le_trans b1.size b2.size))
  refine ⟨v, W, hr, ⟨⟨g, 0, none⟩, c, e, hrow⟩, ?_, hB⟩
  rcases ho with ⟨hl, e | ⟨g, cap, cur, e, hg, hh, hr⟩⟩
  · exact ⟨hl, .inl e⟩
  · exact ⟨hl, .inr ⟨g, cap, cur, e, Nat.le_trans (Nat.le_trans b1.size b2.size) hg, hh, hr⟩⟩
set_option maxHeartbeats 4000000 in
theorem fmt_any {w : World} {b k m bl : Nat} {P : Nat → Pc} (h : AX w b k m bl P) (T : HalfT w) (x : Int) :
    Calls Tryz.prog 31 #[.pointer (some ⟨b, 0, none⟩), .int .i64 x] w fun e w' => ∃ a c, e = .returned (.slice a 11 c) ∧ Hid (Inp w' a 11 c (fmtB k m (x % 256).toNat) ∧ Below w.heap.size w w') := by
  have cS := shape_any h
  have hk := h.k1
  have hm := h.m1
  have hn := h.n
  have vk := fun W => cv_u8 k (by omega) W
  have vm := fun W => cv_u8 m (by omega) W
  have vi := fun W => cv_u8i x W
  obtain ⟨i, hi⟩ : ∃ i, (x % 256).toNat = i := ⟨_, rfl⟩
  rw [hi] at vi ⊢
  have HT : Hid (HalfT w) := T
  clear h hk hm hn hi T
  go_enter Tryz.func31, Tryz.ntmps31
  go_wp2_with fail
  go_at_call 22
  refine cS.mono ?_
  rintro e w1 ⟨rfl, b1⟩
  clear cS
  obtain ⟨w2, hw2⟩ : ∃ w2, w1.alloc (.cells #[.int .i64 (k : Int), .int .i64 (m : Int), .int .i64 (bl : Int)] 23) = w2 := ⟨_, rfl⟩
  have b2 : Below w1.heap.size w1 w2 := by rw [← hw2]; exact bal _ _
  have hg2 : w2.heap[w1.heap.size]? = some (.cells #[.int .i64 (k : Int), .int .i64 (m : Int), .int .i64 (bl : Int)] 23) := by rw [← hw2]; exact heap_alloc_new _ _
  have hs2 : w2.heap.size = w1.heap.size + 1 := by rw [← hw2]; simp
  obtain ⟨v, W, hr, ⟨va, vc, rfl, hrow⟩, hown, hbel⟩ := fmt_rows w2 k m i
  have cs : Sem.run Tryz.prog (convert 27 27 (.slice (some ⟨w2.heap.size, 0, none⟩) 4 4)) (w2.alloc (.cells #[.int .u8 83, .int .u8 66, .int .u8 70, .int .u8 49] 5)) = .ok (.slice (some ⟨w2.heap.size, 0, none⟩) 4 4) (w2.alloc (.cells #[.int .u8 83, .int .u8 66, .int .u8 70, .int .u8 49] 5 (4, 5))) := Lib.run_convert_bytes_const (P := Tryz.prog) w2 27 5 #[.int .u8 83, .int .u8 66, .int .u8 70, .int .u8 49] 4 4 Tryz.underlying27 Tryz.underlying5
  obtain ⟨w3, hw3⟩ : ∃ w3, w2.alloc (.cells #[.int .u8 83, .int .u8 66, .int .u8 70, .int .u8 49] 5 (4, 5)) = w3 := ⟨_, rfl⟩
  have b3 : Below w2.heap.size w2 w3 := by rw [← hw3]; exact bal _ _
  have hs3 : w3.heap.size = w2.heap.size + 1 := by rw [← hw3]; simp
  have hg3 : w3.heap[w1.heap.size]? = some (.cells #[.int .i64 (k : Int), .int .i64 (m : Int), .int .i64 (bl : Int)] 23) := (b3.block w1.heap.size (Array.getElem?_eq_some_iff.1 hg2).1).trans hg2
  have c0 := cell_of_row w3 w1.heap.size 0 _ _ _ hg3
  have c1 := cell_of_row w3 w1.heap.size 1 _ _ _ hg3
  simp only [List.getElem?_toArray, List.getElem?_cons_zero, List.getElem?_cons_succ] at c0 c1
  rw [hw3, hs2] at cs
  rw [← hw2] at cs
  rw [hw3, ← hs3, hs2] at hr
  have HR : Hid (Sem.run Tryz.prog (Builtin.append_ #[27, 27] 27 #[.slice (some ⟨w1.heap.size + 1, 0, none⟩) 4 4, .slice (some ⟨w3.heap.size, 0, none⟩) 3 3]) (w3.alloc (.cells #[.int .u8 ((k % 256 : Nat) : Int), .int .u8 ((m % 256 : Nat) : Int), .int .u8 ((i % 256 : Nat) : Int)] 5)) = .ok (.slice (some va) 7 vc) W) := hr
  have HB : Hid (Below w.heap.size w w2) := b1.trans (b2.mono b1.size)
  have HBW : Hid (Below w2.heap.size w2 W) := hbel
  have HO : Hid (Own W w2.heap.size (.slice (some va) 7 vc) 7 (fmh k m i)) := hown
  have HRow : Hid (Row W (some va) 7 (fmh k m i)) := hrow
  clear hr hw2 hw3 b1 b2 b3 hg2 hg3 hrow hown hbel hs3 hs2
  go_wp2_with (at_builtin; refine wpList_append_ran (by rfl) _ _ 27 (by rfl) _ _ _ _ (by rfl) (by rfl) HR.out ?_)
  have cSum := sum_any (some va) 7 vc (fmh k m i) W (HT.out.keep (hop HB.out HBW.out)) HRow.out (by unfold maxLen; omega)
  obtain ⟨sm, hsm⟩ : ∃ sm, sum 7 (fmh k m i) = sm := ⟨_, rfl⟩
  have hsl : sm < 4294967296 := by rw [← hsm]; exact more_lt (by omega) (fmh_lt k m i)
  rw [hsm] at cSum
  have cBy := bytes_any sm W hsl
  have HM : Hid (sum 7 (fmh k m i) = sm) := hsm
  clear hsm hsl cs c0 c1 vk vm vi
  go_wp2_with fail
  go_at_call 53
  refine cSum.mono ?_
  rintro e w5 ⟨rfl, rfl⟩
  clear cSum
  go_wp2_with fail
  go_at_call 52
  refine cBy.mono ?_
  rintro e w6 ⟨rfl, hmade, hb6⟩
  clear cBy
  have hbb := hop HB.out (HBW.out.trans (hb6.mono HBW.out.size))
  obtain ⟨v', W', r1, r2, r3, r4⟩ := appendB (c := 4) (HO.out.keep hb6) (hmade.row (by4_lt sm)) (fun e => absurd e (by omega)) (by omega) (by have := HBW.out.size; have := hb6.size; omega)
  have hF : cat 7 (fmh k m i) (by4 sm) = fmf k m i := by unfold fmf; rw [HM.out]
  rw [hF] at r2
  obtain ⟨g, c, e, hg, hc1, hc2, hrow⟩ := r2.row (by omega) (fmf_lt k m i)
  subst e
  have HR9 : Hid (Sem.run Tryz.prog (Builtin.append_ #[27, 27] 27 #[.slice (some va) 7 vc, .slice (some ⟨W.heap.size, 0, none⟩) 4 4]) w6 = .ok (.slice (some ⟨g, 0, none⟩) 11 c) W') := r1
  have HI : Hid (Inp W' (some ⟨g, 0, none⟩) 11 c (fmtB k m i) ∧ Below w.heap.size w W') := ⟨⟨⟨fmf k m i, fmf_lt k m i, hrow, rfl⟩, (fmtB_sz k m i).symm, fun e => by cases e⟩, hop HB.out ((HBW.out.trans (hb6.mono HBW.out.size)).trans r4)⟩
  clear hmade hb6 hbb r1 r2 r3 r4 hF hg hc1 hc2 hrow
  go_wp2_with (at_builtin; refine wpList_append_ran (by rfl) _ _ 27 (by rfl) _ _ _ _ (by rfl) (by rfl) HR9.out ?_)
  go_wp2
  go_ret
  exact ⟨_, _, rfl, HI.out⟩
theorem fmt_at {w : World} {b k m bl : Nat} {P : Nat → Pc} (h : AX w b k m bl P) (T : HalfT w) {i : Nat} (hi : i ≤ 255) :
    Calls Tryz.prog 31 #[.pointer (some ⟨b, 0, none⟩), .int .i64 (i : Int)] w fun e w' => ∃ a c, e = .returned (.slice a 11 c) ∧ Hid (Inp w' a 11 c (fmtB k m i) ∧ Below w.heap.size w w') := by
  have := fmt_any h T (i : Int)
  rw [show ((i : Int) % 256).toNat = i by omega] at this
  exact this
end Go.Proofs.YtebngmgdciahiaaGreatDoor
