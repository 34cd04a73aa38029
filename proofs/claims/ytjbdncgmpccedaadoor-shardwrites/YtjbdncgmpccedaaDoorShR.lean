/-
  What shard.Write answers where it may not be; what the document's Write answers.
-/
import Derived.Test.YtjbdncgmpccedaaDoorShP
import Derived.Test.YtjbdncgmpccedaaDoorShMay
import Derived.Test.YtjbdncgmpccedaaDoorCrcRef
import Derived.Test.YtjbdncgmpccedaaDoorOpn
import Derived.Lib.SlBytesConst
namespace Go.Proofs.YtjbdncgmpccedaaDoor
open Go.RowKit Crc
attribute [local go_sem ↓] Go.wp_at_zero Go.wp_at_succ
set_option linter.unusedVariables false

set_option maxRecDepth 100000 in
theorem write_no (w : World) (K M I B S D : Int) (u : Value) (h : ¬ MayH K M I B S D) :
    Calls Tryd.prog 8 #[hv K M I B S D, u] w fun e w' => e = .returned (.tuple #[.slice none 0 0, .int .i64 1]) ∧ Below w.heap.size w w' := by
  obtain ⟨W0, hbx, hd0, hb0⟩ := box_head w 29 K M I B S D
  have cM := may_no K M I B S D W0 h
  obtain ⟨c0, c1, c2, c3, c4, c5⟩ := hd0
  have HB0 : Hid (Below w.heap.size w W0) := hb0
  clear hb0 h
  unfold hv at cM ⊢
  go_enter Tryd.func8, Tryd.ntmps8
  go_wp2_with fail
  go_at_call 11
  refine cM.mono ?_
  rintro e W1 ⟨rfl, b1⟩
  clear cM
  go_wp2
  go_ret2
  exact ⟨rfl, hop HB0.out b1⟩
set_option maxRecDepth 100000 in
theorem write_size (w : World) (K M I B S D : Int) (a : Option Addr) (n c : Nat) (h : MayH K M I B S D) (hn : (n : Int) ≠ S) :
    Calls Tryd.prog 8 #[hv K M I B S D, .slice a n c] w fun e w' => e = .returned (.tuple #[.slice none 0 0, .int .i64 1]) ∧ Below w.heap.size w w' := by
  obtain ⟨W0, hbx, hd0, hb0⟩ := box_head w 29 K M I B S D
  have cM := may_yes K M I B S D W0 h
  have HD0 : Hid (HdAt W0 w.heap.size K M I B S D) := hd0
  obtain ⟨c0, c1, c2, c3, c4, c5⟩ := hd0
  have HB0 : Hid (Below w.heap.size w W0) := hb0
  have g1 : ((n : Int) != S) = true := by simp [hn]
  have g2 : ((n : Int) == S) = false := by simp [hn]
  clear hb0 h hn
  unfold hv at cM ⊢
  go_enter Tryd.func8, Tryd.ntmps8
  go_wp2_with fail
  go_at_call 11
  refine cM.mono ?_
  rintro e W1 ⟨rfl, b1⟩
  clear cM
  obtain ⟨d0, d1, d2, d3, d4, d5⟩ := HD0.out.keep b1
  go_wp2
  go_ret2
  exact ⟨rfl, hop HB0.out b1⟩
set_option maxRecDepth 100000 in
theorem rwrite_no (w : World) (K M I B S D : Int) (u : Value) (iK : I64 K) (iM : I64 M) (h : ¬ MayH K M I B S D) :
    Calls Tryd.prog 10 #[hv K M I B S D, u] w fun e w' => e = .returned (.tuple #[.slice none 0 0, .int .i64 1]) ∧ Below w.heap.size w w' := by
  obtain ⟨W0, hbx, hd0, hb0⟩ := box_head w 23 K M I B S D
  have cM := rmay_no K M I B S D W0 iK.1 iK.2 iM.1 iM.2 h
  obtain ⟨c0, c1, c2, c3, c4, c5⟩ := hd0
  have HB0 : Hid (Below w.heap.size w W0) := hb0
  clear hb0 h
  unfold hv at cM ⊢
  go_enter Tryd.func10, Tryd.ntmps10
  go_wp2_with fail
  go_at_call 12
  refine cM.mono ?_
  rintro e W1 ⟨rfl, b1⟩
  clear cM
  go_wp2
  go_ret2
  exact ⟨rfl, hop HB0.out b1⟩
set_option maxRecDepth 100000 in
theorem rwrite_size (w : World) (K M I B S D : Int) (a : Option Addr) (n c : Nat) (iK : I64 K) (iM : I64 M) (h : MayH K M I B S D) (hn : (n : Int) ≠ S) :
    Calls Tryd.prog 10 #[hv K M I B S D, .slice a n c] w fun e w' => e = .returned (.tuple #[.slice none 0 0, .int .i64 1]) ∧ Below w.heap.size w w' := by
  obtain ⟨W0, hbx, hd0, hb0⟩ := box_head w 23 K M I B S D
  have cM := rmay_yes K M I B S D W0 iK.1 iK.2 iM.1 iM.2 h
  have HD0 : Hid (HdAt W0 w.heap.size K M I B S D) := hd0
  obtain ⟨c0, c1, c2, c3, c4, c5⟩ := hd0
  have HB0 : Hid (Below w.heap.size w W0) := hb0
  have g1 : ((n : Int) != S) = true := by simp [hn]
  have g2 : ((n : Int) == S) = false := by simp [hn]
  clear hb0 h hn
  unfold hv at cM ⊢
  go_enter Tryd.func10, Tryd.ntmps10
  go_wp2_with fail
  go_at_call 12
  refine cM.mono ?_
  rintro e W1 ⟨rfl, b1⟩
  clear cM
  obtain ⟨d0, d1, d2, d3, d4, d5⟩ := HD0.out.keep b1
  go_wp2
  go_ret2
  exact ⟨rfl, hop HB0.out b1⟩

/-- Bytes behind a row that has no room: a new row. -/
theorem appendN {w : World} {base n m c' : Nat} {f g : Nat → Nat} {x y : Addr} (hx : ∀ i, i < n → w.cell? (x.add i) = some (.int .u8 ((f i : Nat) : Int))) (hy : ∀ i, i < m → w.cell? (y.add i) = some (.int .u8 ((g i : Nat) : Int))) (hm : 0 < m) (hl : n + m ≤ 1000000) (hb : base ≤ w.heap.size) :
    ∃ v' W, Sem.run Tryd.prog (Builtin.append_ #[24, 24] 24 #[.slice (some x) n n, .slice (some y) m c']) w = .ok v' W ∧ Own W base v' (n + m) (cat n f g) ∧ Below w.heap.size w W := by
  obtain ⟨i, hi, hzz⟩ := Option.map_eq_some_iff.1 info5
  simp only [Prod.mk.injEq] at hzz
  obtain ⟨hz, hs, hby⟩ := hzz
  have hr := run_append_grow (P := Tryd.prog) w 24 24 5 i (.int .u8 0) Tryd.underlying24 hi hz x n n (bs f n) (by rw [bs_length, hs, Nat.mul_one])
    (fun j u hu => by
      have hj : j < n := by rw [← bs_length f n]; exact (List.getElem?_eq_some_iff.1 hu).1
      rw [bs_at hj] at hu; injection hu with hu
      rw [hx j hj, hu]) y m c' (bs g m) (by rw [bs_length, hs, Nat.mul_one])
    (fun j u hu => by
      have hj : j < m := by rw [← bs_length g m]; exact (List.getElem?_eq_some_iff.1 hu).1
      rw [bs_at hj] at hu; injection hu with hu
      rw [hy j hj, hu]) (by omega) (by omega) (growslice_fits (by omega) (by rw [hby]; omega))
  have hge := grownCap_ge w (n + m) n 5
  have hcm : grownCap w (n + m) n 5 ≤ maxLen := grownCap_le_maxLen w (n + m) n 5 (by unfold maxLen; omega)
  refine ⟨_, _, hr, ⟨by rw [bs_length, Nat.mul_one], .inr ⟨w.heap.size, _, _, rfl, hb, heap_alloc_new w.drew _, hge, hcm, ?_, ?_⟩⟩, ?_⟩
  · simp [bs_length, Builtin.zeroCells, Value.cells]
    omega
  · rw [← bs_cat]
    simp only [Nat.mul_one, Array.toList_append]
    exact List.take_left' (by simp [bs_length])
  · exact (Below.refl _ _).drew.trans (bal w.drew _)
end Go.Proofs.YtjbdncgmpccedaaDoor
