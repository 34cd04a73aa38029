/-
  What shard.Writer.Add and End do to a Writer that has t bytes of its data.
-/
import Derived.Test.YtjbdncgmpccedaaDoorShB
import Derived.Test.YtjbdncgmpccedaaDoorShC
namespace Go.Proofs.YtjbdncgmpccedaaDoor
open Go.RowKit Crc
attribute [local go_sem ↓] Go.wp_at_zero Go.wp_at_succ
set_option linter.unusedVariables false

/-- A Writer that has the first t of S bytes f. -/
def Wr (w : World) (base p K M I B S D : Nat) (f : Nat → Nat) (t : Nat) : Prop :=
  ∃ v, WrAt w p v B (S - t) (rm S B t) (sm S B t f) ∧ Own w base v (wl S B t) (file K M I B S D f)
theorem wl_pos (S B t : Nat) : 24 ≤ wl S B t := by unfold wl; omega
theorem rm_le {S B t : Nat} : rm S B t ≤ B := by unfold rm; split <;> omega
theorem rm_pos {S B t : Nat} (hB : 0 < B) : 0 < rm S B t := by
  unfold rm
  have := Nat.mod_lt t hB
  split <;> omega

theorem take_step (w0 w : World) (p K M I B S D t : Nat) (f : Nat → Nat) (a : Option Addr) (m c : Nat) (T : HalfT w0) (h : Row w0 a m (fun i => f (t + i))) (z : a = none → m = 0 ∧ c = 0) (hb : Below w0.heap.size w0 w) (hp : w0.heap.size ≤ p)
    (hw : Wr w w0.heap.size p K M I B S D f t) (hf : ∀ i, f i < 256) (hB : 16 ≤ B) (hB2 : B ≤ 4096) (hS : S ≤ 65536) (ht : t < S) (h1 : m ≤ rm S B t) (h2 : t + m ≤ S) :
    Calls Tryd.prog 25 #[.pointer (some ⟨p, 0, none⟩), .slice a m c] w fun e w' => e = .returned (.tuple #[]) ∧ Below w0.heap.size w0 w' ∧ Wr w' w0.heap.size p K M I B S D f (t + m) := by
  obtain ⟨v, hw, ho⟩ := hw
  have hl := wl_le (S := S) (B := B) (t := t) hB (by omega)
  have hr : rm S B t = B - t % B := by unfold rm; rw [if_neg (by omega)]
  have h1' : m ≤ B - t % B := by omega
  have hrl := rm_le (S := S) (B := B) (t := t)
  by_cases hz : m = B - t % B ∨ t + m = S
  · obtain ⟨e1, e2, e3⟩ := close_wl (f := f) (by omega) ht h1' h2 hz
    refine (take_close w0 w p (wl S B t) B (S - t) (rm S B t) (sm S B t f) v (file K M I B S D f) _ a m c T h z hb hp hw ho (by omega) (by have := wl_pos S B t; omega) (sm_lt hf) (by omega) (by omega) (by omega) (by omega) (by omega) (by omega)).mono ?_
    rintro e w' ⟨rfl, hb', v', hw', ho'⟩
    refine ⟨rfl, hb', v', ?_, ?_⟩
    · rw [e2, e3, show S - (t + m) = S - t - m by omega]; exact hw'
    · rw [e1]; exact ho'.congr fun i hi => close_cat (by omega) ht h1' h2 hz i hi
  · obtain ⟨e1, e2, e3⟩ := open_wl (S := S) (f := f) (t := t) (m := m) (B := B) (by omega) (by omega) (by omega)
    refine (take_open w0 w p (wl S B t) B (S - t) (rm S B t) (sm S B t f) v (file K M I B S D f) _ a m c T h z hb hp hw ho (by omega) (by have := wl_pos S B t; omega) (sm_lt hf) (by omega) (by omega) (by omega) (by omega)).mono ?_
    rintro e w' ⟨rfl, hb', v', hw', ho'⟩
    refine ⟨rfl, hb', v', ?_, ?_⟩
    · rw [e2, e3, show S - (t + m) = S - t - m by omega]; exact hw'
    · rw [e1]; exact ho'.congr fun i hi => open_cat (by omega) ht h1' h2 i hi

theorem eql_nil (w : World) (a : Addr) (l c : Nat) : Sem.run Tryd.prog (binOp .eql 24 (.slice (some a) l c) (.slice none 0 0)) w = .ok (.bool false) w := by
  simp [binOp, run_equal_slice_nil (P := Tryd.prog) w 24 5 (some a) l c Tryd.underlying24]
theorem nil_nil (w : World) : Sem.run Tryd.prog (binOp .eql 24 (.slice none 0 0) (.slice none 0 0)) w = .ok (.bool true) w := by
  simp [binOp, run_equal_slice_nil (P := Tryd.prog) w 24 5 none 0 0 Tryd.underlying24]
theorem row_some {w : World} {a : Option Addr} {n : Nat} {f : Nat → Nat} (h : Row w a n f) (hn : 0 < n) : a ≠ none := by
  obtain ⟨b, o, e, _⟩ := h.lies hn
  rw [e]; simp

set_option maxRecDepth 100000 in
set_option maxHeartbeats 1000000 in
theorem add_ok (w0 w : World) (p K M I B S D t : Nat) (f : Nat → Nat) (a : Option Addr) (m c : Nat) (T : HalfT w0) (h : Row w0 a m (fun i => f (t + i))) (hc : m ≤ c) (hb : Below w0.heap.size w0 w) (hp : w0.heap.size ≤ p)
    (hw : Wr w w0.heap.size p K M I B S D f t) (hf : ∀ i, f i < 256) (hB : 16 ≤ B) (hB2 : B ≤ 4096) (hS : S ≤ 65536) (h2 : t + m ≤ S) :
    Calls Tryd.prog 14 #[.pointer (some ⟨p, 0, none⟩), .slice a m c] w fun e w' => e = .returned (.int .i64 0) ∧ Below w0.heap.size w0 w' ∧ Wr w' w0.heap.size p K M I B S D f (t + m) := by
  have HW : Hid (Wr w w0.heap.size p K M I B S D f t) := hw
  obtain ⟨v, hw1, ho⟩ := hw
  obtain ⟨gb, cb', rfl, z1, z2, z3, z4⟩ := ho.made (by have := wl_pos S B t; omega)
  clear z1 z2 z3 z4
  obtain ⟨c0, c1, c2, c3, c4⟩ := hw1.cells
  have il : ((S - t : Nat) : Int) = (S : Int) - (t : Int) := by omega
  have g1 : decide ((m : Int) > ((S - t : Nat) : Int)) = false := by simp; omega
  have g2 : decide (((S - t : Nat) : Int) < (m : Int)) = false := by simp; omega
  have HT : Hid (HalfT w0) := T
  have HR : Hid (Row w0 a m (fun i => f (t + i))) := h
  have HB : Hid (Below w0.heap.size w0 w) := hb
  have HF : Hid (∀ i, f i < 256) := hf
  clear hw1 ho T h hb hf
  generalize S - t = L at *
  generalize rm S B t = R at *
  generalize sm S B t f = s at *
  generalize wl S B t = n at *
  have q0 := eql_nil w ⟨gb, 0, none⟩ n cb'
  go_enter Tryd.func14, Tryd.ntmps14
  go_wp2
  go_loopw [1] (fun b wr => ∃ (k : Nat) (A : Option Addr), k ≤ m ∧ b = .slice A (m - k) (c - k) ∧ Row w0 A (m - k) (fun i => f (t + k + i)) ∧ Wr wr w0.heap.size p K M I B S D f (t + k) ∧ Below w0.heap.size w0 wr) (fun b _ => match b with | .slice _ l _ => l | _ => 0)
  case atStart => exact ⟨0, a, by omega, by simp, by simpa using HR.out, by simpa using HW.out, HB.out⟩
  case round =>
    obtain ⟨k, A, hk, rfl, hA, hWk, hbk⟩ := hrel
    clear HR HW HB c0 c1 c2 c3 c4 g1 g2 il
    by_cases hlt : k < m
    · have HWk : Hid (Wr wr w0.heap.size p K M I B S D f (t + k)) := hWk
      obtain ⟨v, hw1, ho⟩ := hWk
      have c3 := hw1.cells.2.2.2.1
      have hrp := rm_pos (S := S) (B := B) (t := t + k) (by omega)
      have hrl := rm_le (S := S) (B := B) (t := t + k)
      obtain ⟨x, hx⟩ : ∃ x, x = min (m - k) (rm S B (t + k)) := ⟨_, rfl⟩
      have hx1 : x ≤ m - k := by omega
      have hx2 : x ≤ rm S B (t + k) := by omega
      have hx3 : 0 < x := by omega
      have hmin : min (((m - k : Nat) : Int)) ((rm S B (t + k) : Nat) : Int) = (x : Int) := by omega
      obtain ⟨A1, hs1, hA1⟩ := cut_h (c := c - k) hA x hx1 (by omega)
      obtain ⟨A2, hs2, hA2⟩ := cut_l (c := c - k) hA x hx1 (by omega)
      have cT := take_step w0 wr p K M I B S D (t + k) f A1 x (c - k) HT.out hA1 (fun e => absurd e (row_some hA1 hx3)) hbk hp HWk.out HF.out hB hB2 hS (by omega) hx2 (by omega)
      have gl : (0 : Int) < ((m - k : Nat) : Int) := by omega
      have HA2 : Hid (Row w0 A2 (m - k - x) (fun i => f (t + k + (x + i)))) := hA2
      have HX : Hid (x ≤ m - k) := hx1
      clear hx hw1 ho hA hA1 hA2 HWk hbk hx1 hx2
      have ul : m - k ≤ 1000000 := by omega
      have HL : Hid (k < m) := hlt
      clear hlt
      generalize hR : rm S B (t + k) = R at *
      clear hR
      obtain ⟨l, hl⟩ : ∃ l, m - k = l := ⟨_, rfl⟩
      obtain ⟨cc, hcc⟩ : ∃ cc, c - k = cc := ⟨_, rfl⟩
      have HLL : Hid (m - k = l) := hl
      have HCC : Hid (c - k = cc) := hcc
      rw [hl] at hs1 hs2 hmin gl ul HX HA2 ⊢
      rw [hcc] at hs1 hs2 cT ⊢
      clear hl hcc
      have hxx : (l ≤ R ∧ x = l) ∨ (R < l ∧ x = R) := by omega
      clear hmin
      rcases hxx with ⟨e1, e⟩ | ⟨e1, e⟩
      · have i1 : (x : Int) ≤ (R : Int) := by omega
        subst e
        clear e1
        go_wp2_with fail
        go_at_call 25
        refine cT.mono ?_
        rintro e w' ⟨rfl, hb', hW'⟩
        have HW' : Hid (Wr w' w0.heap.size p K M I B S D f (t + k + x)) := hW'
        clear hW' cT
        go_wp2
        go_round
        case rel => exact ⟨k + x, A2, by have := HX.out; have := HLL.out; omega, by rw [show m - (k + x) = 0 by have := HLL.out; omega, show c - (k + x) = cc - x by have := HCC.out; omega], by
          have e1 := HA2.out
          rw [show m - (k + x) = x - x by have := HLL.out; omega]
          exact e1.cast (by funext i; congr 1; omega), by rw [← Nat.add_assoc]; exact HW'.out, hb'⟩
        case measure => simp; omega
      · have i1 : (x : Int) < (l : Int) := by omega
        subst e
        clear e1
        go_wp2_with fail
        go_at_call 25
        refine cT.mono ?_
        rintro e w' ⟨rfl, hb', hW'⟩
        have HW' : Hid (Wr w' w0.heap.size p K M I B S D f (t + k + x)) := hW'
        clear hW' cT
        go_wp2
        go_round
        case rel => exact ⟨k + x, A2, by have := HX.out; have := HLL.out; omega, by rw [show m - (k + x) = l - x by have := HLL.out; omega, show c - (k + x) = cc - x by have := HCC.out; omega], by
          have e1 := HA2.out
          rw [show m - (k + x) = l - x by have := HLL.out; omega]
          exact e1.cast (by funext i; congr 1; omega), by rw [← Nat.add_assoc]; exact HW'.out, hb'⟩
        case measure => simp; omega
    · have : k = m := by omega
      subst this
      have HE : Hid _ := hWk
      clear hWk
      have gl : decide ((0 : Int) < ((k - k : Nat) : Int)) = false := by simp
      rw [Nat.sub_self] at *
      go_wp2
      go_ret
      exact ⟨rfl, hbk, HE.out⟩

theorem WrAt.put1 {w : World} {p : Nat} {v : Value} {B L R s : Nat} (h : WrAt w p v B L R s) (x : Nat) : WrAt (w.setCell ⟨p, 1, none⟩ (.int .i64 (x : Int))) p v x L R s := heap_setCell_same w p 1 _ _ _ h
/-- A Writer that has ended, or never began. -/
def Dead (w : World) (p : Nat) : Prop := WrAt w p (.slice none 0 0) 0 0 0 0
theorem Dead.keep {w w' : World} {p : Nat} (h : Dead w p) (hb : Below w.heap.size w w') : Dead w' p := WrAt.keep h hb
theorem Wr.keep {w w' : World} {base p K M I B S D t : Nat} {f : Nat → Nat} (h : Wr w base p K M I B S D f t) (hb : Below w.heap.size w w') : Wr w' base p K M I B S D f t := by
  obtain ⟨v, h1, h2⟩ := h
  exact ⟨v, h1.keep hb, h2.keep hb⟩

set_option maxRecDepth 100000 in
theorem add_long (w : World) (base p K M I B S D t : Nat) (f : Nat → Nat) (a : Option Addr) (m c : Nat) (hw : Wr w base p K M I B S D f t) (h2 : S < t + m) (ht : t ≤ S) (hS : S ≤ 65536) (hm : m ≤ maxLen) :
    Calls Tryd.prog 14 #[.pointer (some ⟨p, 0, none⟩), .slice a m c] w fun e w' => e = .returned (.int .i64 3) ∧ w = w' := by
  unfold maxLen at hm
  obtain ⟨v, hw1, ho⟩ := hw
  obtain ⟨gb, cb', rfl, z1, z2, z3, z4⟩ := ho.made (by have := wl_pos S B t; omega)
  clear z1 z2 z3 z4
  obtain ⟨c0, c1, c2, c3, c4⟩ := hw1.cells
  have g1 : ((S - t : Nat) : Int) < (m : Int) := by omega
  have q0 := eql_nil w ⟨gb, 0, none⟩ (wl S B t) cb'
  clear hw1 ho
  generalize S - t = L at *
  generalize wl S B t = n at *
  go_enter Tryd.func14, Tryd.ntmps14
  go_wp2
  go_ret
  exact ⟨rfl, rfl⟩
set_option maxRecDepth 100000 in
theorem add_dead (w : World) (p : Nat) (u : Value) (hw : Dead w p) :
    Calls Tryd.prog 14 #[.pointer (some ⟨p, 0, none⟩), u] w fun e w' => e = .returned (.int .i64 1) ∧ w = w' := by
  obtain ⟨c0, c1, c2, c3, c4⟩ := WrAt.cells hw
  have q0 := nil_nil w
  clear hw
  go_enter Tryd.func14, Tryd.ntmps14
  go_wp2
  go_ret
  exact ⟨rfl, rfl⟩
set_option maxRecDepth 100000 in
theorem end_dead (w : World) (p : Nat) (hw : Dead w p) :
    Calls Tryd.prog 15 #[.pointer (some ⟨p, 0, none⟩)] w fun e w' => e = .returned (.tuple #[.slice none 0 0, .int .i64 1]) ∧ w = w' := by
  obtain ⟨c0, c1, c2, c3, c4⟩ := WrAt.cells hw
  have q0 := nil_nil w
  clear hw
  go_enter Tryd.func15, Tryd.ntmps15
  go_wp2
  go_ret2
  exact ⟨rfl, rfl⟩
set_option maxRecDepth 100000 in
theorem end_short (w : World) (base p K M I B S D t : Nat) (f : Nat → Nat) (hw : Wr w base p K M I B S D f t) (ht : t < S) :
    Calls Tryd.prog 15 #[.pointer (some ⟨p, 0, none⟩)] w fun e w' => e = .returned (.tuple #[.slice none 0 0, .int .i64 2]) ∧ w = w' := by
  obtain ⟨v, hw1, ho⟩ := hw
  obtain ⟨gb, cb', rfl, z1, z2, z3, z4⟩ := ho.made (by have := wl_pos S B t; omega)
  clear z1 z2 z3 z4
  obtain ⟨c0, c1, c2, c3, c4⟩ := hw1.cells
  have g1 : (0 : Int) < ((S - t : Nat) : Int) := by omega
  have q0 := eql_nil w ⟨gb, 0, none⟩ (wl S B t) cb'
  clear hw1 ho
  generalize S - t = L at *
  generalize wl S B t = n at *
  go_enter Tryd.func15, Tryd.ntmps15
  go_wp2
  go_ret2
  exact ⟨rfl, rfl⟩
set_option maxRecDepth 100000 in
theorem end_ok (w : World) (base p K M I B S D : Nat) (f : Nat → Nat) (hw : Wr w base p K M I B S D f S) (hp : base ≤ p) :
    Calls Tryd.prog 15 #[.pointer (some ⟨p, 0, none⟩)] w fun e w' => ∃ v, e = .returned (.tuple #[v, .int .i64 0]) ∧ Own w' base v (wl S B S) (file K M I B S D f) ∧ Dead w' p ∧ Below base w w' := by
  obtain ⟨v, hw1, ho⟩ := hw
  have HO : Hid (Own w base v (wl S B S) (file K M I B S D f)) := ho
  have HW : Hid (WrAt w p v B (S - S) (rm S B S) (sm S B S f)) := hw1
  obtain ⟨gb, cb', rfl, z1, z2, z3, z4⟩ := ho.made (by have := wl_pos S B S; omega)
  clear z1 z2 z3 z4
  obtain ⟨c0, c1, c2, c3, c4⟩ := hw1.cells
  have s0 := hw1.soft 0
  have s1 := hw1.soft 1
  have s2 := hw1.soft 2
  have s3 := hw1.soft 3
  have s4 := hw1.soft 4
  have q0 := eql_nil w ⟨gb, 0, none⟩ (wl S B S) cb'
  rw [Nat.sub_self] at c2
  clear hw1 ho
  generalize wl S B S = n at *
  generalize rm S B S = r at *
  generalize sm S B S f = s at *
  go_enter Tryd.func15, Tryd.ntmps15
  go_wp2
  go_ret2
  have h0 := HW.out.put0 (.slice none 0 0)
  have o0 := HO.out.put (j := 0) (x := .slice none 0 0) HW.out
  have h1 := h0.put1 0
  have o1 := o0.put (j := 1) (x := .int .i64 ((0 : Nat) : Int)) h0
  have h2 := h1.put2 0
  have o2 := o1.put (j := 2) (x := .int .i64 ((0 : Nat) : Int)) h1
  have h3 := h2.put3 0
  have o3 := o2.put (j := 3) (x := .int .i64 ((0 : Nat) : Int)) h2
  have h4 := h3.put4 0
  have o4 := o3.put (j := 4) (x := .int .u32 ((0 : Nat) : Int)) h3
  exact ⟨_, rfl, o4, h4, (((((Below.refl _ _).setCell (p := ⟨p, 0, none⟩) hp _).setCell (p := ⟨p, 1, none⟩) hp _).setCell (p := ⟨p, 2, none⟩) hp _).setCell (p := ⟨p, 3, none⟩) hp _).setCell (p := ⟨p, 4, none⟩) hp _⟩
end Go.Proofs.YtjbdncgmpccedaaDoor
