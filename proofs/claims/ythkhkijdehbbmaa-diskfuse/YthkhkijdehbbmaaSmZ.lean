/-
  Disks beside one another; a disk of few files.
-/
import Derived.Test.YthkhkijdehbbmaaSmY
set_option maxRecDepth 100000
namespace Go.Proofs.Ythkhkijdehbbmaa
open Go.RowKit
open _root_.Go.Proofs.Ythkhkijdehbbmaa.Nm _root_.Go.Proofs.Ythkhkijdehbbmaa.Dk
attribute [local go_sem ↓] Go.wp_at_zero Go.wp_at_succ
set_option linter.unusedVariables false

/-- What is done on one disk leaves the other. -/
theorem On.other {w0 w w' : World} {p1 m1 p2 m2 : Nat} {q q2 : Option Nat} {s1 s2 : St} {z z2 z' : Option Fz} (h1 : On w0 w p1 m1 q s1 z) (h2 : On w0 w p2 m2 q2 s2 z2) (hp : p1 ≠ p2) (hm : m1 ≠ m2) (u : Upd (Ms p1 m1 q) w w') (fz : FZ w' q2 z') : On w0 w' p2 m2 q2 s2 z' := by
  obtain ⟨V1, F1, x1⟩ := h1.px
  obtain ⟨V2, F2, x2⟩ := h2.px
  refine ⟨⟨V2, F2, ?_⟩, fz, Upd.below h2.b u (fun i k => ?_) h2.b.size, h2.p0, h2.m0, h2.q0⟩
  · refine x2.turn u (fun k e cur T t => ?_) (fun e => ?_) ?_ rfl x2.wf x2.F0 x2.F1
    · rcases e with e | e | e
      · subst e
        rw [x1.o] at t
        injection t with t
        injection t with _ t _
        subst t; decide
      · subst e
        obtain ⟨es, clock, hb, _⟩ := x1.m
        rw [hb] at t
        injection t with t
        cases t
      · subst e
        obtain ⟨cs, hk⟩ := h1.fz.type
        rw [t] at hk
        injection hk with hk
        injection hk with _ hk _
        subst hk; decide
    · rcases e with e | e | e
      · rw [e] at x2
        obtain ⟨es, clock, hb, _⟩ := x2.m
        rw [x1.o] at hb
        injection hb with hb
        cases hb
      · exact hm e.symm
      · subst e
        obtain ⟨cs, hk⟩ := h1.fz.type
        obtain ⟨es, clock, hb, _⟩ := x2.m
        rw [hk] at hb
        injection hb with hb
        cases hb
    · rw [u.block p2 x2.lt (fun e => ?_)]
      · exact x2.o
      · rcases e with e | e | e
        · exact hp e.symm
        · subst e
          obtain ⟨es, clock, hb, _⟩ := x1.m
          rw [x2.o] at hb
          injection hb with hb
          cases hb
        · subst e
          obtain ⟨cs, hk⟩ := h1.fz.type
          rw [x2.o] at hk
          injection hk with hk
          injection hk with _ hk _
          cases hk
  · rcases k with k | k | k
    · rw [k]; exact h1.p0
    · rw [k]; exact h1.m0
    · exact h1.q0 i k
theorem askD_go {s : St} {ps : List ByteArray} (h0 : s.off = false) (h1 : s.bad = 0) (h2 : ps.all okPath = true) : askD s ps = (0, s) := askD_ok h0 (by omega) h2
/-- A write that goes in. -/
theorem wri_ok {z : Option Fz} {s : St} {x b : ByteArray} (hz : blB z = false) (h0 : s.off = false) (h1 : s.bad = 0) (h2 : okPath x = true) (hb : b.size ≤ 262144) (hf : full s x b = false) : wriZ z s x b = (0, { s with fs := Dk.put s.fs ⟨x, b, false⟩ }) := by
  obtain ⟨e1, e2, _⟩ := ask_parts z s [x] hz
  have ha := askD_go (ps := [x]) h0 h1 (by simp [h2])
  rw [ha] at e1 e2
  unfold wriZ
  rw [e1, e2, if_neg (fun k => k rfl), if_neg (by omega), if_neg (by rw [hf]; decide)]
theorem wri_blown {z : Option Fz} {s : St} {x b : ByteArray} (hz : blB z = true) : wriZ z s x b = (20, s) := by
  obtain ⟨e1, e2, _⟩ := ask_blown s [x] hz
  unfold wriZ
  rw [e1, e2, if_pos (by decide)]
theorem ask_z {z : Option Fz} (s : St) (ps : List ByteArray) : (askZ z s ps).2.1 = tickO z := by
  cases h : blB z with
  | true => exact (ask_blown s ps h).2.2
  | false => exact (ask_parts z s ps h).2.2
end Go.Proofs.Ythkhkijdehbbmaa
