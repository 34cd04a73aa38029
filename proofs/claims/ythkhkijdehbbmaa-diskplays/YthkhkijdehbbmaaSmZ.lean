/-
  Disks beside one another; a disk of few files.
-/
import Derived.Test.YthkhkijdehbbmaaSmY
import Derived.LaidEqlPtr
set_option maxRecDepth 100000
namespace Go.Proofs.Ythkhkijdehbbmaa
open Go.RowKit
open _root_.Go.Proofs.Ythkhkijdehbbmaa.Nm _root_.Go.Proofs.Ythkhkijdehbbmaa.Dk
attribute [local go_sem ↓] Go.wp_at_zero Go.wp_at_succ
set_option linter.unusedVariables false

/-- What is done on one disk leaves the other. -/
theorem On.other {w0 w w' : World} {p1 m1 p2 m2 : Nat} {q q2 : Option Nat} {s1 s2 : St} {z z2 z' : Option Fz} (h1 : On w0 w p1 m1 q s1 z) (h2 : On w0 w p2 m2 q2 s2 z2) (hp : p1 ≠ p2) (hm : m1 ≠ m2) (u : Upd (Ms p1 m1 q) w w') (fz : FZ w' q2 z') : On w0 w' p2 m2 q2 s2 z' := by
  obtain ⟨V1, F1, x1⟩ := h1.px
  obtain ⟨V2, F2, x2⟩ := h2.px
  refine ⟨⟨V2, F2, ?_⟩, fz, Upd.below h2.b u (fun i k => ?_) h2.b.size, h2.p0, h2.m0, h2.q0⟩
  · refine x2.turn u (fun k e cur T t => ?_) (fun e => ?_) ?_ rfl x2.wf x2.F0 x2.F1
    · rcases e with e | e | e
      · subst e
        rw [x1.o] at t
        injection t with t
        injection t with _ t _
        subst t; decide
      · subst e
        obtain ⟨es, clock, hb, _⟩ := x1.m
        rw [hb] at t
        injection t with t
        cases t
      · subst e
        obtain ⟨cs, hk⟩ := h1.fz.type
        rw [t] at hk
        injection hk with hk
        injection hk with _ hk _
        subst hk; decide
    · rcases e with e | e | e
      · rw [e] at x2
        obtain ⟨es, clock, hb, _⟩ := x2.m
        rw [x1.o] at hb
        injection hb with hb
        cases hb
      · exact hm e.symm
      · subst e
        obtain ⟨cs, hk⟩ := h1.fz.type
        obtain ⟨es, clock, hb, _⟩ := x2.m
        rw [hk] at hb
        injection hb with hb
        cases hb
    · rw [u.block p2 x2.lt (fun e => ?_)]
      · exact x2.o
      · rcases e with e | e | e
        · exact hp e.symm
        · subst e
          obtain ⟨es, clock, hb, _⟩ := x1.m
          rw [x2.o] at hb
          injection hb with hb
          cases hb
        · subst e
          obtain ⟨cs, hk⟩ := h1.fz.type
          rw [x2.o] at hk
          injection hk with hk
          injection hk with _ hk _
          cases hk
  · rcases k with k | k | k
    · rw [k]; exact h1.p0
    · rw [k]; exact h1.m0
    · exact h1.q0 i k
theorem askD_go {s : St} {ps : List ByteArray} (h0 : s.off = false) (h1 : s.bad = 0) (h2 : ps.all okPath = true) : askD s ps = (0, s) := askD_ok h0 (by omega) h2
/-- A write that goes in. -/
theorem wri_ok {z : Option Fz} {s : St} {x b : ByteArray} (hz : blB z = false) (h0 : s.off = false) (h1 : s.bad = 0) (h2 : okPath x = true) (hb : b.size ≤ 262144) (hf : full s x b = false) : wriZ z s x b = (0, { s with fs := Dk.put s.fs ⟨x, b, false⟩ }) := by
  obtain ⟨e1, e2, _⟩ := ask_parts z s [x] hz
  have ha := askD_go (ps := [x]) h0 h1 (by simp [h2])
  rw [ha] at e1 e2
  unfold wriZ
  rw [e1, e2, if_neg (fun k => k rfl), if_neg (by omega), if_neg (by rw [hf]; decide)]
theorem wri_blown {z : Option Fz} {s : St} {x b : ByteArray} (hz : blB z = true) : wriZ z s x b = (20, s) := by
  obtain ⟨e1, e2, _⟩ := ask_blown s [x] hz
  unfold wriZ
  rw [e1, e2, if_pos (by decide)]
theorem ask_z {z : Option Fz} (s : St) (ps : List ByteArray) : (askZ z s ps).2.1 = tickO z := by
  cases h : blB z with
  | true => exact (ask_blown s ps h).2.2
  | false => exact (ask_parts z s ps h).2.2
theorem toList_ne {x y : ByteArray} (h : x ≠ y) : (x.toList == y.toList) = false ∧ (x.toList != y.toList) = true := by
  have : x.toList ≠ y.toList := fun e => h (by
    rw [ByteArray.toList_eq, ByteArray.toList_eq] at e
    exact tx_inj e)
  exact ⟨by simpa using this, by simpa using this⟩
set_option maxHeartbeats 4000000 in
/-- Texts: are two rows? -/
theorem texts_any (a1 : Option Addr) (c1 : Nat) (M1 : List Sv) (a2 : Option Addr) (c2 : Nat) (M2 : List Sv) (w : World) (h1 : Ss w a1 M1) (h2 : Ss w a2 M2) (l1 : M1.length ≤ 1000000) (l2 : M2.length ≤ 1000000) :
    Calls Try.prog 30 #[.slice a1 M1.length c1, .slice a2 M2.length c2] w fun e w' => e = .returned (.bool (decide ((M1.map fun y => y.s) = (M2.map fun y => y.s)))) ∧ ∃ n, w' = w.drewN n := by
  obtain ⟨R, hR⟩ : ∃ R, decide ((M1.map fun y => y.s) = (M2.map fun y => y.s)) = R := ⟨_, rfl⟩
  rw [hR]
  have HR : Hid (decide ((M1.map fun y => y.s) = (M2.map fun y => y.s)) = R) := hR
  have HNO : Hid ((M1.map fun y => y.s) ≠ (M2.map fun y => y.s) → R = false) := fun e => by rw [← HR.out]; exact decide_eq_false e
  have HYES : Hid ((M1.map fun y => y.s) = (M2.map fun y => y.s) → R = true) := fun e => by rw [← HR.out]; exact decide_eq_true e
  clear hR
  by_cases hl : M1.length = M2.length
  · have HL : Hid (M1.length = M2.length) := hl
    have H1 : Hid (Ss w a1 M1) := h1
    have H2 : Hid (Ss w a2 M2) := h2
    obtain ⟨n, hn⟩ : ∃ n, M1.length = n := ⟨_, rfl⟩
    have hn2 : M2.length = n := by omega
    have HN : Hid (M1.length = n ∧ M2.length = n) := ⟨hn, hn2⟩
    rw [hn, hn2]
    rw [hn] at l1
    clear h1 h2 hl hn hn2 l2
    go_enter Try.func30, Try.ntmps30
    go_wp2_with fail
    go_loopw [5] (fun i wr => ∃ j : Nat, j ≤ n ∧ i = .int .i64 j ∧ (∀ k, k < j → M1[k]!.s = M2[k]!.s) ∧ ∃ nd, wr = w.drewN nd) (fun i _ => n - (intOf i).toNat)
    case atStart => exact ⟨0, by omega, rfl, fun k hk => absurd hk (by omega), 0, rfl⟩
    case round =>
      obtain ⟨j, hj, rfl, hk, nd, hwr⟩ := hrel
      have HWR : Hid (wr = w.drewN nd) := hwr
      have H1' : Hid (Ss wr a1 M1) := by unfold Hid; rw [hwr]; exact H1.out.keep (bdn' _ _)
      have H2' : Hid (Ss wr a2 M2) := by unfold Hid; rw [hwr]; exact H2.out.keep (bdn' _ _)
      clear hwr
      have HK : Hid (∀ k, k < j → M1[k]!.s = M2[k]!.s) := hk
      clear hk
      by_cases hlt : j < n
      · have ij : (j : Int) < (n : Int) := by omega
        obtain ⟨b1, o1, rfl, hA1⟩ := H1'.out (by have := HN.out.1; omega)
        obtain ⟨b2, o2, rfl, hA2⟩ := H2'.out (by have := HN.out.2; omega)
        have t1 := (hA1 j (by have := HN.out.1; omega)).c0
        have t2 := (hA2 j (by have := HN.out.2; omega)).c0
        rw [Nat.mul_one] at t1 t2
        have HNE : Hid (M1[j]!.s ≠ M2[j]!.s → R = false) := fun e => HNO.out fun q => e (by
          have := congrArg (fun l => l[j]?) q
          simp only [List.getElem?_map] at this
          have e1 := HN.out.1
          have e2 := HN.out.2
          rw [List.getElem?_eq_getElem (by omega), List.getElem?_eq_getElem (by omega)] at this
          rw [getElem!_pos M1 j (by omega), getElem!_pos M2 j (by omega)]
          simpa using this)
        obtain ⟨x, hx⟩ : ∃ x, M1[j]!.s = x := ⟨_, rfl⟩
        obtain ⟨y, hy⟩ : ∃ y, M2[j]!.s = y := ⟨_, rfl⟩
        rw [hx] at t1 HNE
        rw [hy] at t2 HNE
        have HXY : Hid (M1[j]!.s = x ∧ M2[j]!.s = y) := ⟨hx, hy⟩
        clear hA1 hA2 hx hy
        by_cases q : x = y
        · subst q
          go_wp2_with fail
          go_quiet (fail)
          go_wp2
          go_round
          case rel => exact ⟨j + 1, by omega, by go_num, fun k hk => (by
            by_cases e : k < j
            · exact HK.out k e
            · have : k = j := by omega
              subst this
              rw [HXY.out.1, HXY.out.2]), nd + nq, by rw [HWR.out]; simp⟩
          case measure => simp [intOf]; omega
        · obtain ⟨q1, q2⟩ := toList_ne q
          have HE : Hid (R = false) := HNE.out q
          clear q
          go_wp2_with fail
          go_quiet (fail)
          go_wp2
          go_ret
          exact ⟨by rw [HE.out] <;> rfl, nd + nq, by rw [HWR.out]; simp⟩
      · have hjn : j = n := by omega
        subst hjn
        have ij : decide ((j : Int) < (j : Int)) = false := by simp
        have HE : Hid (R = true) := HYES.out (by
          apply List.ext_getElem?
          intro i
          simp only [List.getElem?_map]
          have e1 := HN.out.1
          have e2 := HN.out.2
          by_cases hi : i < j
          · have := HK.out i hi
            rw [getElem!_pos M1 i (by omega), getElem!_pos M2 i (by omega)] at this
            rw [List.getElem?_eq_getElem (by omega), List.getElem?_eq_getElem (by omega)]
            simpa using this
          · rw [List.getElem?_eq_none (by omega), List.getElem?_eq_none (by omega)])
        clear hlt
        go_wp2
        go_ret
        exact ⟨by rw [HE.out] <;> rfl, nd, HWR.out⟩
  · have HE : Hid (R = false) := HNO.out fun q => hl (by simpa using congrArg List.length q)
    have g1 : ((M1.length : Int) == (M2.length : Int)) = false := by rw [beq_eq_false_iff_ne]; omega
    have g2 : (M1.length == M2.length) = false := by rw [beq_eq_false_iff_ne]; omega
    have g3 : ((M1.length : Int) != (M2.length : Int)) = true := by rw [bne_iff_ne]; omega
    have g4 : (M1.length != M2.length) = true := by rw [bne_iff_ne]; omega
    clear h1 h2
    go_enter Try.func30, Try.ntmps30
    go_wp2
    go_ret
    exact ⟨by rw [HE.out] <;> rfl, 0, rfl⟩
theorem SOwn.ss {w : World} {base : Nat} {v : Value} {M : List Sv} (h : SOwn w base v M) : ∃ a c, v = .slice a M.length c ∧ Ss w a M := by
  obtain ⟨a, c, e, h1, _⟩ := h.row
  exact ⟨a, c, e, h1⟩
/-- Ahead of the heap's end. -/
theorem On.lt {w0 w : World} {p m : Nat} {q : Option Nat} {s : St} {z : Option Fz} (h : On w0 w p m q s z) : ∀ k, Ms p m q k → k < w.heap.size := fun k e => by
  obtain ⟨V, F, x⟩ := h.px
  rcases e with e | e | e
  · rw [e]; exact x.lt
  · rw [e]; exact x.m.lt
  · have hz := h.fz
    rw [e] at hz
    obtain ⟨cs, hk⟩ := hz.type
    exact (Array.getElem?_eq_some_iff.1 hk).1
/-- Ahead of its errors a disk's state alone tells. -/
theorem wri_same {z z' : Option Fz} {s : St} {x b : ByteArray} (h : blB z = false) (h' : blB z' = false) : wriZ z s x b = wriZ z' s x b := by
  obtain ⟨e1, e2, _⟩ := ask_parts z s [x] h
  obtain ⟨f1, f2, _⟩ := ask_parts z' s [x] h'
  unfold wriZ
  rw [e1, e2, f1, f2]
theorem del_same {z z' : Option Fz} {s : St} {x : ByteArray} (h : blB z = false) (h' : blB z' = false) : delZ z s x = delZ z' s x := by
  obtain ⟨e1, e2, _⟩ := ask_parts z s [x] h
  obtain ⟨f1, f2, _⟩ := ask_parts z' s [x] h'
  unfold delZ
  rw [e1, e2, f1, f2]
theorem On.other2 {w0 w w' : World} {p1 m1 p2 m2 : Nat} {q q2 : Option Nat} {s1 s2 : St} {z z2 : Option Fz} (h1 : On w0 w p1 m1 q s1 z) (h2 : On w0 w p2 m2 q2 s2 z2) (hp : p1 ≠ p2) (hm : m1 ≠ m2) (hq : ∀ k, q2 = some k → q ≠ some k) (u : Upd (Ms p1 m1 q) w w') : On w0 w' p2 m2 q2 s2 z2 := by
  refine h1.other h2 hp hm u (h2.fz.upd u fun k e k2 => ?_)
  obtain ⟨V1, F1, x1⟩ := h1.px
  have hz := h2.fz
  rw [e] at hz
  obtain ⟨cs, hk⟩ := hz.type
  rcases k2 with k2 | k2 | k2
  · subst k2
    rw [x1.o] at hk
    injection hk with hk
    injection hk with _ hk _
    cases hk
  · subst k2
    obtain ⟨es, clock, hb, _⟩ := x1.m
    rw [hb] at hk
    injection hk with hk
    cases hk
  · exact hq k e k2
theorem On.cells {w0 w : World} {p m : Nat} {q : Option Nat} {s : St} {z : Option Fz} (h : On w0 w p m q s z) : ∃ cs, w.heap[p]? = some (.cells cs 71 (0, 0)) := by
  obtain ⟨V, F, x⟩ := h.px
  exact ⟨_, x.o⟩
end Go.Proofs.Ythkhkijdehbbmaa
