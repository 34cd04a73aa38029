/-
  What slices.Equal of versions, journal.Same and the document's Same answer.
-/
import Derived.Test.YtfgngecenbopnaaDoorJnL
namespace Go.Proofs.YtfgngecenbopnaaDoor
open Go.RowKit Crc
attribute [local go_sem ↓] Go.wp_at_zero Go.wp_at_succ
set_option linter.unusedVariables false

/-- The first n versions are the same. -/
def SameR (F G : Nat → Ver) (n : Nat) : Prop := ∀ i, i < n → F i = G i
theorem SameR.succ {F G : Nat → Ver} {k : Nat} (h : SameR F G k) (e : F k = G k) : SameR F G (k + 1) := fun i hi => by
  by_cases q : i = k
  · subst q; exact e
  · exact h i (by omega)
/-- The same rows. -/
def SameV (n m : Nat) (F G : Nat → Ver) : Prop := n = m ∧ SameR F G n

open Classical in
/-- All of two journals is the same. -/
def SameJ (t u : Int) (s r : ByteArray) (n m : Nat) (F G : Nat → Ver) : Prop := t = u ∧ s = r ∧ SameV n m F G
theorem bne_str {s r : ByteArray} (h : s ≠ r) : (s.toList == r.toList) = false := by
  rw [beq_eq_false_iff_ne, ByteArray.toList_eq, ByteArray.toList_eq]
  exact fun e => h (ByteArray.ext (Array.toList_inj.1 e))
theorem box_two (w : World) (ty : TypeId) (t u : Int) (s r : ByteArray) (x y : Value) : ∃ W, (w.alloc (.cells #[.int .i64 t, .string s, x] ty)).alloc (.cells #[.int .i64 u, .string r, y] ty) = W ∧ JAt W w.heap.size t s x ∧ JAt W (w.heap.size + 1) u r y ∧ Below w.heap.size w W := by
  obtain ⟨W1, h1, j1, b1⟩ := box_jn w ty t s x
  obtain ⟨W2, h2, j2, b2⟩ := box_jn W1 ty u r y
  have e : W1.heap.size = w.heap.size + 1 := by rw [← h1]; show (w.heap.push _).size = _; simp
  refine ⟨W2, by rw [h1, h2], j1.keep b2, by rw [← e]; exact j2, hop b1 b2⟩

open Classical in
open Classical in
set_option maxRecDepth 100000 in
set_option maxHeartbeats 1000000 in
theorem rsame_any (a b : Option Addr) (n m c d : Nat) (t u : Int) (s r : ByteArray) (F G : Nat → Ver) (w : World) (hF : Vs w a n F) (hG : Vs w b m G) (hn : n ≤ maxLen) (hm : m ≤ maxLen) :
    Calls Tryd.prog 13 #[jv t s (.slice a n c), jv u r (.slice b m d)] w fun e w' => e = .returned (.bool (decide (SameJ t u s r n m F G))) ∧ Below w.heap.size w w' := by
  obtain ⟨W, hW, hj, hj', hb⟩ := box_two w 41 t u s r (.slice a n c) (.slice b m d)
  have HB : Hid (Below w.heap.size w W) := hb
  obtain ⟨c0, c1, c2⟩ := hj
  obtain ⟨d0, d1, d2⟩ := hj'
  have hF' := hF.keep hb
  have hG' := hG.keep hb
  unfold jv
  unfold maxLen at hn hm
  clear hb hF hG
  by_cases e0 : t = u
  rotate_left
  · have g0 : (t != u) = true := bne_iff_ne.2 e0
    rw [decide_eq_false (fun q => e0 q.1)]
    clear e0
    go_enter Tryd.func13, Tryd.ntmps13
    go_wp2
    go_ret
    exact ⟨rfl, HB.out⟩
  by_cases e1 : s = r
  rotate_left
  · have g0 := bne_str e1
    rw [decide_eq_false (fun q => e1 q.2.1)]
    subst e0
    clear e1
    go_enter Tryd.func13, Tryd.ntmps13
    go_wp2
    go_ret
    exact ⟨rfl, HB.out⟩
  by_cases hnm : n = m
  rotate_left
  · have g1 : ((n : Int) != (m : Int)) = true := by rw [bne_iff_ne]; omega
    have g2 : (n != m) = true := by rw [bne_iff_ne]; omega
    rw [decide_eq_false (fun q => hnm q.2.2.1)]
    subst e0; subst e1
    clear hnm
    go_enter Tryd.func13, Tryd.ntmps13
    go_wp2
    go_ret
    exact ⟨rfl, HB.out⟩
  subst e0; subst e1; subst hnm
  have HD : Hid (SameR F G n ↔ SameJ t t s s n n F G) := ⟨fun h => ⟨rfl, rfl, rfl, h⟩, fun h => h.2.2.2⟩
  generalize SameJ t t s s n n F G = Q at *
  go_enter Tryd.func13, Tryd.ntmps13
  go_wp2
  go_loopw [5] (fun i wr => ∃ k : Nat, k ≤ n ∧ i = .int .i64 k ∧ SameR F G k ∧ ∃ q, wr = W.drewN q) (fun i _ => n - (intOf i).toNat)
  case atStart => exact ⟨0, by omega, rfl, fun i hi => absurd hi (by omega), 0, rfl⟩
  case round =>
    obtain ⟨k, hk, rfl, hS, q, rfl⟩ := hrel
    by_cases hlt : k < n
    · have ik : (k : Int) < (n : Int) := by omega
      obtain ⟨b1, o1, ea, hc⟩ := hF'.lies (by omega)
      obtain ⟨b2, o2, eb, hd⟩ := hG'.lies (by omega)
      subst ea; subst eb
      obtain ⟨v0, v1, v2, v3⟩ := hc k hlt
      obtain ⟨u0, u1, u2, u3⟩ := hd k hlt
      by_cases he : F k = G k
      · have HS : Hid (SameR F G (k + 1)) := hS.succ he
        rw [← he] at u0 u1 u2 u3
        clear hc hd hS hF' hG' he
        generalize F k = v at *
        obtain ⟨vi, vm, vz, vs⟩ := v
        dsimp only at *
        go_wp2_with fail
        go_quiet (fail)
        go_wp2
        go_round
        case rel => exact ⟨k + 1, by omega, by go_num, HS.out, _, rfl⟩
        case measure => simp [intOf]; omega
      · have HN : Hid (decide Q = false) := decide_eq_false (fun z => he (HD.out.2 z k hlt))
        clear hc hd hS hF' hG' HD
        generalize F k = v at *
        generalize G k = u at *
        obtain ⟨vi, vm, vz, vs⟩ := v
        obtain ⟨ui, um, uz, us⟩ := u
        dsimp only at *
        by_cases e0 : vi = ui
        rotate_left
        · have g0 : (vi == ui) = false := beq_eq_false_iff_ne.2 e0
          clear he e0
          go_wp2_with fail
          go_quiet (fail)
          go_wp2
          go_ret
          exact ⟨by rw [HN.out]; rfl, hop (hop HB.out (bdn _ q)) (bdn _ nq)⟩
        by_cases e1 : vm = um
        rotate_left
        · have g0 : (vm == um) = false := beq_eq_false_iff_ne.2 e1
          subst e0
          clear he
          go_wp2_with fail
          go_quiet (fail)
          go_wp2
          go_ret
          exact ⟨by rw [HN.out]; rfl, hop (hop HB.out (bdn _ q)) (bdn _ nq)⟩
        by_cases e2 : vz = uz
        rotate_left
        · have g0 : (vz == uz) = false := beq_eq_false_iff_ne.2 e2
          subst e0; subst e1
          clear he e2
          go_wp2_with fail
          go_quiet (fail)
          go_wp2
          go_ret
          exact ⟨by rw [HN.out]; rfl, hop (hop HB.out (bdn _ q)) (bdn _ nq)⟩
        have e3 : vs ≠ us := fun e3 => he (by rw [e0, e1, e2, e3])
        have g0 : ((vs : Int) == (us : Int)) = false := by rw [beq_eq_false_iff_ne]; omega
        have g1 : (vs == us) = false := by rw [beq_eq_false_iff_ne]; exact e3
        subst e0; subst e1; subst e2
        clear he e3
        go_wp2_with fail
        go_quiet (fail)
        go_wp2
        go_ret
        exact ⟨by rw [HN.out]; rfl, hop (hop HB.out (bdn _ q)) (bdn _ nq)⟩
    · have : k = n := by omega
      subst this
      have HY : Hid (decide Q = true) := decide_eq_true (HD.out.1 hS)
      clear hS hF' hG' HD
      go_wp2
      go_ret
      exact ⟨by rw [HY.out]; rfl, hop HB.out (bdn _ q)⟩
end Go.Proofs.YtfgngecenbopnaaDoor
