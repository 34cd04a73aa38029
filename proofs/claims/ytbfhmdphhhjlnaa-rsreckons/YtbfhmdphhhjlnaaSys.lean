/-
  What matrix.Systematic does, and that the first sentence of each law of layer 2 (awake) is true.
-/
import Derived.Test.YtbfhmdphhhjlnaaInv
namespace Go.Proofs.Ytbfhmdphhhjlnaa
open Go.RowKit Gf
attribute [local go_sem ↓] Go.wp_at_zero Go.wp_at_succ

theorem Mat.take {w : World} {a : Option Addr} {n k : Nat} {A : Nat → Option Addr} {L C : Nat → Nat} {F : Nat → Nat → Nat} (h : Mat w a n A L C F) (hk : k ≤ n) : Mat w a k A L C F := by
  refine ⟨fun h0 => ?_, fun i hi => h.row i (by omega), fun i hi => h.nil i (by omega), h.le, h.lt⟩
  obtain ⟨b, o, e, hc⟩ := h.lies (by omega)
  exact ⟨b, o, e, fun i hi => hc i (by omega)⟩

theorem isM_const {n l : Nat} (n1 : 1 ≤ n) (n2 : n ≤ 255) (l1 : 1 ≤ l) (l2 : l ≤ 255) : IsM n (fun _ => l) := ⟨n1, n2, l1, l2, fun _ _ => rfl⟩
theorem V_inj {k : Nat} (hk : k ≤ 256) : Inj k V := vander_inj (r := fun i => i) (fun i hi => by omega) (fun i _ j _ e => e)

set_option maxRecDepth 100000 in
set_option maxHeartbeats 2000000 in
theorem systematic_yes (k m : Nat) (w : World) (k1 : 1 ≤ k) (m1 : 1 ≤ m) (hkm : k + m ≤ 255) :
    Calls Try.prog 24 #[.int .i64 k, .int .i64 m] w fun e w' => ∃ h X, e = .returned (.tuple #[.slice (some ⟨h, 0, none⟩) ((k + m : Nat)) ((k + m : Nat)), .bool true]) ∧ w.heap.size ≤ h ∧ IsInv k V X ∧ B X ∧ Out w' h (k + m) k (mm k V X) ∧ Below w.heap.size w w' := by
  have cV := vander_yes (k + m) k w (by omega) (by omega) k1 (by omega)
  have q : ((k + m : Nat) : Int) = (k : Int) + (m : Int) := by omega
  rw [q] at cV
  clear q
  have g1 : (k : Int) ≤ 255 - (m : Int) := by omega
  go_enter Try.func24, Try.ntmps24
  go_wp2_with fail
  go_at_call 41
  refine cV.mono ?_
  rintro e w1 ⟨h, rfl, hh, hg, hb1⟩
  have hm1 := hg.mat (by omega) V_B
  have HM : Hid _ := hm1
  have cI := invert_any (some ⟨h, 0, none⟩) k (k + m) _ _ _ V w1 (hm1.take (by omega)) (by unfold maxLen; omega)
  have HB1 : Hid (Below w.heap.size w w1) := hb1
  have hs1 := hb1.size
  clear hm1 hg cV hb1
  go_wp2_with fail
  go_at_call 42
  refine cI.mono ?_
  rintro e w2 ⟨hcase, hb2⟩
  clear cI
  rcases hcase with ⟨rfl, hno⟩ | ⟨h2, X, rfl, _, _, hh2, ho, hinv⟩
  · exfalso
    rcases hno with hno | hno
    · exact hno ⟨isM_const k1 (by omega) k1 (by omega), by first | rfl | trivial⟩
    · exact hno (V_inj (by omega))
  · have lX := ho.lt
    obtain ⟨A2, C2, m2, s2, q2⟩ := ho
    have cM := mxMul_yes (some ⟨h, 0, none⟩) (some ⟨h2, 0, none⟩) (k + m) k (k + m) k _ A2 _ (fun _ => k) _ C2 V X w2 (HM.out.keep hb2) m2 (isM_const (by omega) hkm k1 (by omega)) (isM_const k1 (by omega) k1 (by omega)) rfl
    have HB2 : Hid (Below w1.heap.size w1 w2) := hb2
    have hs2 := hb2.size
    have HI : Hid (IsInv k V X) := hinv
    have HX : Hid (B X) := lX
    clear HM m2 s2 q2 hinv hb2 lX
    go_wp2_with fail
    go_at_call 43
    refine cM.mono ?_
    rintro e w3 ⟨h3, rfl, hh3, ho3, hb3⟩
    have HO : Hid (Out w3 h3 (k + m) k (mm k V X)) := ho3
    clear cM ho3
    go_wp2
    go_ret2
    exact ⟨h3, X, rfl, by omega, HI.out, HX.out, HO.out, HB1.out.trans ((HB2.out.mono hs1).trans (hb3.mono (by omega)))⟩

set_option maxRecDepth 100000 in
theorem systematic_no (k m : Int) (w : World) (hm : m ≤ 9223372036854775807) (hno : ¬ (1 ≤ k ∧ 1 ≤ m ∧ k + m ≤ 255)) :
    Calls Try.prog 24 #[.int .i64 k, .int .i64 m] w fun e w' => e = .returned (.tuple #[.slice none 0 0, .bool false]) ∧ w = w' := by
  by_cases h1 : k < 1
  · clear hno
    go_enter Try.func24, Try.ntmps24
    go_wp2
    go_ret2
    exact ⟨rfl, rfl⟩
  · by_cases h2 : m < 1
    · clear hno
      go_enter Try.func24, Try.ntmps24
      go_wp2
      go_ret2
      exact ⟨rfl, rfl⟩
    · have h4 : 255 - m < k := by omega
      clear hno
      go_enter Try.func24, Try.ntmps24
      go_wp2
      go_ret2
      exact ⟨rfl, rfl⟩

theorem inv_one {n : Nat} {X : Nat → Nat → Nat} (h : IsInv n one X) (hX : B X) : ∀ i, i < n → ∀ j, j < n → X i j = one i j := by
  intro i hi j hj
  rw [← h.left i hi j hj, mm_one_right hX hj]
theorem sys_row {X : Nat → Nat → Nat} (h : IsInv 1 V X) (hX : B X) : mm 1 V X 2 0 = 1 := by
  have e := h.right 0 (by omega) 0 (by omega)
  have v0 : V 0 0 = 1 := rfl
  have v2 : V 2 0 = 1 := rfl
  unfold mm xs xs at e ⊢
  dsimp only at e ⊢
  rw [v0, M_one_left (hX 0 0), Nat.zero_xor] at e
  rw [v2, M_one_left (hX 0 0), Nat.zero_xor, e]; rfl

end Go.Proofs.Ytbfhmdphhhjlnaa
