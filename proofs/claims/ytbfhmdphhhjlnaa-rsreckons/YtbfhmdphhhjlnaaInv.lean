/-
  What matrix.Invert does: of a square that has an inverse, that, and true; of all else nothing, and false.
-/
import Derived.Test.YtbfhmdphhhjlnaaClear
namespace Go.Proofs.Ytbfhmdphhhjlnaa
open Go.RowKit Gf
attribute [local go_sem ↓] Go.wp_at_zero Go.wp_at_succ

theorem Mat.even {w : World} {a : Option Addr} {n l : Nat} {A : Nat → Option Addr} {L C : Nat → Nat} {F : Nat → Nat → Nat} (h : Mat w a n A L C F) (e : ∀ i, i < n → L i = l) (hl : l ≤ 9223372036854775807) : Mat w a n A (fun _ => l) C F := by
  refine ⟨fun hn => ?_, fun i hi => ?_, fun i hi q => ?_, fun _ => hl, h.lt⟩
  · obtain ⟨b, o, q, hc⟩ := h.lies hn
    exact ⟨b, o, q, fun i hi => by rw [hc i hi, e i hi]⟩
  · have := h.row i hi
    rwa [e i hi] at this
  · have := h.nil i hi q
    rwa [e i hi] at this

theorem elim_begin {n : Nat} {F : Nat → Nat → Nat} (hF : B F) : Elim n F (fun i => cat n (F i) (one i)) (hi n (fun i => cat n (F i) (one i))) := by
  have e : hi n (fun i => cat n (F i) (one i)) = one := by
    funext i j; unfold hi cat; dsimp only; rw [if_neg (by omega)]; congr 1; omega
  rw [e]
  refine ⟨fun i j => cat_lt (hF i) (one_B i) j, one_B, fun i hi j hj => ?_, (Elim.start hF).inj⟩
  rw [(Elim.start hF).rel i hi j hj]
  unfold cat; rw [if_pos hj]

set_option maxRecDepth 100000 in
set_option maxHeartbeats 4000000 in
theorem invert_any (a : Option Addr) (n c0 : Nat) (A : Nat → Option Addr) (L C : Nat → Nat) (F : Nat → Nat → Nat) (w : World) (h : Mat w a n A L C F) (hn : n ≤ maxLen) :
    Calls Try.prog 42 #[.slice a n c0] w fun e w' =>
      ((e = .returned (.tuple #[.slice none 0 0, .bool false]) ∧ (¬ (IsM n L ∧ n = L 0) ∨ ¬ Inj n F)) ∨
       (∃ h X, e = .returned (.tuple #[.slice (some ⟨h, 0, none⟩) n n, .bool true]) ∧ IsM n L ∧ n = L 0 ∧ w.heap.size ≤ h ∧ Out w' h n n X ∧ IsInv n F X)) ∧ Below w.heap.size w w' := by
  by_cases hq : IsM n L ∧ n = L 0
  · have cS := square_yes a n c0 A L C F w h hq.1 hq.2
    have HQ : Hid (IsM n L ∧ n = L 0) := hq
    obtain ⟨⟨n1, n2, l1, l2, hl⟩, hnl⟩ := hq
    have HM : Hid (Mat w a n A (fun _ => n) C F) := h.even (fun i hi => by rw [hl i hi, ← hnl]) (by omega)
    have lF := h.lt
    have HF : Hid (B F) := h.lt
    clear h hl hnl l1 l2 lF
    go_enter Try.func42, Try.ntmps42
    go_wp2_with fail
    go_at_call 55
    refine cS.mono ?_
    rintro e w' ⟨rfl, rfl⟩
    go_wp2_with fail
    go_at_call 25
    refine (new_any _).mono ?_
    rintro e w1 ⟨rfl, hu, hb1⟩
    have HT : Hid (Tab w1 w.heap.size) := hu.tab
    have hlt1 : w.heap.size < w1.heap.size := block_lt_of_cell HT.out.one
    have HB1 : Hid (Below w.heap.size w w1) := hb1
    clear hu hb1 cS
    go_wp2_with fail
    go_at_call 57
    refine (unit_yes n w1 n1 n2).mono ?_
    rintro e w2 ⟨rfl, hg2, hb2⟩
    have HB2 : Hid (Below w1.heap.size w1 w2) := hb2
    have HG : Hid (Mat w2 (some ⟨w1.heap.size, 0, none⟩) n (fun i => some ⟨w1.heap.size + 1 + i, 0, none⟩) (fun _ => n) (fun _ => n) one) := hg2.mat (by omega) one_B
    have hs2 := hb2.size
    clear hg2 hb2
    have HB02 : Hid (Below w.heap.size w w2) := HB1.out.trans (HB2.out.mono (by omega))
    have cB := beside_any a (some ⟨w1.heap.size, 0, none⟩) n n n c0 n A _ C _ F one w2 (HM.out.keep HB02.out) HG.out n1 n2 n1 n2 n1 n2
    go_wp2_with fail
    go_at_call 56
    refine cB.mono ?_
    rintro e w3 ⟨h, rfl, hh, ho3, hb3⟩
    have HB3 : Hid (Below w1.heap.size w1 w3) := HB2.out.trans (hb3.mono hs2)
    have HO : Hid (Out w3 h n (n + n) (fun i => cat n (F i) (one i))) := ho3
    have hbh : w.heap.size < h := by omega
    have hs3 := hb3.size
    clear cB HG HM HB02 hb3 ho3
    have HB03 : Hid (Below w.heap.size w w3) := HB1.out.trans (HB3.out.mono (by omega))
    have hw1h : w1.heap.size ≤ h := by omega
    go_wp2
    go_loopw [18] (fun v wr => ∃ k : Nat, k ≤ n ∧ v = .int .i64 k ∧ (∃ W, Out wr h n (n + n) W ∧ Elim n F W (hi n W) ∧ ∀ i, i < n → ∀ j, j < k → W i j = one i j) ∧ Below h w3 wr) (fun v _ => n - (intOf v).toNat)
    case atStart => exact ⟨0, by omega, rfl, ⟨_, HO.out, elim_begin HF.out, fun i _ j hj => absurd hj (by omega)⟩, Below.refl _ _⟩
    case round =>
      obtain ⟨k, hk, rfl, ⟨W, ho, he, hred⟩, hb⟩ := hrel
      have H0 : Hid (Out wr h n (n + n) W) := ho
      have H1 : Hid (Elim n F W (hi n W)) := he
      have H2 : Hid (∀ i, i < n → ∀ j, j < k → W i j = one i j) := hred
      clear ho he hred HO
      by_cases hlt : k < n
      · have ik : (k : Int) < (n : Int) := by omega
        have hT : Tab wr w.heap.size := (HT.out.keep HB3.out hlt1).keep hb hbh
        have cC := clear_any w.heap.size h n (n + n) k n W wr hT H0.out n2 hlt (by omega) (by omega) hbh
        clear hT
        go_wp2_with fail
        go_at_call 58
        refine cC.mono ?_
        rintro e w4 ⟨hcase, hb4⟩
        clear cC
        rcases hcase with ⟨rfl, hz⟩ | ⟨rfl, p, hkp, hpn, hne, ho4⟩
        · have HE : Hid (¬ Inj n F) := H1.out.stuck HF.out hlt H2.out hz
          clear hz
          go_wp2
          go_ret2
          exact ⟨.inl ⟨rfl, .inr HE.out⟩, HB03.out.trans ((hb.trans hb4).mono (by omega))⟩
        · have HE : Hid (∃ W, Out w4 h n (n + n) W ∧ Elim n F W (hi n W) ∧ ∀ i, i < n → ∀ j, j < k + 1 → W i j = one i j) :=
            ⟨_, ho4, elim_clr H1.out HF.out hlt hpn, clr_red H0.out.lt H2.out hkp hpn hne⟩
          clear ho4 hne
          go_wp2
          go_round
          case rel => exact ⟨k + 1, by omega, by go_num, HE.out, hb.trans hb4⟩
          case measure => simp [intOf]; omega
      · have : k = n := by omega
        subst this
        obtain ⟨A4, C4, m4, s4, q4⟩ := H0.out
        have cC := columns_any (some ⟨h, 0, none⟩) k (k + k) k k A4 C4 W wr m4 n1 n2 (by omega) (by omega) q4
        have HI : Hid (IsInv k F (hi k W)) := H1.out.done HF.out H2.out
        clear m4 s4 q4
        go_wp2_with fail
        go_at_call 59
        refine cC.mono ?_
        rintro e w5 ⟨h5, rfl, hh5, ho5, hb5⟩
        rw [Nat.add_sub_cancel] at ho5
        have HO5 : Hid (Out w5 h5 k k (hi k W)) := ho5
        clear ho5 cC
        have hsr := hb.size
        go_wp2
        go_ret2
        exact ⟨.inr ⟨h5, hi k W, rfl, HQ.out.1, HQ.out.2, by omega, HO5.out, HI.out⟩, HB03.out.trans ((hb.mono (by omega)).trans (hb5.mono (by omega)))⟩
  · have cS := square_no a n c0 A L C F w h hn hq
    have HQ : Hid (¬ (IsM n L ∧ n = L 0)) := hq
    clear h hq
    go_enter Try.func42, Try.ntmps42
    go_wp2_with fail
    go_at_call 55
    refine cS.mono ?_
    rintro e w' ⟨rfl, rfl⟩
    go_wp2
    go_ret2
    exact ⟨.inl ⟨rfl, .inl HQ.out⟩, Below.refl _ _⟩
end Go.Proofs.Ytbfhmdphhhjlnaa
