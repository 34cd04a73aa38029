/-
  What rs.Code.factorsOf does: by which factors each missing row is made of the k that are used.
-/
import Derived.Test.YtbfhmdphhhjlnaaComb
namespace Go.Proofs.Ytbfhmdphhhjlnaa
open Go.RowKit Gf
attribute [local go_sem ↓] Go.wp_at_zero Go.wp_at_succ

theorem IRow.take {w : World} {a : Option Addr} {n m : Nat} {g : Nat → Int} (h : IRow w a n g) (hm : m ≤ n) : IRow w a m g := fun h0 => by
  obtain ⟨b, o, e, hc⟩ := h (by omega)
  exact ⟨b, o, e, fun i hi => hc i (by omega)⟩

set_option maxRecDepth 100000 in
set_option maxHeartbeats 2000000 in
theorem factorsOf_yes (p k N : Nat) (S : Nat → Nat → Nat) (w : World) (ma ua : Option Addr) (mn mc uc : Nat) (q t : Nat → Nat) (hcode : Code w p k N S) (hm : IRow w ma mn (fun i => ((q i : Nat) : Int))) (hu : IRow w ua k (fun i => ((t i : Nat) : Int))) (m1 : 1 ≤ mn) (m2 : mn ≤ 255)
    (hq : ∀ i, i < mn → q i < N) (ht : ∀ i, i < k → t i < N) (hd : ∀ i, i < k → ∀ j, j < k → t i = t j → i = j) :
    Calls Try.prog 33 #[.pointer (some ⟨p, 0, none⟩), .slice ma mn mc, .slice ua k uc] w fun e w' => ∃ h Y A C, e = .returned (.slice (some ⟨h, 0, none⟩) mn mn) ∧ w.heap.size ≤ h ∧ IsInv k (fun i => S (t i)) Y ∧ B Y ∧ Mat w' (some ⟨h, 0, none⟩) mn A (fun _ => k) C (mm k (fun i => S (q i)) Y) ∧ Below w.heap.size w w' := by
  have k1 := hcode.k1
  have kN := hcode.kN
  have N2 := hcode.N2
  have HC : Hid (Code w p k N S) := hcode
  obtain ⟨hh, bt, AS, CS, c0, c1, c2, mS, _⟩ := hcode.ex
  have MS : Hid (Mat w (some ⟨hh, 0, none⟩) N AS (fun _ => k) CS S) := mS
  have HM : Hid (IRow w ma mn (fun i => ((q i : Nat) : Int))) := hm
  have HQ : Hid (∀ i, i < mn → q i < N) := hq
  have HT : Hid (∀ i, i < k → t i < N) := ht
  have HD : Hid (∀ i, i < k → ∀ j, j < k → t i = t j → i = j) := hd
  have i0 : (mn : Int) ≠ 0 := by omega
  have cR := rows_any (some ⟨hh, 0, none⟩) ua N k N uc AS (fun _ => k) CS S (fun i => ((t i : Nat) : Int)) w mS hu (isM_const (by omega) N2 k1 (by omega)) k1 (by omega) (fun i hi => by have := ht i hi; omega)
  clear hcode mS hm hu hq ht hd c0 c2
  go_enter Try.func33, Try.ntmps33
  go_wp2_with fail
  go_at_call 46
  refine cR.mono ?_
  rintro e w1 ⟨hcase, b1⟩
  clear cR
  rcases hcase with ⟨_, v1, rfl, ⟨A1, C1, bl1⟩⟩ | ⟨⟨i, hi, hno⟩, _⟩
  rotate_left
  · exfalso
    have := HT.out i hi
    omega
  obtain ⟨a1, x1, rfl⟩ := bl1.form
  have M1 : Hid (Mat w1 a1 k A1 (fun _ => k) C1 (fun i => S (t i))) := bl1.mat (fun _ => by omega) (fun i j => HC.out.sys.lt _ _)
  clear bl1
  have c1' := (b1.cell (p := ⟨p, 1, none⟩) (block_lt_of_cell c1)).trans c1
  have cI := invert_any a1 k x1 A1 (fun _ => k) C1 (fun i => S (t i)) w1 M1.out (by unfold maxLen; omega)
  go_wp2_with fail
  go_at_call 42
  refine cI.mono ?_
  rintro e w2 ⟨hcase, b2⟩
  clear cI
  rcases hcase with ⟨rfl, hno⟩ | ⟨h2, Y, rfl, _, _, hh2, ho, hinv⟩
  · exfalso
    rcases hno with hno | hno
    · exact hno ⟨isM_const (by omega) (by omega) (by omega) (by omega), by first | rfl | trivial⟩
    · exact hno (HC.out.sys.inj (fun i hi => by have := HT.out i hi; omega) HD.out)
  have b02 : Below w.heap.size w w2 := b1.trans (b2.mono b1.size)
  have c2' := (b02.cell (p := ⟨p, 1, none⟩) (block_lt_of_cell c1)).trans c1
  have lY := ho.lt
  obtain ⟨A2, C2, m2', _, _⟩ := ho
  have MY : Hid (Mat w2 (some ⟨h2, 0, none⟩) k A2 (fun _ => k) C2 Y) := m2'
  have IV : Hid (IsInv k (fun i => S (t i)) Y) := hinv
  have LY : Hid (B Y) := lY
  have cR := rows_any (some ⟨hh, 0, none⟩) ma N mn N mc AS (fun _ => k) CS S (fun i => ((q i : Nat) : Int)) w2 (MS.out.keep b02) (HM.out.keep b02) (isM_const (by omega) N2 k1 (by omega)) m1 m2 (fun i hi => by have := HQ.out i hi; omega)
  clear m2' lY hinv c1'
  go_wp2_with fail
  go_at_call 46
  refine cR.mono ?_
  rintro e w3 ⟨hcase, b3⟩
  clear cR
  rcases hcase with ⟨_, v3, rfl, ⟨A3, C3, bl3⟩⟩ | ⟨⟨i, hi, hno⟩, _⟩
  rotate_left
  · exfalso
    have := HQ.out i hi
    omega
  obtain ⟨a3, x3, rfl⟩ := bl3.form
  have M3 : Hid (Mat w3 a3 mn A3 (fun _ => k) C3 (fun i => S (q i))) := bl3.mat (fun _ => by omega) (fun i j => HC.out.sys.lt _ _)
  clear bl3
  have b03 : Below w.heap.size w w3 := b02.trans (b3.mono b02.size)
  have cM := mxMul_yes a3 (some ⟨h2, 0, none⟩) mn k x3 k A3 A2 (fun _ => k) (fun _ => k) C3 C2 (fun i => S (q i)) Y w3 M3.out (MY.out.keep b3) (isM_const m1 m2 k1 (by omega)) (isM_const k1 (by omega) k1 (by omega)) rfl
  go_wp2_with fail
  go_at_call 43
  refine cM.mono ?_
  rintro e w4 ⟨h4, rfl, hh4, ⟨A4, C4, m4, _, _⟩, b4⟩
  have M4 : Hid (Mat w4 (some ⟨h4, 0, none⟩) mn A4 (fun _ => k) C4 (mm k (fun i => S (q i)) Y)) := m4
  clear cM m4
  have hs := b03.size
  go_wp2
  go_ret
  exact ⟨h4, Y, A4, C4, rfl, by omega, IV.out, LY.out, M4.out, b03.trans (b4.mono b03.size)⟩

set_option maxRecDepth 100000 in
theorem factorsOf_none (p : Nat) (w : World) (ma ua : Option Addr) (mc un uc : Nat) :
    Calls Try.prog 33 #[.pointer (some ⟨p, 0, none⟩), .slice ma (0 : Nat) mc, .slice ua un uc] w fun e w' => e = .returned (.slice none 0 0) ∧ w = w' := by
  go_enter Try.func33, Try.ntmps33
  go_wp2
  go_ret
  exact ⟨rfl, rfl⟩
end Go.Proofs.Ytbfhmdphhhjlnaa
