/-
  The law ArrayFormats of layer 12 (P12.2: a disk has a voice just with its own format, of its own place, in its own array: with another's, a turned bit, or none it has none) answers true for all shapes and all numbers, where crc's table is as the program's text lays it.
-/
import Derived.Test.YtebngmgdciahiaaDoorRows
import Derived.WalkKit
import Derived.ProofKit
import Derived.OpenShut
import Derived.ShutString
import Derived.ChangeOld
import Derived.Below
import Derived.SizedLaws
import Derived.LaidMore
import Derived.Stop.Joined
import Derived.SevenTiedAt
import Derived.Test.YtebngmgdciahiaaDoorCards
import Derived.Test.YtebngmgdciahiaaDoorTie
import Derived.Test.YtebngmgdciahiaaDoorArL
import Derived.Test.YtebngmgdciahiaaDoorArT
set_option maxRecDepth 100000
namespace Go.Proofs.YtebngmgdciahiaaDoor
namespace arrayFormats
open Go.ChangeShapes Go.WideShapes Go.ChangeAt Go.RowKit Crc
open _root_.Go.Proofs.YtebngmgdciahiaaDoor.Nm _root_.Go.Proofs.YtebngmgdciahiaaDoor.Dk
set_option linter.unusedVariables false
attribute [local go_sem ↓] Go.wp_at_zero Go.wp_at_succ

theorem own : ownKnob Tryd.prog.godebug = none := by kernel_rfl
theorem laidOut : laidOutB Tryd.prog = true := by kernel_rfl

theorem fill_next {α : Type} {E Z : α} {F : Nat → α} {j : Nat} (h : Z = F j) : up (fun i => if i < j then F i else E) j Z = fun i => if i < j + 1 then F i else E := by
  rw [up_fill E F j Z]
  subst h
  rw [up_self]
/-- All disks ahead of j have their formats. -/
def fS (k m j i : Nat) : St := if i < j then s1 [⟨pFmt, fmtB k m i, true⟩] 1000 else s1 [] 1000
theorem fS_next (k m j : Nat) : up (fS k m j) j (s1 [⟨pFmt, fmtB k m j, true⟩] 1000) = fS k m (j + 1) := by
  have h := fill_next (E := s1 [] 1000) (Z := s1 [⟨pFmt, fmtB k m j, true⟩] 1000) (F := fun i => s1 [⟨pFmt, fmtB k m i, true⟩] 1000) (j := j) rfl
  exact h
theorem kT_trip : kT 51 := ⟨by decide, by decide, by decide, by decide, by decide, by decide⟩
theorem ps_fix {R : Rg} {pp ab vb kq kg n : Nat} (p : Ps R pp ab vb kq kg n) : ∃ gd cap, n ≤ cap ∧ ∀ (W0 w : World) (q g : Option Nat) (S T : Nat → St) (z z2 : Option Fz), Ar W0 w R q g S T z z2 → w.cell? ⟨pp, 0, none⟩ = some (.pointer (some ⟨ab, 0, none⟩)) ∧ w.cell? ⟨pp, 1, none⟩ = some (.slice (some ⟨gd, 0, none⟩) n cap) ∧ ∀ i, i < n → w.cell? ⟨gd, i, none⟩ = some (.pointer (some ⟨(R.P i).p, 0, none⟩)) := by
  have p' := p
  obtain ⟨gd, cap, cur, h1, h2, h3, h4⟩ := p.ex
  refine ⟨gd, cap, h4, fun W0 w q g S T z z2 h => ⟨Ps.arr h p', ?_, fun i hi => ?_⟩⟩
  · have := cell_of_row w pp 1 _ _ _ (h.kept h1)
    simpa [pv] using this
  · rw [cell_of_row w gd i _ _ _ (h.kept h2), h3 i hi]; rfl
/-- The relation of the loop. -/
structure FL (W0 wr : World) (R : Rg) (kq kg k m tb x y z : Nat) (j : Nat) : Prop where
  ar : Ar W0 wr R (some kq) (some kg) (fS k m j) (fun _ => s1 [] 1000) (cz ((3 * j : Nat) : Int)) (some z0)
  bx : wr.heap[tb]? = some (.cells #[.int .u8 (x : Int), .int .u8 (y : Int), .int .u8 (z : Int)] 51 (0, 0))
theorem rea1 (d : Int) (b : ByteArray) (x : Bool) : readZ (cz d) (s1 [⟨pFmt, b, x⟩] 1000) pFmt = (b, 0) := by
  rw [rea_cz d [⟨pFmt, b, x⟩] 1000 pFmt rfl rfl]
  rfl
theorem ask1 (d : Int) (l : List Fl) : (askZ (cz d) (s1 l 1000) [pFmt]).2.2 = s1 l 1000 := by rw [ask_cz d l 1000 [pFmt] rfl]
theorem wri1 (d : Int) (b b2 : ByteArray) (x : Bool) (h : b.size = 11) (h2 : b2.size = 11) : wriZ (cz d) (s1 [⟨pFmt, b, x⟩] 1000) pFmt b2 = (0, s1 [⟨pFmt, b2, false⟩] 1000) := by
  rw [wri_cz d [⟨pFmt, b, x⟩] 1000 pFmt b2 rfl (by rw [h2]; decide) (by show ((b.size + 0 : Nat) : Int) + _ - ((b.size : Nat) : Int) ≤ 1000; rw [h, h2]; decide) (by show 1 < 4096; decide)]
  rfl
theorem del1 (d : Int) (b : ByteArray) (x : Bool) : delZ (cz d) (s1 [⟨pFmt, b, x⟩] 1000) pFmt = (0, s1 [] 1000) := by
  unfold delZ
  rw [ask_cz d _ 1000 [pFmt] rfl]
  rfl
theorem fli1 (b : ByteArray) (x : Bool) (t : Nat) (ht : t < b.size) : flipT pFmt (t : Int) [⟨pFmt, b, x⟩] = true ∧ { s1 [⟨pFmt, b, x⟩] 1000 with fs := flipS pFmt (t : Int) 1 [⟨pFmt, b, x⟩] } = s1 [⟨pFmt, flB b t 1, x⟩] 1000 := by
  have h : flipT pFmt (t : Int) [⟨pFmt, b, x⟩] = true := by
    show (decide ((0 : Int) ≤ (t : Int)) && decide ((t : Int) < (b.size : Int))) = true
    rw [decide_eq_true (by omega), decide_eq_true (by omega)]; rfl
  refine ⟨h, ?_⟩
  unfold flipS
  rw [if_pos h]
  rfl
theorem flB_ne {f : Nat → Nat} {n : Nat} {b : ByteArray} (h0 : str f n = b) (hf : ∀ i, f i < 256) (hn : n = b.size) (t : Nat) (ht : t < b.size) : flB b t 1 ≠ b := fun e => by
  have hb : str (bf b) b.size = b := by
    have h9 : str f b.size = str (bf b) b.size := str_congr fun i hi => bf_eq h0 hf i (by omega)
    rw [← h9, ← hn]; exact h0
  have h : str (fz (bf b) t 1 (min 4 (b.size - t))) b.size = str (bf b) b.size := by rw [hb]; exact e
  have h2 := str_at_inj (fz_lt (bf_lt b) t 1 _) (bf_lt b) h ht
  unfold fz at h2
  rw [if_pos (by omega)] at h2
  have h3 : mbk 1 (t - t) = 1 := by rw [Nat.sub_self]; rfl
  rw [h3] at h2
  have h4 := congrArg (fun n => bf b t ^^^ n) h2
  rw [← Nat.xor_assoc, Nat.xor_self, Nat.zero_xor] at h4
  exact absurd h4 (by decide)
theorem flt_len (a : Nat) : ∀ j, ((List.range j).filter fun i => !(i == a)).length = if a < j then j - 1 else j
  | 0 => rfl
  | j + 1 => by
    rw [List.range_succ, List.filter_append, List.length_append, flt_len a j]
    by_cases e : j = a
    · subst e
      simp
    · have hne : (j == a) = false := by simpa using e
      have : ([j].filter fun i => !(i == a)) = [j] := by simp [List.filter, hne]
      rw [this]
      by_cases l : a < j
      · rw [if_pos l, if_pos (by omega)]; simp; omega
      · rw [if_neg l, if_neg (by omega)]; rfl
set_option maxHeartbeats 8000000 in
theorem core (K M B : Int) (x y z : Nat) (W0 : World) (T : HalfT W0) (hI : I64 K ∧ I64 M ∧ I64 B) (hx : x < 256 ∧ y < 256 ∧ z < 256) :
    Calls Tryd.prog 5 #[.agg #[.int .i64 K, .int .i64 M, .int .i64 B], .agg #[.int .u8 (x : Int), .int .u8 (y : Int), .int .u8 (z : Int)]] W0 fun e w' => e = .returned (.bool true) ∧ Below W0.heap.size W0 w' := by
  obtain ⟨wa, hwa⟩ : ∃ wa, W0.alloc (.cells #[.int .i64 K, .int .i64 M, .int .i64 B] 24) = wa := ⟨_, rfl⟩
  obtain ⟨w1, hw1⟩ : ∃ w1, wa.alloc (.cells #[.int .u8 (x : Int), .int .u8 (y : Int), .int .u8 (z : Int)] 51) = w1 := ⟨_, rfl⟩
  have ba : Below W0.heap.size W0 wa := by rw [← hwa]; exact bal _ _
  have bb : Below wa.heap.size wa w1 := by rw [← hw1]; exact bal _ _
  have b1 : Below W0.heap.size W0 w1 := ba.trans (bb.mono ba.size)
  have hs0 : wa.heap[W0.heap.size]? = some (.cells #[.int .i64 K, .int .i64 M, .int .i64 B] 24 (0, 0)) := by rw [← hwa]; exact heap_alloc_new _ _
  have hs := (bb.block W0.heap.size (Array.getElem?_eq_some_iff.1 hs0).1).trans hs0
  have ht : w1.heap[wa.heap.size]? = some (.cells #[.int .u8 (x : Int), .int .u8 (y : Int), .int .u8 (z : Int)] 51 (0, 0)) := by rw [← hw1]; exact heap_alloc_new _ _
  have cA := awake12 W0 w1 b1 T
  obtain ⟨sb, hsb⟩ : ∃ sb, W0.heap.size = sb := ⟨_, rfl⟩
  obtain ⟨tb, htb⟩ : ∃ tb, wa.heap.size = tb := ⟨_, rfl⟩
  have hst : W0.heap.size + 1 = tb := by rw [← htb, ← hwa]; exact (Array.size_push _).symm
  have HWA : Hid (W0.alloc (.cells #[.int .i64 K, .int .i64 M, .int .i64 B] 24) = wa) := hwa
  have HW1 : Hid (wa.alloc (.cells #[.int .u8 (x : Int), .int .u8 (y : Int), .int .u8 (z : Int)] 51) = w1) := hw1
  rw [hsb] at hs
  rw [htb] at ht
  have HS : Hid (w1.heap[sb]? = some (.cells #[.int .i64 K, .int .i64 M, .int .i64 B] 24 (0, 0)) ∧ Below W0.heap.size W0 w1 ∧ W0.heap.size = sb ∧ sb + 1 = tb ∧ w1.heap[tb]? = some (.cells #[.int .u8 (x : Int), .int .u8 (y : Int), .int .u8 (z : Int)] 51 (0, 0))) := ⟨hs, b1, hsb, by rw [← hsb]; exact hst, ht⟩
  have HX : Hid (x < 256 ∧ y < 256 ∧ z < 256) := hx
  have HT : Hid (HalfT W0) := T
  clear hw1 b1 hs T hsb htb hst ht hs0 ba bb hwa hx
  go_enter Tryd.func5, Tryd.ntmps5
  go_wp2_with fail
  rw [HWA.out, HW1.out, HS.out.2.2.1, HS.out.2.2.2.1]
  go_at_call 7
  refine cA.mono ?_
  rintro e w2 ⟨rfl, b2⟩
  clear cA
  have h2 := (b2.block sb (Array.getElem?_eq_some_iff.1 HS.out.1).1).trans HS.out.1
  have hx2 := (b2.block tb (Array.getElem?_eq_some_iff.1 HS.out.2.2.2.2).1).trans HS.out.2.2.2.2
  have c0 := cell_of_row w2 sb 0 _ _ _ h2
  have c1 := cell_of_row w2 sb 1 _ _ _ h2
  have c2 := cell_of_row w2 sb 2 _ _ _ h2
  simp only [List.getElem?_toArray, List.getElem?_cons_zero, List.getElem?_cons_succ] at c0 c1 c2
  have HB2 : Hid (Below W0.heap.size W0 w2 ∧ w2.heap[tb]? = some (.cells #[.int .u8 (x : Int), .int .u8 (y : Int), .int .u8 (z : Int)] 51 (0, 0))) := ⟨HS.out.2.1.trans (b2.mono HS.out.2.1.size), hx2⟩
  clear b2 h2 hx2
  by_cases hr : K < 1 ∨ M < 1 ∨ 12 < K ∨ 12 < M
  · have cM := make_none w2 K M B 1000 hr
    clear hr hI
    go_wp2_with fail
    go_at_call 11
    refine cM.mono ?_
    rintro e w3 ⟨rfl, b3⟩
    have HB3 : Hid (Below W0.heap.size W0 w3) := HB2.out.1.trans (b3.mono HB2.out.1.size)
    clear cM b3 c0 c1 c2
    go_wp2
    go_ret
    exact ⟨rfl, HB3.out⟩
  obtain ⟨k, rfl⟩ : ∃ k : Nat, K = (k : Int) := ⟨K.toNat, by omega⟩
  obtain ⟨m, rfl⟩ : ∃ m : Nat, M = (m : Int) := ⟨M.toNat, by omega⟩
  have hr2 : 1 ≤ k ∧ k ≤ 12 ∧ 1 ≤ m ∧ m ≤ 12 := by omega
  have cM := make_any W0 w2 HB2.out.1 k m B 1000 hr2.1 hr2.2.1 hr2.2.2.1 hr2.2.2.2 hI.2.2.1 hI.2.2.2 (by decide) (by decide)
  have HR : Hid (1 ≤ k ∧ k ≤ 12 ∧ 1 ≤ m ∧ m ≤ 12) := hr2
  clear hr hI hr2
  go_wp2_with fail
  go_at_call 11
  refine cM.mono ?_
  rintro e w3 hE
  clear cM c0 c1 c2
  rcases hE with ⟨bl, pp, rfl, hbl1, hbl2, rfl, hM⟩ | ⟨hno, rfl, b3⟩
  · obtain ⟨R, kq, kg, ab, vb, hA, hs, hv, hp, hb⟩ := hM.out
    rw [s1_new] at hA
    obtain ⟨gd, gcap, hgc, hfix⟩ := ps_fix hp
    obtain ⟨N, hN⟩ : ∃ N, k + m = N := ⟨_, rfl⟩
    rw [hN] at hfix hgc
    have HF : Hid (∀ (W0 w : World) (q g : Option Nat) (S T : Nat → St) (z z2 : Option Fz), Ar W0 w R q g S T z z2 → w.cell? ⟨pp, 0, none⟩ = some (.pointer (some ⟨ab, 0, none⟩)) ∧ w.cell? ⟨pp, 1, none⟩ = some (.slice (some ⟨gd, 0, none⟩) N gcap) ∧ ∀ i, i < N → w.cell? ⟨gd, i, none⟩ = some (.pointer (some ⟨(R.P i).p, 0, none⟩))) := hfix
    have HP : Hid (Hs R ab k m bl ∧ Ps R pp ab vb kq kg (k + m) ∧ R.n = k + m) := ⟨hs, hp, hs.N⟩
    have HV0 : Hid (FL W0 w3 R kq kg k m tb x y z 0) := ⟨hA, (hb.block tb (Array.getElem?_eq_some_iff.1 HB2.out.2).1).trans HB2.out.2⟩
    have HNN : Hid (k + m = N ∧ 1 ≤ N ∧ N ≤ 24) := ⟨hN, by have := HR.out; omega, by have := HR.out; omega⟩
    have p0 := Ps.arr hA hp
    have cN := fun n => an_any ((hA.ax hs).keep (bdn' w3 n))
    rw [hN] at cN
    clear hM hA hs hv hp hb hbl1 hbl2 hfix hN
    go_wp2_with fail
    go_at_call 15
    refine (cN 0).mono ?_
    rintro e w4 ⟨rfl, rfl⟩
    clear cN p0
    have hN24 : (N : Int) ≤ 24 := by have := HNN.out; omega
    go_wp2_with fail
    go_loopw [7] (fun ii wr => ∃ j : Nat, j ≤ N ∧ ii = .int .i64 j ∧ Hid (FL W0 wr R kq kg k m tb x y z j)) (fun ii _ => N - (intOf ii).toNat)
    case atStart => exact ⟨0, Nat.zero_le _, rfl, HV0.out⟩
    case round =>
      obtain ⟨j, hj, rfl, hV⟩ := hrel
      have hA := hV.out.ar
      have hB := hV.out.bx
      have p0 := (HF.out _ _ _ _ _ _ _ _ hA).1
      by_cases hlt : j < N
      · have ij : (j : Int) < (N : Int) := by omega
        have ij2 : decide ((j : Int) < (N : Int)) = true := decide_eq_true ij
        have cF := format_any hA HT.out HP.out.1 (i := j) (by rw [HNN.out.1]; exact hlt) (cz_zn (3 * j) (3 * j) (Nat.le_refl _)) (by omega)
        rw [show fS k m j j = s1 [] 1000 from if_neg (Nat.lt_irrefl _), sav0 ((3 * j : Nat) : Int) 1000 (fmtB k m j) (by rw [fmtB_sz]; decide) (by rw [fmtB_sz]; decide)] at cF
        dsimp only at cF
        have HD : Hid (FL W0 wr R kq kg k m tb x y z j) := ⟨hA, hB⟩
        clear hA hB hV
        go_wp2_with fail
        go_at_call 16
        refine cF.mono ?_
        rintro e w5 ⟨rfl, a5, k5⟩
        clear cF p0
        have HE : Hid (FL W0 w5 R kq kg k m tb x y z (j + 1)) := by
          refine ⟨?_, (k5.2 tb _ _ HD.out.bx kT_trip).trans HD.out.bx⟩
          rw [fS_next] at a5
          rw [show ((3 * (j + 1) : Nat) : Int) = ((3 * j : Nat) : Int) + 1 + 1 + 1 by omega]
          exact a5
        clear a5 k5
        go_wp2
        go_round
        case rel => exact ⟨j + 1, by omega, by go_num, HE.out⟩
        case measure => simp [intOf]; omega
      · have hjn : j = N := by omega
        subst hjn
        have ij : decide ((j : Int) < (j : Int)) = false := by simp
        clear hlt
        have t0 := cell_of_row wr tb 0 _ _ _ hB
        have t1 := cell_of_row wr tb 1 _ _ _ hB
        simp only [List.getElem?_toArray, List.getElem?_cons_zero, List.getElem?_cons_succ] at t0 t1
        have HD : Hid (FL W0 wr R kq kg k m tb x y z j) := ⟨hA, hB⟩
        have hx := HX.out
        have hn0 := HNN.out
        have hne : ¬ ((j : Int) = 0) := by omega
        have e1 : (x : Int).tmod (j : Int) = ((x % j : Nat) : Int) := by rw [Int.tmod_eq_emod_of_nonneg (by omega)]; rfl
        have e2 : (y : Int).tmod (j : Int) = ((y % j : Nat) : Int) := by rw [Int.tmod_eq_emod_of_nonneg (by omega)]; rfl
        clear hA hB hV p0
        go_wp2_with fail
        go_quiet (fail)
        obtain ⟨wq, hwq⟩ : ∃ wq, wr.drewN nq = wq := ⟨_, rfl⟩
        have bq := bdn' wr nq
        rw [hwq] at bq ⊢
        have hA := HD.out.ar.keep bq
        have hB := (bq.block tb (Array.getElem?_eq_some_iff.1 HD.out.bx).1).trans HD.out.bx
        rw [show (x : Int) % (j : Int) = ((x % j : Nat) : Int) from rfl, show (y : Int) % (j : Int) = ((y % j : Nat) : Int) from rfl]
        obtain ⟨a, ha⟩ : ∃ a, x % j = a := ⟨_, rfl⟩
        obtain ⟨b, hb⟩ : ∃ b, y % j = b := ⟨_, rfl⟩
        have ha2 : a < j := by rw [← ha]; exact Nat.mod_lt _ (by omega)
        have hb2 : b < j := by rw [← hb]; exact Nat.mod_lt _ (by omega)
        rw [ha, hb]
        have haR : a < R.n := by rw [HP.out.2.2, HNN.out.1]; exact ha2
        have hbR : b < R.n := by rw [HP.out.2.2, HNN.out.1]; exact hb2
        have HAB : Hid (a < j ∧ b < j ∧ a < R.n ∧ b < R.n ∧ j ≤ 24) := ⟨ha2, hb2, haR, hbR, by omega⟩
        have f0 := HF.out _ _ _ _ _ _ _ _ hA
        have p0 := f0.1
        have p1 := f0.2.1
        have p2 := f0.2.2 b hb2
        have bj : (b : Int) < (j : Int) := by omega
        have aj : (a : Int) < (j : Int) := by omega
        have cR := ar_read hA hbR (zn_zb (cz_zn (3 * j) (3 * j) (Nat.le_refl _)) (by omega)) (x := pFmt) (by unfold maxLen; decide)
        rw [show fS k m j b = s1 [⟨pFmt, fmtB k m b, true⟩] 1000 from if_pos hb2, rea1, ask1, show s1 [⟨pFmt, fmtB k m b, true⟩] 1000 = fS k m j b from (if_pos hb2).symm, up_self, cz_tick] at cR
        dsimp only at cR
        change Calls Tryd.prog 17 #[.pointer (some ⟨(R.P b).p, 0, none⟩), .string ⟨#[102, 111, 114, 109, 97, 116]⟩] wq _ at cR
        have H1 : Hid (wq.heap[tb]? = some (.cells #[.int .u8 (x : Int), .int .u8 (y : Int), .int .u8 (z : Int)] 51 (0, 0))) := hB
        clear hwq bq hA hB HD ha hb f0 t0 t1 e1 e2 hx hne
        go_wp2_with fail
        go_at_call 17
        refine cR.mono ?_
        rintro e w5 ⟨⟨ra, rn, rc, rfl, hin⟩, a5, k5⟩
        have hrn : rn = 11 := by rw [hin.len, fmtB_sz]
        subst hrn
        have f0 := HF.out _ _ _ _ _ _ _ _ a5
        have q0 := f0.1
        have q1 := f0.2.1
        have q2 := f0.2.2 a ha2
        have cW := ar_wri a5 haR (zn_zb (cz_zn (3 * j + 1) (3 * j + 1) (Nat.le_refl _)) (by omega)) (x := pFmt) (by unfold maxLen; decide) hin (by unfold maxLen; omega)
        have H2 : Hid (w5.heap[tb]? = some (.cells #[.int .u8 (x : Int), .int .u8 (y : Int), .int .u8 (z : Int)] 51 (0, 0))) := (k5.2 tb _ _ H1.out kT_trip).trans H1.out
        rw [show fS k m j a = s1 [⟨pFmt, fmtB k m a, true⟩] 1000 from if_pos ha2, wri1 _ _ _ _ (fmtB_sz k m a) (fmtB_sz k m b), cz_tick] at cW
        dsimp only at cW
        change Calls Tryd.prog 18 #[.pointer (some ⟨(R.P a).p, 0, none⟩), .string ⟨#[102, 111, 114, 109, 97, 116]⟩, .slice ra 11 rc] w5 _ at cW
        clear cR a5 k5 hin f0 p0 p1 p2
        go_wp2_with fail
        go_at_call 18
        refine cW.mono ?_
        rintro e w6 ⟨rfl, a6, k6⟩
        have f0 := HF.out _ _ _ _ _ _ _ _ a6
        have p0 := f0.1
        have H3 : Hid (w6.heap[tb]? = some (.cells #[.int .u8 (x : Int), .int .u8 (y : Int), .int .u8 (z : Int)] 51 (0, 0))) := (k6.2 tb _ _ H2.out kT_trip).trans H2.out
        have hvn : decide (fmtB k m b = fmtB k m a) = decide ((a : Int) = (b : Int)) := by
          rw [decide_eq_decide]
          constructor
          · intro e
            have := fmt_inj (by omega) (by omega) e
            omega
          · intro e
            rw [show a = b by omega]
        have cV := voice_any a6 HT.out HP.out.1 (i := a) (by rw [HNN.out.1]; exact ha2) (zn_zb (cz_zn (3 * j + 1 + 1) (3 * j + 1 + 1) (Nat.le_refl _)) (by omega))
        rw [up_at, up_up] at cV
        have hvo := voi1 ((3 * j + 1 + 1 : Nat) : Int) 1000 (fmtB k m b) (fmtB k m a) false
        have hvo2 : voiZ (cz (((3 * j : Nat) : Int) + 1 + 1)) (s1 [⟨pFmt, fmtB k m b, false⟩] 1000) (fmtB k m a) = (decide (fmtB k m b = fmtB k m a), 0) := hvo.1
        have hvo3 : (askZ (cz (((3 * j : Nat) : Int) + 1 + 1)) (s1 [⟨pFmt, fmtB k m b, false⟩] 1000) [pFmt]).2.2 = s1 [⟨pFmt, fmtB k m b, false⟩] 1000 := hvo.2
        rw [hvo2, hvo3, hvn, cz_tick] at cV
        dsimp only at cV
        clear cW a6 k6 f0 hvn hvo hvo2 hvo3 q0 q1 q2
        go_wp2_with fail
        go_at_call 19
        refine cV.mono ?_
        rintro e w7 ⟨rfl, a7, k7⟩
        have H4 : Hid (w7.heap[tb]? = some (.cells #[.int .u8 (x : Int), .int .u8 (y : Int), .int .u8 (z : Int)] 51 (0, 0))) := (k7.2 tb _ _ H3.out kT_trip).trans H3.out
        clear cV p0
        have HA7 : Hid (Ar W0 w7 R (some kq) (some kg) (up (fS k m j) a (s1 [⟨pFmt, fmtB k m b, false⟩] 1000)) (fun _ => s1 [] 1000) (cz ((3 * j + 1 + 1 + 1 : Nat) : Int)) (some z0)) := a7
        clear a7 k7
        have hz0 := HX.out.2.2
        obtain ⟨t, htt⟩ : ∃ t, z % 11 = t := ⟨_, rfl⟩
        have ht11 : t < 11 := by omega
        have e3 : (z : Int).tmod (11 : Int) = ((z % 11 : Nat) : Int) := by rw [Int.tmod_eq_emod_of_nonneg (by omega)]; rfl
        have K : Hid (Calls Tryd.prog 16 #[.pointer (some ⟨ab, 0, none⟩), .int .i64 (a : Int)] w7.drew fun e w8 => e = .returned (.int .i64 0) ∧ (w8.cell? ⟨pp, 0, none⟩ = some (.pointer (some ⟨ab, 0, none⟩)) ∧ w8.cell? ⟨pp, 1, none⟩ = some (.slice (some ⟨gd, 0, none⟩) j gcap) ∧ w8.cell? ⟨gd, a, none⟩ = some (.pointer (some ⟨(R.P a).p, 0, none⟩)) ∧ w8.cell? ⟨tb, 2, none⟩ = some (.int .u8 (z : Int))) ∧ Hid (Calls Tryd.prog 20 #[.pointer (some ⟨(R.P a).p, 0, none⟩), .string ⟨#[102, 111, 114, 109, 97, 116]⟩, .int .i64 ((t : Nat) : Int), .int .u32 1] w8 fun e w9 => e = .returned (.bool true) ∧ (w9.cell? ⟨pp, 0, none⟩ = some (.pointer (some ⟨ab, 0, none⟩)) ∧ w9.cell? ⟨pp, 1, none⟩ = some (.slice (some ⟨gd, 0, none⟩) j gcap) ∧ w9.cell? ⟨gd, a, none⟩ = some (.pointer (some ⟨(R.P a).p, 0, none⟩)) ∧ w9.cell? ⟨tb, 2, none⟩ = some (.int .u8 (z : Int))) ∧ Hid (Ar W0 w9 R (some kq) (some kg) (up (fS k m j) a (s1 [⟨pFmt, flB (fmtB k m a) t 1, true⟩] 1000)) (fun _ => s1 [] 1000) (cz ((3 * j + 6 : Nat) : Int)) (some z0)))) := by
          have c1 := format_any (HA7.out.keep (Below.refl _ _).drew) HT.out HP.out.1 (i := a) (by rw [HNN.out.1]; exact ha2) (cz_zn (3 * j + 1 + 1 + 1) (3 * j + 1 + 1 + 1) (Nat.le_refl _)) (by omega)
          rw [up_at, up_up, sav1 _ 1000 (fmtB k m a) (fmtB k m b) false (by rw [fmtB_sz]; decide) (by rw [fmtB_sz, fmtB_sz]; decide)] at c1
          refine c1.mono ?_
          rintro e w8 ⟨rfl, a8, k8⟩
          dsimp only at a8
          have f0 := HF.out _ _ _ _ _ _ _ _ a8
          have h8 : w8.heap[tb]? = some (.cells #[.int .u8 (x : Int), .int .u8 (y : Int), .int .u8 (z : Int)] 51 (0, 0)) := (k8.2 tb _ _ H4.out kT_trip).trans H4.out
          have d2 := cell_of_row w8 tb 2 _ _ _ h8
          simp only [List.getElem?_toArray, List.getElem?_cons_zero, List.getElem?_cons_succ] at d2
          refine ⟨rfl, ⟨f0.1, f0.2.1, f0.2.2 a ha2, d2⟩, ?_⟩
          have c2 := a8.flip haR (x := pFmt) (t := (t : Int)) (mask := 1) (by unfold maxLen; decide) (by omega) (by omega) (by decide)
          have hfl := fli1 (fmtB k m a) true t (by rw [fmtB_sz]; exact ht11)
          rw [up_at, up_up] at c2
          have c3 : Calls Tryd.prog 20 #[.pointer (some ⟨(R.P a).p, 0, none⟩), .string pFmt, .int .i64 ((t : Nat) : Int), .int .u32 1] w8 fun e w9 => e = .returned (.bool true) ∧ Ar W0 w9 R (some kq) (some kg) (up (fS k m j) a (s1 [⟨pFmt, flB (fmtB k m a) t 1, true⟩] 1000)) (fun _ => s1 [] 1000) (cz (((3 * j + 1 + 1 + 1 : Nat) : Int) + 1 + 1 + 1)) (some z0) ∧ Kd w8 w9 := by
            refine c2.mono fun e w9 q => ⟨q.1.trans (congrArg (fun v => Ending.returned (.bool v)) hfl.1), ?_, q.2.2⟩
            have := q.2.1
            rw [← hfl.2]
            exact this
          refine c3.mono ?_
          rintro e w9 ⟨rfl, a9, k9⟩
          have f0 := HF.out _ _ _ _ _ _ _ _ a9
          have d2 := cell_of_row w9 tb 2 _ _ _ ((k9.2 tb _ _ h8 kT_trip).trans h8)
          simp only [List.getElem?_toArray, List.getElem?_cons_zero, List.getElem?_cons_succ] at d2
          refine ⟨rfl, ⟨f0.1, f0.2.1, f0.2.2 a ha2, d2⟩, ?_⟩
          have e6 : (((3 * j + 1 + 1 + 1 : Nat) : Int) + 1 + 1 + 1) = ((3 * j + 6 : Nat) : Int) := by omega
          rw [e6] at a9
          exact a9
        have HS9 : Hid (w7.drew.cell? ⟨pp, 0, none⟩ = some (.pointer (some ⟨ab, 0, none⟩)) ∧ w7.drew.cell? ⟨pp, 1, none⟩ = some (.slice (some ⟨gd, 0, none⟩) j gcap) ∧ w7.drew.cell? ⟨gd, a, none⟩ = some (.pointer (some ⟨(R.P a).p, 0, none⟩)) ∧ w7.drew.cell? ⟨tb, 2, none⟩ = some (.int .u8 (z : Int))) := by
          have f0 := HF.out _ _ _ _ _ _ _ _ (HA7.out.keep (Below.refl _ _).drew)
          have d2 := cell_of_row w7.drew tb 2 _ _ _ (((Below.refl _ _).drew.block tb (Array.getElem?_eq_some_iff.1 H4.out).1).trans H4.out)
          simp only [List.getElem?_toArray, List.getElem?_cons_zero, List.getElem?_cons_succ] at d2
          exact ⟨f0.1, f0.2.1, f0.2.2 a ha2, d2⟩
        rw [htt] at e3
        have HTT : Hid (t < 11 ∧ z % 11 = t) := ⟨ht11, htt⟩
        have e4 : (IntKind.i64.wrap (z : Int)).tmod (11 : Int) = ((t : Nat) : Int) := by
          rw [show IntKind.i64.wrap (z : Int) = (z : Int) by rw [IntKind.wrap_i64]; omega]
          exact e3
        clear HA7 H4
        go_wp2_with fail
        go_region_held3 (fun Y => Y.cell? ⟨pp, 0, none⟩ = some (.pointer (some ⟨ab, 0, none⟩)) ∧ Y.cell? ⟨pp, 1, none⟩ = some (.slice (some ⟨gd, 0, none⟩) j gcap) ∧ Y.cell? ⟨gd, a, none⟩ = some (.pointer (some ⟨(R.P a).p, 0, none⟩)) ∧ Y.cell? ⟨tb, 2, none⟩ = some (.int .u8 (z : Int)))
          (first | with_reducible exact HS9.out | with_reducible exact p1 | with_reducible exact p2)
          (first
            | (go_at_call 16; with_reducible refine K.out.mono ?_; rintro e w8 ⟨rfl, p1, HK2⟩)
            | (go_at_call 20; with_reducible refine HK2.out.mono ?_; rintro e w9 ⟨rfl, p2, HE⟩))
        clear K HK2 HS9 p1 e3 e4 htt hz0
        have p0 := p2.1
        have hj24 := HNN.out.2.2
        -- the voice with a turned bit
        have cV := voice_any HE.out HT.out HP.out.1 (i := a) (by rw [HNN.out.1]; exact ha2) (zn_zb (cz_zn (3 * j + 6) (3 * j + 6) (Nat.le_refl _)) (by omega))
        have hvo := voi1 ((3 * j + 6 : Nat) : Int) 1000 (flB (fmtB k m a) t 1) (fmtB k m a) true
        have hne9 : decide (flB (fmtB k m a) t 1 = fmtB k m a) = false := decide_eq_false (flB_ne (b := fmtB k m a) (f := fmf k m a) (n := 11) rfl (fmf_lt k m a) (fmtB_sz k m a).symm t (by rw [fmtB_sz]; exact HTT.out.1))
        rw [up_at, up_up, hvo.1, hvo.2, hne9, cz_tick] at cV
        dsimp only at cV
        clear hvo hne9 HE p2
        go_wp2_with fail
        go_at_call 19
        refine cV.mono ?_
        rintro e wv ⟨rfl, av, kv⟩
        have f0 := HF.out _ _ _ _ _ _ _ _ av
        have p0 := f0.1
        have p1 := f0.2.1
        have p2 := f0.2.2 a ha2
        have cD := ar_del av haR (zn_zb (cz_zn (3 * j + 6 + 1) (3 * j + 6 + 1) (Nat.le_refl _)) (by omega)) (x := pFmt) (by unfold maxLen; decide)
        rw [up_at, up_up, del1, cz_tick] at cD
        dsimp only at cD
        change Calls Tryd.prog 21 #[.pointer (some ⟨(R.P a).p, 0, none⟩), .string ⟨#[102, 111, 114, 109, 97, 116]⟩] wv _ at cD
        clear cV av kv f0
        go_wp2_with fail
        go_at_call 21
        refine cD.mono ?_
        rintro e wd ⟨rfl, ad, kd⟩
        have p0 := (HF.out _ _ _ _ _ _ _ _ ad).1
        have cV := voice_any ad HT.out HP.out.1 (i := a) (by rw [HNN.out.1]; exact ha2) (zn_zb (cz_zn (3 * j + 6 + 1 + 1) (3 * j + 6 + 1 + 1) (Nat.le_refl _)) (by omega))
        have hvo := voi0 ((3 * j + 6 + 1 + 1 : Nat) : Int) 1000 (fmtB k m a)
        have hvo1 : voiZ (cz (((3 * j + 6 : Nat) : Int) + 1 + 1)) (s1 [] 1000) (fmtB k m a) = (false, 0) := hvo.1
        have hvo2 : (askZ (cz (((3 * j + 6 : Nat) : Int) + 1 + 1)) (s1 [] 1000) [pFmt]).2.2 = s1 [] 1000 := hvo.2
        rw [up_at, up_up, hvo1, hvo2, cz_tick] at cV
        dsimp only at cV
        clear hvo hvo1 hvo2 cD ad kd p1 p2
        go_wp2_with fail
        go_at_call 19
        refine cV.mono ?_
        rintro e ww ⟨rfl, aw, kw⟩
        have p0 := (HF.out _ _ _ _ _ _ _ _ aw).1
        have cS := voices_any aw HT.out HP.out.1 (j0 := 3 * j + 9) (cz_zn (3 * j + 6 + 1 + 1 + 1) (3 * j + 9) (by omega)) (by omega)
        have hvc := vcs_gen (k := k) (m := m) (n := j) (d0 := ((3 * j + 6 : Nat) : Int) + 1 + 1 + 1) (S := up (fS k m j) a (s1 [] 1000)) (N := up (fS k m j) a (s1 [] 1000)) (V := fun i => !(i == a)) (fun i hi d' => by
          by_cases e : i = a
          · subst e
            rw [up_at]
            have h9 := voi0 d' 1000 (fmtB k m i)
            refine ⟨?_, h9.2⟩
            rw [h9.1]; simp
          · rw [up_of _ _ e, show fS k m j i = s1 [⟨pFmt, fmtB k m i, true⟩] 1000 from if_pos hi]
            have h9 := voi1 d' 1000 (fmtB k m i) (fmtB k m i) true
            refine ⟨?_, h9.2⟩
            rw [h9.1]
            have : (i == a) = false := by simpa using e
            rw [this]; simp) j (Nat.le_refl _)
        rw [HNN.out.1, hvc] at cS
        clear cV hvc aw kw
        go_wp2_with fail
        go_at_call 22
        refine cS.mono ?_
        rintro e wz ⟨v, rfl, ov, az, kz⟩
        obtain ⟨va, vc, rfl⟩ := ov.form
        have hlen : (((List.range j).filter fun i => !(i == a)).map iv).length = j - 1 := by rw [List.length_map, flt_len, if_pos ha2]
        rw [hlen]
        have HB : Hid (Below W0.heap.size W0 wz) := az.b
        have ej : (((j - 1 : Nat) : Int) == (j : Int) - 1) = true := by rw [beq_iff_eq]; omega
        clear cS ov az kz hlen p0
        go_wp2
        go_ret
        exact ⟨rfl, HB.out⟩
  · have HB3 : Hid (Below W0.heap.size W0 w3) := HB2.out.1.trans (b3.mono HB2.out.1.size)
    clear b3 hno
    go_wp2
    go_ret
    exact ⟨rfl, HB3.out⟩


set_option maxRecDepth 100000 in
theorem lifted (os : Os) (started : os.Started) (H : Type) (enc : TypeId × Value → H) :
    ReturnsInHanded {} Tryd.checked os 5 .any (fun w args => (Rows.arrayFormatsSpec.pre enc Tryd.prog Tryd.f5 [] false w args ∧ laidMetH Tryd.prog laidAll w) ∧ sizedMet enc Tryd.prog Tryd.f5 (OpenSpec.ofChange Rows.arrayFormatsSpec) false w args) (Rows.arrayFormatsSpec.post enc Tryd.prog Tryd.f5 false true false false) := by
  refine returnsInHanded_of_change_and (C := Tryd.checked) (X := fun w _ => laidMetH Tryd.prog laidAll w) (fun _ _ _ hh h => h.of_heap hh) own started (by kernel_rfl) Tryd.func5
    (ChangeSpec.witness_shaped (enc := enc) (C := Tryd.checked) (os := os) (X := fun w _ => laidMetH Tryd.prog laidAll w) false (World.doorLaid Tryd.prog 400 os) #[.agg #[.int .i64 0, .int .i64 0, .int .i64 0], .agg #[.int .u8 0, .int .u8 0, .int .u8 0]] 8 rfl (World.shaped_of_RefB (by kernel_rfl) (by kernel_rfl)) (by kernel_rfl) (by kernel_rfl) (by kernel_rfl) (door_met os _)) ?_
  intro W base args ds gs before hval0 hW _ hsz0 hL _
  have hval : ∀ (j : Nat) t v, Tryd.f5.params[j]? = some t → args[j]? = some v → Value.okWide Tryd.prog W .any base t v := hval0
  have hW' := hW
  obtain ⟨p, q, hA0, hV, rfl, hfz, hnd⟩ := hW
  have hA : DataW.TrodAll enc Tryd.prog W 0 (fun _ => true) true Tryd.f5.params.toList args.toList ds p := hA0
  rw [Tryd.params5] at hA hval
  have T := halfT_of hL
  obtain ⟨v0, vs0, d0, ds0, p0, q0, hargs, rfl, rfl, h0, r0⟩ := trodAll_cons hA
  obtain ⟨v1, vs1, d1, ds1, p1, q1, rfl, rfl, rfl, h1, r1⟩ := trodAll_cons r0
  obtain ⟨rfl, rfl, rfl⟩ := trodAll_nil r1
  obtain rfl : args = #[v0, v1] := by cases args; simp_all
  obtain ⟨rfl, rfl⟩ := trodVars_none hV
  have k0 := h0
  have lt0 : ∀ x ∈ p0, x.block < W.heap.size := by obtain ⟨m, hm⟩ := k0; exact DataW.trod_lt m _ _ _ hm
  obtain ⟨K0, M0, B0, e0, rfl⟩ := open_shape (hval 0 24 v0 rfl rfl) h0
  have k1 := h1
  have lt1 : ∀ x ∈ p1, x.block < W.heap.size := by obtain ⟨m, hm⟩ := k1; exact DataW.trod_lt m _ _ _ hm
  obtain ⟨x1, y1, z1, e1, rfl⟩ := open_trip8 (hval 1 51 v1 rfl rfl) h1
  clear hA0 hval0 hsz0 hL
  refine (core K0 M0 B0 x1 y1 z1 W T e0 e1).mono fun e W' ⟨he, bel⟩ => ?_
  subst he
  exact ⟨_, rfl, _, _, _, [], _, [], hW', trodAll_mk1 (shut_bool Tryd.underlying4 _), (trodAll_cons_mk (Below.trod laidOut (by kernel_rfl) (of_decide_eq_true (by kernel_rfl)) k0 bel lt0) (trodAll_cons_mk (Below.trod laidOut (by kernel_rfl) (of_decide_eq_true (by kernel_rfl)) k1 bel lt1) trodAll_mk0)), rfl, bel.frame _, fun h => by cases h⟩

theorem over : Rows.arrayFormatsRow.holds Tryd.pinned (OpenSpec.ofChange Rows.arrayFormatsSpec) :=
  OpenClaim.holds_of_wide 5 Tryd.f5 rfl rfl rfl rfl rfl rfl rfl ⟨rfl, rfl, rfl, rfl, rfl⟩ rfl rfl rfl rfl rfl (by kernel_rfl) Tryd.func5 (by kernel_rfl)
    (of_decide_eq_true (by kernel_rfl)) (by unfold Func.isWrapper; first | (rw [if_pos (by decide +kernel)]; kernel_rfl) | (rw [if_neg (by decide +kernel)]; exact ⟨rfl, rfl⟩))
    (fun os started H enc _ => lifted os started H enc)

end arrayFormats

/-- The statement. -/
theorem arrayFormats_holds : Rows.ArrayFormatsCardSaid :=
  Claim7.holds_tied_plain_at .later [] [.data] true (true, "1030a19dec020d70f9d3e07f477f037649f156ed148aaf108150bb6ba0b72429") true
    arrayFormats.over (fun _ h => by cases h) (by kernel_rfl) (fun _ h => by cases h) arrayFormats_row_tie rfl ⟨rfl, rfl⟩ (by kernel_rfl) rfl
    (fun f fn hf hfn => by
      obtain rfl : f = 5 := Option.some.inj ((show Tryd.prog.funcNamed "strongbox/strongboxlaw12.ArrayFormats" = some 5 by kernel_rfl).symm.trans hf) |>.symm
      obtain rfl : fn = Tryd.f5 := (Option.some.inj (Tryd.func5.symm.trans hfn)).symm
      exact ⟨by kernel_rfl, fun j t ht => by
        rw [Tryd.params5] at ht
        have hm : t ∈ [24, 51] := by simpa using Array.mem_of_getElem? ht
        have hall : ([24, 51].all fun u => !Tryd.prog.wantsStandIn u) = true := by kernel_rfl
        exact (show Tryd.prog.wantsStandIn t = false by simpa using List.all_eq_true.1 hall t hm)⟩)
    (by kernel_rfl)
#print axioms arrayFormats_holds
end Go.Proofs.YtebngmgdciahiaaDoor
