/-
  The law ArrayVoices of layer 12 (P12.2: voices are those disks that are online, whole, and have their format: each by itself) answers true for all shapes and all rows of kinds, where crc's table is as the program's text lays it.
-/
import Derived.Test.YtebngmgdciahiaaDoorRows
import Derived.WalkKit
import Derived.ProofKit
import Derived.OpenShut
import Derived.ShutString
import Derived.ChangeOld
import Derived.Below
import Derived.SizedLaws
import Derived.LaidMore
import Derived.Stop.Joined
import Derived.SevenTiedAt
import Derived.Test.YtebngmgdciahiaaDoorCards
import Derived.Test.YtebngmgdciahiaaDoorTie
import Derived.Test.YtebngmgdciahiaaDoorArL
import Derived.Test.YtebngmgdciahiaaDoorArT
set_option maxRecDepth 100000
namespace Go.Proofs.YtebngmgdciahiaaDoor
namespace arrayVoices
open Go.ChangeShapes Go.WideShapes Go.ChangeAt Go.RowKit Crc
open _root_.Go.Proofs.YtebngmgdciahiaaDoor.Nm _root_.Go.Proofs.YtebngmgdciahiaaDoor.Dk
set_option linter.unusedVariables false
attribute [local go_sem ↓] Go.wp_at_zero Go.wp_at_succ

theorem own : ownKnob Tryd.prog.godebug = none := by kernel_rfl
theorem laidOut : laidOutB Tryd.prog = true := by kernel_rfl

def kd (n : Nat) (f : Nat → Nat) (i : Nat) : Nat := if i < n then f i % 5 else 0
/-- A disk behind what befell it. -/
def stK (k m : Nat) (c i : Nat) : St := if c = 1 then { s1 [⟨pFmt, fmtB k m i, true⟩] 1000 with off := true } else if c = 2 then s1 [] 1000 else if c = 3 then { s1 [⟨pFmt, fmtB k m i, true⟩] 1000 with bad := 1 } else if c = 4 then s1 [⟨pFmt, sbf, false⟩] 1000 else s1 [⟨pFmt, fmtB k m i, true⟩] 1000
def stN (k m : Nat) (c i : Nat) : St := if c = 3 then s1 [⟨pFmt, fmtB k m i, true⟩] 1000 else stK k m c i
theorem kd_lt (n : Nat) (f : Nat → Nat) (i : Nat) : kd n f i < 5 := by
  unfold kd
  split
  · exact Nat.mod_lt _ (by decide)
  · decide
theorem stK_voice (k m c i : Nat) (hc : c < 5) (d : Int) : (voiZ (cz d) (stK k m c i) (fmtB k m i)).1 = (c == 0) ∧ (askZ (cz d) (stK k m c i) [pFmt]).2.2 = stN k m c i := by
  match c, hc with
  | 0, _ =>
    have := voi1 d 1000 (fmtB k m i) (fmtB k m i) true
    refine ⟨?_, this.2⟩
    show (voiZ (cz d) (s1 [⟨pFmt, fmtB k m i, true⟩] 1000) (fmtB k m i)).1 = true
    rw [this.1]; simp
  | 1, _ => exact ⟨by rw [show stK k m 1 i = { s1 [⟨pFmt, fmtB k m i, true⟩] 1000 with off := true } from rfl, (voi_off d _ 1000 _).1]; rfl, (voi_off d _ 1000 (fmtB k m i)).2⟩
  | 2, _ => exact ⟨by rw [show stK k m 2 i = s1 [] 1000 from rfl, (voi0 d 1000 _).1]; rfl, (voi0 d 1000 (fmtB k m i)).2⟩
  | 3, _ => exact ⟨by rw [show stK k m 3 i = { s1 [⟨pFmt, fmtB k m i, true⟩] 1000 with bad := 1 } from rfl, (voi_bad d _ 1000 _).1]; rfl, (voi_bad d _ 1000 (fmtB k m i)).2⟩
  | 4, _ =>
    have := voi1 d 1000 sbf (fmtB k m i) false
    refine ⟨?_, this.2⟩
    show (voiZ (cz d) (s1 [⟨pFmt, sbf, false⟩] 1000) (fmtB k m i)).1 = false
    rw [this.1, decide_eq_false (sbf_ne k m i)]
theorem stN_voice (k m c i : Nat) (hc : c < 5) (d : Int) : (voiZ (cz d) (stN k m c i) (fmtB k m i)).1 = (c == 0 || c == 3) ∧ (askZ (cz d) (stN k m c i) [pFmt]).2.2 = stN k m c i := by
  match c, hc with
  | 0, _ => exact stK_voice k m 0 i (by decide) d
  | 1, _ => exact stK_voice k m 1 i (by decide) d
  | 2, _ => exact stK_voice k m 2 i (by decide) d
  | 3, _ => exact stK_voice k m 0 i (by decide) d
  | 4, _ => exact stK_voice k m 4 i (by decide) d
theorem fill_next {α : Type} {E Z : α} {F : Nat → α} {j : Nat} (h : Z = F j) : up (fun i => if i < j then F i else E) j Z = fun i => if i < j + 1 then F i else E := by
  rw [up_fill E F j Z]
  subst h
  rw [up_self]
/-- The relation of the loop. -/
structure VL (W0 w3 wr : World) (R : Rg) (kq kg k m n : Nat) (f : Nat → Nat) (j : Nat) (v : Value) : Prop where
  ar : ∃ d : Nat, d ≤ 4 * j ∧ Ar W0 wr R (some kq) (some kg) (fun i => if i < j then stK k m (kd n f i) i else s1 [] 1000) (fun _ => s1 [] 1000) (cz (d : Int)) (some z0)
  v : VOwn 3 wr w3.heap.size v (((List.range j).filter fun i => kd n f i == 0).map iv)
  s : w3.heap.size ≤ wr.heap.size
theorem vown_kp {E : TypeId} {w w' : World} {base : Nat} {v : Value} {L : List Value} (h : VOwn E w base v L) (k : ∀ (k : Nat) (cur : Array Value), w.heap[k]? = some (.cells cur E (0, 0)) → w'.heap[k]? = some (.cells cur E (0, 0))) : VOwn E w' base v L := by
  rcases h with ⟨hl, e | ⟨g, cap, cur, e, hg, hh, hr⟩⟩
  · exact ⟨hl, .inl e⟩
  · exact ⟨hl, .inr ⟨g, cap, cur, e, hg, k g cur hh, hr⟩⟩
/-- The relation of the second loop. -/
structure VL2 (W0 w4 wr : World) (R : Rg) (kq kg k m n : Nat) (f : Nat → Nat) (N : Nat) (d : Int) (j : Nat) (v : Value) : Prop where
  ar : Ar W0 wr R (some kq) (some kg) (fun i => if i < N then stN k m (kd n f i) i else s1 [] 1000) (fun _ => s1 [] 1000) (cz d) (some z0)
  v : VOwn 3 wr w4.heap.size v (((List.range j).filter fun i => kd n f i == 0 || kd n f i == 3).map iv)
  s : w4.heap.size ≤ wr.heap.size
  kp : ∀ (k : Nat) (cur : Array Value), w4.heap[k]? = some (.cells cur 3 (0, 0)) → wr.heap[k]? = some (.cells cur 3 (0, 0))
theorem VL2.next {W0 w4 wr : World} {R : Rg} {kq kg k m n : Nat} {f : Nat → Nat} {N : Nat} {d : Int} {j : Nat} {v : Value} (h : VL2 W0 w4 wr R kq kg k m n f N d j v) (hb : W0.heap.size ≤ w4.heap.size) (hK : ∀ k' o, R.K k' = some o → k' < w4.heap.size) (hj : j ≤ 100) (hk : (kd n f j == 0 || kd n f j == 3) = true) :
    ∃ v' W, Sem.run Tryd.prog (Builtin.append_ #[61, 61] 61 #[v, .slice (some ⟨wr.heap.size, 0, none⟩) 1 1]) (wr.alloc (.cells #[.int .i64 (j : Int)] 3)) = .ok v' W ∧ VL2 W0 w4 W R kq kg k m n f N d (j + 1) v' := by
  obtain ⟨v2, W, r1, r2, r3⟩ := append1 (S := 61) (E := 3) (zv := .int .i64 0) (by8 := 8) Tryd.underlying61 infoI rfl (by omega) h.v (iv j) rfl (by rw [List.length_map]; have h9 := List.length_filter_le (fun i => kd n f i == 0 || kd n f i == 3) (List.range j); rw [List.length_range] at h9; omega) h.s
  refine ⟨v2, W, r1, r3.ar (B := w4.heap.size) hb h.ar kT_int hK, ?_, Nat.le_trans h.s r3.size, fun k cur e => r3.kd (h.kp k cur e) (Array.getElem?_eq_some_iff.1 e).1⟩
  have e : ([j].filter fun i => kd n f i == 0 || kd n f i == 3) = [j] := by simp only [List.filter, hk]
  rw [List.range_succ, List.filter_append, List.map_append, e]
  exact r2
theorem VL2.skip {W0 w4 wr : World} {R : Rg} {kq kg k m n : Nat} {f : Nat → Nat} {N : Nat} {d : Int} {j : Nat} {v : Value} (h : VL2 W0 w4 wr R kq kg k m n f N d j v) (hk : (kd n f j == 0 || kd n f j == 3) = false) : VL2 W0 w4 wr R kq kg k m n f N d (j + 1) v := by
  refine ⟨h.ar, ?_, h.s, h.kp⟩
  have e : ([j].filter fun i => kd n f i == 0 || kd n f i == 3) = [] := by simp only [List.filter, hk]
  rw [List.range_succ, List.filter_append, e, List.append_nil]
  exact h.v
set_option maxHeartbeats 8000000 in
theorem core (K M B : Int) (a : Option Addr) (n c : Nat) (f : Nat → Nat) (W0 : World) (T : HalfT W0) (hI : I64 K ∧ I64 M ∧ I64 B) (hrow : Row W0 a n f) (hz : a = none → n = 0 ∧ c = 0) (hn : n ≤ maxLen) (hnc : n ≤ c) :
    Calls Tryd.prog 6 #[.agg #[.int .i64 K, .int .i64 M, .int .i64 B], .slice a n c] W0 fun e w' => e = .returned (.bool true) ∧ Below W0.heap.size W0 w' := by
  obtain ⟨w1, hw1⟩ : ∃ w1, W0.alloc (.cells #[.int .i64 K, .int .i64 M, .int .i64 B] 24) = w1 := ⟨_, rfl⟩
  have b1 : Below W0.heap.size W0 w1 := by rw [← hw1]; exact bal _ _
  have hs : w1.heap[W0.heap.size]? = some (.cells #[.int .i64 K, .int .i64 M, .int .i64 B] 24 (0, 0)) := by rw [← hw1]; exact heap_alloc_new _ _
  have cA := awake12 W0 w1 b1 T
  obtain ⟨sb, hsb⟩ : ∃ sb, W0.heap.size = sb := ⟨_, rfl⟩
  have HW1 : Hid (W0.alloc (.cells #[.int .i64 K, .int .i64 M, .int .i64 B] 24) = w1) := hw1
  rw [hsb] at hs
  have HS : Hid (w1.heap[sb]? = some (.cells #[.int .i64 K, .int .i64 M, .int .i64 B] 24 (0, 0)) ∧ Below W0.heap.size W0 w1 ∧ W0.heap.size = sb) := ⟨hs, b1, hsb⟩
  have HROW : Hid (Row W0 a n f) := hrow
  have HT : Hid (HalfT W0) := T
  clear hw1 b1 hs hrow hz hnc T hsb
  go_enter Tryd.func6, Tryd.ntmps6
  go_wp2_with fail
  rw [HW1.out, HS.out.2.2]
  go_at_call 7
  refine cA.mono ?_
  rintro e w2 ⟨rfl, b2⟩
  clear cA
  have h2 := (b2.block sb (Array.getElem?_eq_some_iff.1 HS.out.1).1).trans HS.out.1
  have c0 := cell_of_row w2 sb 0 _ _ _ h2
  have c1 := cell_of_row w2 sb 1 _ _ _ h2
  have c2 := cell_of_row w2 sb 2 _ _ _ h2
  simp only [List.getElem?_toArray, List.getElem?_cons_zero, List.getElem?_cons_succ] at c0 c1 c2
  have HB2 : Hid (Below W0.heap.size W0 w2) := HS.out.2.1.trans (b2.mono HS.out.2.1.size)
  clear b2 h2
  by_cases hr : K < 1 ∨ M < 1 ∨ 12 < K ∨ 12 < M
  · have cM := make_none w2 K M B 1000 hr
    clear hr hI
    go_wp2_with fail
    go_at_call 11
    refine cM.mono ?_
    rintro e w3 ⟨rfl, b3⟩
    have HB3 : Hid (Below W0.heap.size W0 w3) := HB2.out.trans (b3.mono HB2.out.size)
    clear cM b3 c0 c1 c2
    go_wp2
    go_ret
    exact ⟨rfl, HB3.out⟩
  obtain ⟨k, rfl⟩ : ∃ k : Nat, K = (k : Int) := ⟨K.toNat, by omega⟩
  obtain ⟨m, rfl⟩ : ∃ m : Nat, M = (m : Int) := ⟨M.toNat, by omega⟩
  have hr2 : 1 ≤ k ∧ k ≤ 12 ∧ 1 ≤ m ∧ m ≤ 12 := by omega
  have cM := make_any W0 w2 HB2.out k m B 1000 hr2.1 hr2.2.1 hr2.2.2.1 hr2.2.2.2 hI.2.2.1 hI.2.2.2 (by decide) (by decide)
  have HR : Hid (1 ≤ k ∧ k ≤ 12 ∧ 1 ≤ m ∧ m ≤ 12) := hr2
  clear hr hI hr2
  go_wp2_with fail
  go_at_call 11
  refine cM.mono ?_
  rintro e w3 hE
  clear cM c0 c1 c2
  rcases hE with ⟨bl, pp, rfl, hbl1, hbl2, rfl, hM⟩ | ⟨hno, rfl, b3⟩
  · obtain ⟨R, kq, kg, ab, vb, hA, hs, hv, hp, hb⟩ := hM.out
    rw [s1_new] at hA
    have HP : Hid (Hs R ab k m bl ∧ Ps R pp ab vb kq kg (k + m) ∧ R.n = k + m) := ⟨hs, hp, hs.N⟩
    have HKB : Hid (∀ k' o, R.K k' = some o → k' < w3.heap.size) := fun k' o e => hA.kb k' o e
    have HB3 : Hid (Below W0.heap.size W0 w3) := HB2.out.trans (hb.mono HB2.out.size)
    have HV0 : Hid (VL W0 w3 w3 R kq kg k m n f 0 (.slice none 0 0)) := ⟨⟨0, Nat.le_refl _, by
      have e : (fun i => if i < 0 then stK k m (kd n f i) i else s1 [] 1000) = fun _ => s1 [] 1000 := by funext i; rw [if_neg (Nat.not_lt_zero _)]
      rw [e]; exact hA⟩, VOwn.start _ _ _, Nat.le_refl _⟩
    clear hM hA hs hv hp hb hbl1 hbl2
    by_cases h40 : 40 < n
    · have g40 : decide ((40 : Int) < (n : Int)) = true := decide_eq_true (by omega)
      have g41 : decide (40 < n) = true := decide_eq_true h40
      clear h40
      go_wp2
      go_ret
      exact ⟨rfl, HB3.out⟩
    have g40 : decide ((40 : Int) < (n : Int)) = false := decide_eq_false (by omega)
    have g41 : decide (40 < n) = false := decide_eq_false h40
    obtain ⟨N, hN⟩ : ∃ N, k + m = N := ⟨_, rfl⟩
    have hN24 : (N : Int) ≤ 24 := by have := HR.out; omega
    have HNN : Hid (k + m = N) := hN
    clear h40 hN
    go_wp2_with fail
    go_loopw [6, 7] (fun vv ii wr => ∃ (j : Nat) (v : Value), j ≤ N ∧ ii = .int .i64 j ∧ v = vv ∧ Hid (VL W0 w3 wr R kq kg k m n f j v)) (fun _ ii _ => N - (intOf ii).toNat)
    case atStart => exact ⟨0, _, Nat.zero_le _, rfl, rfl, HV0.out⟩
    case round =>
      obtain ⟨j, v, hj, rfl, rfl, hV⟩ := hrel
      obtain ⟨d, hd, hA⟩ := hV.out.ar
      have p0 := Ps.arr hA HP.out.2.1
      have cN := an_any (hA.ax HP.out.1)
      rw [HNN.out] at cN
      by_cases hlt : j < N
      · have ij : (j : Int) < (N : Int) := by omega
        have hjR : j < R.n := by rw [HP.out.2.2, HNN.out]; exact hlt
        have cF := format_any hA HT.out HP.out.1 (i := j) (by rw [HNN.out]; exact hlt) (cz_zn d d (Nat.le_refl _)) (by have h9 : j ≤ 24 := (by omega); omega)
        rw [if_neg (Nat.lt_irrefl _), sav0 (d : Int) 1000 (fmtB k m j) (by rw [fmtB_sz]; decide) (by rw [fmtB_sz]; decide)] at cF
        dsimp only at cF
        have HD : Hid (d ≤ 4 * j ∧ j < N ∧ j < R.n) := ⟨hd, hlt, hjR⟩
        clear hA hd hlt hjR
        go_wp2_with fail
        go_at_call 15
        refine cN.mono ?_
        rintro e w4 ⟨rfl, rfl⟩
        clear cN
        go_wp2_with fail
        go_at_call 16
        refine cF.mono ?_
        rintro e w5 ⟨rfl, a5, k5⟩
        clear cF p0
        have H5 : Hid (Ar W0 w5 R (some kq) (some kg) (up (fun i => if i < j then stK k m (kd n f i) i else s1 [] 1000) j (s1 [⟨pFmt, fmtB k m j, true⟩] 1000)) (fun _ => s1 [] 1000) (cz ((d : Int) + 1 + 1 + 1)) (some z0) ∧ Kd w4 w5) := ⟨a5, k5⟩
        obtain ⟨gd, gcap, p1, p2⟩ := Ps.disk a5 HP.out.2.1 (i := j) (by rw [HNN.out]; exact HD.out.2.1)
        rw [HNN.out] at p1
        clear a5 k5
        by_cases hjn : j < n
        · obtain ⟨rb, ro, rfl, hcell⟩ := HROW.out.lies (by omega)
          have t0 := ((H5.out.1.b).cell (p := ⟨rb, ro + j, none⟩) (block_lt_of_cell (hcell j hjn))).trans (hcell j hjn)
          have jn : (j : Int) < (n : Int) := by omega
          obtain ⟨fj, hfj⟩ : ∃ fj, f j = fj := ⟨_, rfl⟩
          rw [hfj] at t0
          have hkd : kd n f j = fj % 5 := by unfold kd; rw [if_pos hjn, hfj]
          clear hcell hjn
          have hk5 : fj % 5 < 5 := Nat.mod_lt _ (by decide)
          rcases (show fj % 5 = 0 ∨ fj % 5 = 1 ∨ fj % 5 = 2 ∨ fj % 5 = 3 ∨ fj % 5 = 4 by omega) with hk | hk | hk | hk | hk
          · have hkd : kd n f j = 0 := by rw [hkd]; exact hk
            have g1 : (((fj : Nat) : Int) % 5 == 1) = false := by rw [beq_eq_false_iff_ne]; omega
            have g2 : (((fj : Nat) : Int) % 5 == 2) = false := by rw [beq_eq_false_iff_ne]; omega
            have g3 : (((fj : Nat) : Int) % 5 == 3) = false := by rw [beq_eq_false_iff_ne]; omega
            have g4 : (((fj : Nat) : Int) % 5 == 4) = false := by rw [beq_eq_false_iff_ne]; omega
            clear hk hk5 p1 p2
            have hv5 := hV.out.v.kd H5.out.2 kT_int
            have hz5 : w3.heap.size ≤ w5.heap.size := Nat.le_trans hV.out.s H5.out.2.1
            obtain ⟨v2, W, r1, r2, r3⟩ := append1 (S := 61) (E := 3) (zv := .int .i64 0) (by8 := 8) Tryd.underlying61 infoI rfl (by omega) hv5 (iv j) rfl (by rw [List.length_map]; have h9 := List.length_filter_le (fun i => kd n f i == 0) (List.range j); rw [List.length_range] at h9; have := HD.out; omega) hz5
            have HR2 : Hid (Sem.run Tryd.prog (Builtin.append_ #[61, 61] 61 #[v, .slice (some ⟨w5.heap.size, 0, none⟩) 1 1]) (w5.alloc (.cells #[.int .i64 (j : Int)] 3)) = .ok v2 W) := r1
            have HE : Hid (VL W0 w3 W R kq kg k m n f (j + 1) v2) := by
              refine ⟨⟨d + 3, by have := HD.out; omega, ?_⟩, ?_, Nat.le_trans hz5 r3.size⟩
              · have a9 := r3.ar (B := w3.heap.size) HB3.out.size H5.out.1 kT_int HKB.out
                rw [fill_next (F := fun i => stK k m (kd n f i) i) (by rw [hkd]; rfl)] at a9
                rw [show ((d + 3 : Nat) : Int) = (d : Int) + 1 + 1 + 1 by omega]
                exact a9
              · rw [List.range_succ, List.filter_append, List.map_append, List.filter_cons_of_pos (by rw [hkd]; rfl)]
                exact r2
            clear hv5 hz5 r1 r2 r3 hkd
            go_wp2_with (at_builtin; refine wpList_append_ran (by rfl) _ _ 61 (by rfl) _ _ _ _ (by rfl) (by rfl) HR2.out ?_)
            go_wp2
            go_round
            case rel => exact ⟨j + 1, _, by have := HD.out; omega, by go_num, rfl, HE.out⟩
            case measure => simp [intOf]; omega
          · -- 1
            have g1 : (((fj : Nat) : Int) % 5 == 1) = true := by rw [beq_iff_eq]; omega
            have g2 : (((fj : Nat) : Int) % 5 == 2) = false := by rw [beq_eq_false_iff_ne]; omega
            have g3 : (((fj : Nat) : Int) % 5 == 3) = false := by rw [beq_eq_false_iff_ne]; omega
            have g4 : (((fj : Nat) : Int) % 5 == 4) = false := by rw [beq_eq_false_iff_ne]; omega
            have hkd : kd n f j = 1 := by rw [hkd]; exact hk
            have cO := ar_off H5.out.1 HD.out.2.2 true
            rw [up_at, up_up] at cO
            have HV : Hid (VL W0 w3 w4 R kq kg k m n f j v) := hV.out
            clear hk
            go_wp2_with fail
            go_at_call 23
            refine cO.mono ?_
            rintro e w7 ⟨rfl, a7, k7⟩
            have HE : Hid (VL W0 w3 w7 R kq kg k m n f (j + 1) v) := by
              refine ⟨⟨d + 3, by have := HD.out; omega, ?_⟩, ?_, Nat.le_trans (Nat.le_trans hV.out.s H5.out.2.1) k7.1⟩
              · rw [fill_next (F := fun i => stK k m (kd n f i) i) (by rw [hkd]; rfl)] at a7
                rw [show ((d + 3 : Nat) : Int) = (d : Int) + 1 + 1 + 1 by omega]; exact a7
              · rw [List.range_succ, List.filter_append, List.filter_cons_of_neg (by rw [hkd]; decide), List.filter_nil, List.append_nil]
                exact (hV.out.v.kd H5.out.2 kT_int).kd k7 kT_int
            clear cO a7 k7 hkd p1 p2 t0
            go_wp2
            go_round
            case rel => exact ⟨j + 1, _, by have := HD.out; omega, by go_num, rfl, HE.out⟩
            case measure => simp [intOf]; omega
          · -- 2
            have g1 : (((fj : Nat) : Int) % 5 == 1) = false := by rw [beq_eq_false_iff_ne]; omega
            have g2 : (((fj : Nat) : Int) % 5 == 2) = true := by rw [beq_iff_eq]; omega
            have g3 : (((fj : Nat) : Int) % 5 == 3) = false := by rw [beq_eq_false_iff_ne]; omega
            have g4 : (((fj : Nat) : Int) % 5 == 4) = false := by rw [beq_eq_false_iff_ne]; omega
            have hkd : kd n f j = 2 := by rw [hkd]; exact hk
            have cO := ar_wipe H5.out.1 HD.out.2.2
            rw [up_at, up_up] at cO
            have HV : Hid (VL W0 w3 w4 R kq kg k m n f j v) := hV.out
            clear hk
            go_wp2_with fail
            go_at_call 24
            refine cO.mono ?_
            rintro e w7 ⟨rfl, a7, k7⟩
            have HE : Hid (VL W0 w3 w7 R kq kg k m n f (j + 1) v) := by
              refine ⟨⟨d + 3, by have := HD.out; omega, ?_⟩, ?_, Nat.le_trans (Nat.le_trans hV.out.s H5.out.2.1) k7.1⟩
              · rw [fill_next (F := fun i => stK k m (kd n f i) i) (by rw [hkd]; rfl)] at a7
                rw [show ((d + 3 : Nat) : Int) = (d : Int) + 1 + 1 + 1 by omega]; exact a7
              · rw [List.range_succ, List.filter_append, List.filter_cons_of_neg (by rw [hkd]; decide), List.filter_nil, List.append_nil]
                exact (hV.out.v.kd H5.out.2 kT_int).kd k7 kT_int
            clear cO a7 k7 hkd p1 p2 t0
            go_wp2
            go_round
            case rel => exact ⟨j + 1, _, by have := HD.out; omega, by go_num, rfl, HE.out⟩
            case measure => simp [intOf]; omega
          · -- 3
            have g1 : (((fj : Nat) : Int) % 5 == 1) = false := by rw [beq_eq_false_iff_ne]; omega
            have g2 : (((fj : Nat) : Int) % 5 == 2) = false := by rw [beq_eq_false_iff_ne]; omega
            have g3 : (((fj : Nat) : Int) % 5 == 3) = true := by rw [beq_iff_eq]; omega
            have g4 : (((fj : Nat) : Int) % 5 == 4) = false := by rw [beq_eq_false_iff_ne]; omega
            have hkd : kd n f j = 3 := by rw [hkd]; exact hk
            have cO := ar_fail H5.out.1 HD.out.2.2 (n := 1) (by decide) (by decide)
            rw [up_at, up_up] at cO
            have HV : Hid (VL W0 w3 w4 R kq kg k m n f j v) := hV.out
            clear hk
            go_wp2_with fail
            go_at_call 25
            refine cO.mono ?_
            rintro e w7 ⟨rfl, a7, k7⟩
            have HE : Hid (VL W0 w3 w7 R kq kg k m n f (j + 1) v) := by
              refine ⟨⟨d + 3, by have := HD.out; omega, ?_⟩, ?_, Nat.le_trans (Nat.le_trans hV.out.s H5.out.2.1) k7.1⟩
              · rw [fill_next (F := fun i => stK k m (kd n f i) i) (by rw [hkd]; rfl)] at a7
                rw [show ((d + 3 : Nat) : Int) = (d : Int) + 1 + 1 + 1 by omega]; exact a7
              · rw [List.range_succ, List.filter_append, List.filter_cons_of_neg (by rw [hkd]; decide), List.filter_nil, List.append_nil]
                exact (hV.out.v.kd H5.out.2 kT_int).kd k7 kT_int
            clear cO a7 k7 hkd p1 p2 t0
            go_wp2
            go_round
            case rel => exact ⟨j + 1, _, by have := HD.out; omega, by go_num, rfl, HE.out⟩
            case measure => simp [intOf]; omega
          · -- 4
            have g1 : (((fj : Nat) : Int) % 5 == 1) = false := by rw [beq_eq_false_iff_ne]; omega
            have g2 : (((fj : Nat) : Int) % 5 == 2) = false := by rw [beq_eq_false_iff_ne]; omega
            have g3 : (((fj : Nat) : Int) % 5 == 3) = false := by rw [beq_eq_false_iff_ne]; omega
            have g4 : (((fj : Nat) : Int) % 5 == 4) = true := by rw [beq_iff_eq]; omega
            have hkd : kd n f j = 4 := by rw [hkd]; exact hk
            obtain ⟨w6, hw6⟩ : ∃ w6, w5.alloc (.cells #[.int .u8 83, .int .u8 66, .int .u8 70, .int .u8 49] 5 (4, 5)) = w6 := ⟨_, rfl⟩
            have cs : Sem.run Tryd.prog (convert 53 53 (.slice (some ⟨w5.heap.size, 0, none⟩) 4 4)) (w5.alloc (.cells #[.int .u8 83, .int .u8 66, .int .u8 70, .int .u8 49] 5)) = .ok (.slice (some ⟨w5.heap.size, 0, none⟩) 4 4) w6 := by rw [← hw6]; exact Lib.run_convert_bytes_const (P := Tryd.prog) w5 53 5 #[.int .u8 83, .int .u8 66, .int .u8 70, .int .u8 49] 4 4 Tryd.underlying53 Tryd.underlying5
            have b6 : Below w5.heap.size w5 w6 := by rw [← hw6]; exact bal _ _
            have hin : Inp w6 (some ⟨w5.heap.size, 0, none⟩) 4 4 sbf := by rw [← hw6]; exact ⟨⟨_, (lfmt4 w5).1, lfmt4 w5, by rfl⟩, rfl, fun e => by cases e⟩
            have H6 : Hid (Below w5.heap.size w5 w6) := b6
            have cO := ar_wri (H5.out.1.keep b6) HD.out.2.2 (zn_zb (cz_zn (d + 3) (d + 3) (Nat.le_refl _)) (by have := HD.out; omega)) (x := pFmt) (by unfold maxLen; decide) hin (by unfold maxLen; omega)
            rw [up_at, up_up, wri_cz _ [⟨pFmt, fmtB k m j, true⟩] 1000 pFmt sbf rfl (by decide) (by show (((fmtB k m j).size + 0 : Nat) : Int) + _ - (((fmtB k m j).size : Nat) : Int) ≤ 1000; rw [fmtB_sz]; decide) (by show 1 < 4096; decide), cz_tick] at cO
            dsimp only at cO
            change Calls Tryd.prog 18 #[.pointer (some ⟨(R.P j).p, 0, none⟩), .string ⟨#[102, 111, 114, 109, 97, 116]⟩, .slice (some ⟨w5.heap.size, 0, none⟩) 4 4] w6 _ at cO
            have HV : Hid (VL W0 w3 w4 R kq kg k m n f j v) := hV.out
            clear hk b6 hin hw6
            go_wp2_with fail
            go_at_call 18
            refine cO.mono ?_
            rintro e w7 ⟨rfl, a7, k7⟩
            have HE : Hid (VL W0 w3 w7 R kq kg k m n f (j + 1) v) := by
              refine ⟨⟨d + 4, by have := HD.out; omega, ?_⟩, ?_, Nat.le_trans (Nat.le_trans (Nat.le_trans hV.out.s H5.out.2.1) H6.out.size) k7.1⟩
              · rw [fill_next (F := fun i => stK k m (kd n f i) i) (by rw [hkd]; rfl)] at a7
                rw [show ((d + 4 : Nat) : Int) = (d : Int) + 1 + 1 + 1 + 1 by omega]; exact a7
              · rw [List.range_succ, List.filter_append, List.filter_cons_of_neg (by rw [hkd]; decide), List.filter_nil, List.append_nil]
                exact ((hV.out.v.kd H5.out.2 kT_int).keep H6.out).kd k7 kT_int
            clear cO a7 k7 hkd p1 p2 t0
            go_wp2
            go_round
            case rel => exact ⟨j + 1, _, by have := HD.out; omega, by go_num, rfl, HE.out⟩
            case measure => simp [intOf]; omega
        · have hkd : kd n f j = 0 := by unfold kd; rw [if_neg hjn]
          have jn : decide ((j : Int) < (n : Int)) = false := decide_eq_false (by omega)
          have jn2 : decide (j < n) = false := decide_eq_false hjn
          clear hjn p1 p2
          have hv5 := hV.out.v.kd H5.out.2 kT_int
          have hz5 : w3.heap.size ≤ w5.heap.size := Nat.le_trans hV.out.s H5.out.2.1
          obtain ⟨v2, W, r1, r2, r3⟩ := append1 (S := 61) (E := 3) (zv := .int .i64 0) (by8 := 8) Tryd.underlying61 infoI rfl (by omega) hv5 (iv j) rfl (by rw [List.length_map]; have h9 := List.length_filter_le (fun i => kd n f i == 0) (List.range j); rw [List.length_range] at h9; have := HD.out; omega) hz5
          have HR2 : Hid (Sem.run Tryd.prog (Builtin.append_ #[61, 61] 61 #[v, .slice (some ⟨w5.heap.size, 0, none⟩) 1 1]) (w5.alloc (.cells #[.int .i64 (j : Int)] 3)) = .ok v2 W) := r1
          have HE : Hid (VL W0 w3 W R kq kg k m n f (j + 1) v2) := by
            refine ⟨⟨d + 3, by have := HD.out; omega, ?_⟩, ?_, Nat.le_trans hz5 r3.size⟩
            · have a9 := r3.ar (B := w3.heap.size) HB3.out.size H5.out.1 kT_int HKB.out
              rw [fill_next (F := fun i => stK k m (kd n f i) i) (by rw [hkd]; rfl)] at a9
              rw [show ((d + 3 : Nat) : Int) = (d : Int) + 1 + 1 + 1 by omega]
              exact a9
            · rw [List.range_succ, List.filter_append, List.map_append, List.filter_cons_of_pos (by rw [hkd]; rfl)]
              exact r2
          clear hv5 hz5 r1 r2 r3 hkd
          go_wp2_with (at_builtin; refine wpList_append_ran (by rfl) _ _ 61 (by rfl) _ _ _ _ (by rfl) (by rfl) HR2.out ?_)
          go_wp2
          go_round
          case rel => exact ⟨j + 1, _, by have := HD.out; omega, by go_num, rfl, HE.out⟩
          case measure => simp [intOf]; omega
      · have hjn : j = N := by omega
        subst hjn
        have ij : decide ((j : Int) < (j : Int)) = false := by simp
        clear hlt
        have hv := hV.out.v
        have hsz := hV.out.s
        have eqS : (fun i => if i < j then stK k m (kd n f i) i else s1 [] 1000) = (fun i => if i < j then stK k m (kd n f i) i else s1 [] 1000) := rfl
        have cV := voices_any hA HT.out HP.out.1 (j0 := 4 * j) (cz_zn d (4 * j) hd) (by omega)
        have hvo := vcs_gen (k := k) (m := m) (n := j) (d0 := (d : Int)) (S := fun i => if i < j then stK k m (kd n f i) i else s1 [] 1000) (N := fun i => stN k m (kd n f i) i) (V := fun i => kd n f i == 0) (fun i hi d' => by
          have h9 := stK_voice k m (kd n f i) i (kd_lt n f i) d'
          rw [if_pos hi]
          exact h9) j (Nat.le_refl _)
        rw [HNN.out, hvo] at cV
        rw [show (fun i => if i < j then stN k m (kd n f i) i else if i < j then stK k m (kd n f i) i else s1 [] 1000) = (fun i => if i < j then stN k m (kd n f i) i else s1 [] 1000) from funext fun i => by by_cases hi : i < j <;> simp [hi]] at cV
        have HV1 : Hid (VOwn 3 wr w3.heap.size v (((List.range j).filter fun i => kd n f i == 0).map iv) ∧ w3.heap.size ≤ wr.heap.size) := ⟨hv, hsz⟩
        clear hvo eqS hv hsz hA hV
        go_wp2_with fail
        go_at_call 15
        refine cN.mono ?_
        rintro e w4 ⟨rfl, rfl⟩
        clear cN
        go_wp2_with fail
        go_at_call 22
        refine cV.mono ?_
        rintro e w4 ⟨gv, rfl, og, a4, k4⟩
        have HV2 : Hid (VOwn 3 w4 w3.heap.size v (((List.range j).filter fun i => kd n f i == 0).map iv) ∧ w3.heap.size ≤ w4.heap.size) := ⟨HV1.out.1.kd k4 kT_int, Nat.le_trans HV1.out.2 k4.1⟩
        have HG : Hid (VOwn 3 w4 0 gv (((List.range j).filter fun i => kd n f i == 0).map iv)) := og.mono (Nat.zero_le _)
        have HKB4 : Hid (∀ k' o, R.K k' = some o → k' < w4.heap.size) := fun k' o e => a4.kb k' o e
        have HZ4 : Hid (W0.heap.size ≤ w4.heap.size) := a4.b.size
        obtain ⟨dj, hdj⟩ : ∃ dj : Int, (d : Int) + (j : Int) = dj := ⟨_, rfl⟩
        rw [hdj] at a4
        have HDJ : Hid (∃ dn : Nat, dn ≤ 200 ∧ dj = (dn : Int)) := ⟨d + j, by omega, by omega⟩
        have HL0 : Hid (VL2 W0 w4 w4 R kq kg k m n f j dj 0 (.slice none 0 0)) := ⟨a4, VOwn.start _ _ _, Nat.le_refl _, fun _ _ h => h⟩
        clear cV og a4 k4 HV1 p0 hd hdj
        go_wp2_with fail
        go_loopw [10, 11] (fun vv ii ws => ∃ (i : Nat) (v : Value), i ≤ j ∧ ii = .int .i64 i ∧ v = vv ∧ Hid (VL2 W0 w4 ws R kq kg k m n f j dj i v)) (fun _ ii _ => j - (intOf ii).toNat)
        case atStart => exact ⟨0, _, Nat.zero_le _, rfl, rfl, HL0.out⟩
        case round =>
          obtain ⟨i, v2', hi, rfl, rfl, HL⟩ := hrel
          have p0 := Ps.arr HL.out.ar HP.out.2.1
          have cN := an_any (HL.out.ar.ax HP.out.1)
          rw [HNN.out] at cN
          by_cases hlt : i < j
          · have ij : (i : Int) < (j : Int) := by omega
            go_wp2_with fail
            go_at_call 15
            refine cN.mono ?_
            rintro e ws ⟨rfl, rfl⟩
            clear cN p0
            by_cases hin : i < n
            · obtain ⟨rb, ro, rfl, hcell⟩ := HROW.out.lies (by omega)
              have t0 := ((HL.out.ar.b).cell (p := ⟨rb, ro + i, none⟩) (block_lt_of_cell (hcell i hin))).trans (hcell i hin)
              have jn : (i : Int) < (n : Int) := by omega
              have jn2 : decide ((i : Int) < (n : Int)) = true := decide_eq_true jn
              obtain ⟨fj, hfj⟩ : ∃ fj, f i = fj := ⟨_, rfl⟩
              rw [hfj] at t0
              have hkd : kd n f i = fj % 5 := by unfold kd; rw [if_pos hin, hfj]
              clear hcell hin
              by_cases hk0 : fj % 5 = 0
              · have g0 : (((fj : Nat) : Int) % 5 == 0) = true := by rw [beq_iff_eq]; omega
                have hkk : (kd n f i == 0 || kd n f i == 3) = true := by rw [hkd, hk0]; rfl
                obtain ⟨v2, W, r1, r2⟩ := HL.out.next HZ4.out HKB4.out (by omega) hkk
                have HR2 : Hid (Sem.run Tryd.prog (Builtin.append_ #[61, 61] 61 #[v2', .slice (some ⟨ws.heap.size, 0, none⟩) 1 1]) (ws.alloc (.cells #[.int .i64 (i : Int)] 3)) = .ok v2 W) := r1
                have HE : Hid (VL2 W0 w4 W R kq kg k m n f j dj (i + 1) v2) := r2
                clear r1 r2 hkk hk0 hkd
                go_wp2_with (at_builtin; refine wpList_append_ran (by rfl) _ _ 61 (by rfl) _ _ _ _ (by rfl) (by rfl) HR2.out ?_)
                go_wp2
                go_round
                case rel => exact ⟨i + 1, _, by omega, by go_num, rfl, HE.out⟩
                case measure => simp [intOf]; omega
              · have g0 : (((fj : Nat) : Int) % 5 == 0) = false := by rw [beq_eq_false_iff_ne]; omega
                by_cases hk3 : fj % 5 = 3
                · have g3 : (((fj : Nat) : Int) % 5 == 3) = true := by rw [beq_iff_eq]; omega
                  have hkk : (kd n f i == 0 || kd n f i == 3) = true := by rw [hkd, hk3]; rfl
                  obtain ⟨v2, W, r1, r2⟩ := HL.out.next HZ4.out HKB4.out (by omega) hkk
                  have HR2 : Hid (Sem.run Tryd.prog (Builtin.append_ #[61, 61] 61 #[v2', .slice (some ⟨ws.heap.size, 0, none⟩) 1 1]) (ws.alloc (.cells #[.int .i64 (i : Int)] 3)) = .ok v2 W) := r1
                  have HE : Hid (VL2 W0 w4 W R kq kg k m n f j dj (i + 1) v2) := r2
                  clear r1 r2 hkk hk0 hk3 hkd
                  go_wp2_with (at_builtin; refine wpList_append_ran (by rfl) _ _ 61 (by rfl) _ _ _ _ (by rfl) (by rfl) HR2.out ?_)
                  go_wp2
                  go_round
                  case rel => exact ⟨i + 1, _, by omega, by go_num, rfl, HE.out⟩
                  case measure => simp [intOf]; omega
                · have g3 : (((fj : Nat) : Int) % 5 == 3) = false := by rw [beq_eq_false_iff_ne]; omega
                  have hkk : (kd n f i == 0 || kd n f i == 3) = false := by rw [hkd, beq_eq_false_iff_ne.2 hk0, beq_eq_false_iff_ne.2 hk3]; rfl
                  have HE : Hid (VL2 W0 w4 ws R kq kg k m n f j dj (i + 1) v2') := HL.out.skip hkk
                  clear hkk hk0 hk3 hkd
                  go_wp2
                  all_goals first | omega | exact ⟨⟨i + 1, _, by omega, by go_num, rfl, HE.out⟩, by simp [intOf]; omega⟩
            · have hkk : (kd n f i == 0 || kd n f i == 3) = true := by unfold kd; rw [if_neg hin]; rfl
              have jn : decide ((i : Int) < (n : Int)) = false := decide_eq_false (by omega)
              have jn2 : decide (i < n) = false := decide_eq_false hin
              have jn3 : decide ((n : Int) ≤ (i : Int)) = true := decide_eq_true (by omega)
              have jn4 : n ≤ i := by omega
              have jn5 : decide (n ≤ i) = true := decide_eq_true jn4
              obtain ⟨v2, W, r1, r2⟩ := HL.out.next HZ4.out HKB4.out (by omega) hkk
              have HR2 : Hid (Sem.run Tryd.prog (Builtin.append_ #[61, 61] 61 #[v2', .slice (some ⟨ws.heap.size, 0, none⟩) 1 1]) (ws.alloc (.cells #[.int .i64 (i : Int)] 3)) = .ok v2 W) := r1
              have HE : Hid (VL2 W0 w4 W R kq kg k m n f j dj (i + 1) v2) := r2
              clear r1 r2 hkk hin
              go_wp2_with (at_builtin; refine wpList_append_ran (by rfl) _ _ 61 (by rfl) _ _ _ _ (by rfl) (by rfl) HR2.out ?_)
              go_wp2
              go_round
              case rel => exact ⟨i + 1, _, by omega, by go_num, rfl, HE.out⟩
              case measure => simp [intOf]; omega
          · have hij : i = j := by omega
            subst hij
            have ij : decide ((i : Int) < (i : Int)) = false := by simp
            clear hlt
            have hL := HL.out
            have hlen : ((List.range i).filter fun l => kd n f l == 0).length ≤ 1000 := by have h9 := List.length_filter_le (fun l => kd n f l == 0) (List.range i); rw [List.length_range] at h9; omega
            have hlen2 : ((List.range i).filter fun l => kd n f l == 0 || kd n f l == 3).length ≤ 1000 := by have h9 := List.length_filter_le (fun l => kd n f l == 0 || kd n f l == 3) (List.range i); rw [List.length_range] at h9; omega
            have cI := ints_same (vown_kp HG.out HL.out.kp) (vown_kp HV2.out.1 HL.out.kp) hlen
            have HLE : Hid (((List.range i).filter fun l => kd n f l == 0 || kd n f l == 3).length ≤ 1000 ∧ i < 100) := ⟨hlen2, by omega⟩
            clear hlen hlen2
            go_wp2_with fail
            go_at_call 15
            refine cN.mono ?_
            rintro e ws ⟨rfl, rfl⟩
            clear cN
            go_wp2_with fail
            go_at_call 26
            refine cI.mono ?_
            rintro e w5 ⟨rfl, n5, hw5⟩
            have a5 := HL.out.ar.keep (bdn' _ n5)
            have v5 := HL.out.v.keep (bdn' _ n5)
            rw [← hw5] at a5 v5
            obtain ⟨dn, hdn, rfl⟩ := HDJ.out
            have p5 := Ps.arr a5 HP.out.2.1
            have cV := voices_any a5 HT.out HP.out.1 (j0 := 200) (cz_zn dn 200 hdn) (by omega)
            have hvo := vcs_gen (k := k) (m := m) (n := i) (d0 := (dn : Int)) (S := fun l => if l < i then stN k m (kd n f l) l else s1 [] 1000) (N := fun l => stN k m (kd n f l) l) (V := fun l => kd n f l == 0 || kd n f l == 3) (fun l hl d' => by
              have h9 := stN_voice k m (kd n f l) l (kd_lt n f l) d'
              rw [if_pos hl]
              exact h9) i (Nat.le_refl _)
            rw [HNN.out, hvo] at cV
            have V5 : Hid (VOwn 3 w5 w4.heap.size v2' (((List.range i).filter fun l => kd n f l == 0 || kd n f l == 3).map iv)) := v5
            clear cI hw5 hvo a5 v5 p0
            go_wp2_with fail
            go_at_call 22
            refine cV.mono ?_
            rintro e w6 ⟨gv6, rfl, o6, a6, k6⟩
            have cI := ints_same o6 (V5.out.kd k6 kT_int) HLE.out.1
            have HB : Hid (Below W0.heap.size W0 w6) := a6.b
            clear cV o6 a6 k6 p5
            go_wp2_with fail
            go_at_call 26
            refine cI.mono ?_
            rintro e w7 ⟨rfl, n7, rfl⟩
            go_wp2
            go_ret
            exact ⟨rfl, HB.out.trans ((bdn' _ _).mono HB.out.size)⟩
  · have HB3 : Hid (Below W0.heap.size W0 w3) := HB2.out.trans (b3.mono HB2.out.size)
    clear b3 hno
    go_wp2
    go_ret
    exact ⟨rfl, HB3.out⟩


set_option maxRecDepth 100000 in
theorem lifted (os : Os) (started : os.Started) (H : Type) (enc : TypeId × Value → H) :
    ReturnsInHanded {} Tryd.checked os 6 .any (fun w args => (Rows.arrayVoicesSpec.pre enc Tryd.prog Tryd.f6 [] false w args ∧ laidMetH Tryd.prog laidAll w) ∧ sizedMet enc Tryd.prog Tryd.f6 (OpenSpec.ofChange Rows.arrayVoicesSpec) false w args) (Rows.arrayVoicesSpec.post enc Tryd.prog Tryd.f6 false true false false) := by
  refine returnsInHanded_of_change_and (C := Tryd.checked) (X := fun w _ => laidMetH Tryd.prog laidAll w) (fun _ _ _ hh h => h.of_heap hh) own started (by kernel_rfl) Tryd.func6
    (ChangeSpec.witness_shaped (enc := enc) (C := Tryd.checked) (os := os) (X := fun w _ => laidMetH Tryd.prog laidAll w) false (World.doorLaid Tryd.prog 400 os) #[.agg #[.int .i64 0, .int .i64 0, .int .i64 0], .slice none 0 0] 8 rfl (World.shaped_of_RefB (by kernel_rfl) (by kernel_rfl)) (by kernel_rfl) (by kernel_rfl) (by kernel_rfl) (door_met os _)) ?_
  intro W base args ds gs before hval0 hW _ hsz0 hL _
  have hval : ∀ (j : Nat) t v, Tryd.f6.params[j]? = some t → args[j]? = some v → Value.okWide Tryd.prog W .any base t v := hval0
  have hW' := hW
  obtain ⟨p, q, hA0, hV, rfl, hfz, hnd⟩ := hW
  have hA : DataW.TrodAll enc Tryd.prog W 0 (fun _ => true) true Tryd.f6.params.toList args.toList ds p := hA0
  rw [Tryd.params6] at hA hval
  have T := halfT_of hL
  obtain ⟨v0, vs0, d0, ds0, p0, q0, hargs, rfl, rfl, h0, r0⟩ := trodAll_cons hA
  obtain ⟨v1, vs1, d1, ds1, p1, q1, rfl, rfl, rfl, h1, r1⟩ := trodAll_cons r0
  obtain ⟨rfl, rfl, rfl⟩ := trodAll_nil r1
  obtain rfl : args = #[v0, v1] := by cases args; simp_all
  obtain ⟨rfl, rfl⟩ := trodVars_none hV
  have k0 := h0
  have lt0 : ∀ x ∈ p0, x.block < W.heap.size := by obtain ⟨m, hm⟩ := k0; exact DataW.trod_lt m _ _ _ hm
  obtain ⟨K0, M0, B0, e0, rfl⟩ := open_shape (hval 0 24 v0 rfl rfl) h0
  obtain ⟨a1, len1, cap1, rfl⟩ := okWide_slice Tryd.underlying53 (hval 1 53 v1 rfl rfl)
  have k1 := h1
  have lt1 : ∀ x ∈ p1, x.block < W.heap.size := by obtain ⟨m, hm⟩ := k1; exact DataW.trod_lt m _ _ _ hm
  obtain ⟨f1, m1, z1, e1, c1⟩ := open_row h1
  clear hA0 hval0 hsz0 hL
  refine (core K0 M0 B0 a1 len1 cap1 f1 W T e0 m1 z1 e1 c1).mono fun e W' ⟨he, bel⟩ => ?_
  subst he
  exact ⟨_, rfl, _, _, _, [], _, [], hW', trodAll_mk1 (shut_bool Tryd.underlying4 _), (trodAll_cons_mk (Below.trod laidOut (by kernel_rfl) (of_decide_eq_true (by kernel_rfl)) k0 bel lt0) (trodAll_cons_mk (Below.trod laidOut (by kernel_rfl) (of_decide_eq_true (by kernel_rfl)) k1 bel lt1) trodAll_mk0)), rfl, bel.frame _, fun h => by cases h⟩

theorem over : Rows.arrayVoicesRow.holds Tryd.pinned (OpenSpec.ofChange Rows.arrayVoicesSpec) :=
  OpenClaim.holds_of_wide 6 Tryd.f6 rfl rfl rfl rfl rfl rfl rfl ⟨rfl, rfl, rfl, rfl, rfl⟩ rfl rfl rfl rfl rfl (by kernel_rfl) Tryd.func6 (by kernel_rfl)
    (of_decide_eq_true (by kernel_rfl)) (by unfold Func.isWrapper; first | (rw [if_pos (by decide +kernel)]; kernel_rfl) | (rw [if_neg (by decide +kernel)]; exact ⟨rfl, rfl⟩))
    (fun os started H enc _ => lifted os started H enc)

end arrayVoices

/-- The statement. -/
theorem arrayVoices_holds : Rows.ArrayVoicesCardSaid :=
  Claim7.holds_tied_plain_at .later [] [.data] true (true, "1030a19dec020d70f9d3e07f477f037649f156ed148aaf108150bb6ba0b72429") true
    arrayVoices.over (fun _ h => by cases h) (by kernel_rfl) (fun _ h => by cases h) arrayVoices_row_tie rfl ⟨rfl, rfl⟩ (by kernel_rfl) rfl
    (fun f fn hf hfn => by
      obtain rfl : f = 6 := Option.some.inj ((show Tryd.prog.funcNamed "strongbox/strongboxlaw12.ArrayVoices" = some 6 by kernel_rfl).symm.trans hf) |>.symm
      obtain rfl : fn = Tryd.f6 := (Option.some.inj (Tryd.func6.symm.trans hfn)).symm
      exact ⟨by kernel_rfl, fun j t ht => by
        rw [Tryd.params6] at ht
        have hm : t ∈ [24, 53] := by simpa using Array.mem_of_getElem? ht
        have hall : ([24, 53].all fun u => !Tryd.prog.wantsStandIn u) = true := by kernel_rfl
        exact (show Tryd.prog.wantsStandIn t = false by simpa using List.all_eq_true.1 hall t hm)⟩)
    (by kernel_rfl)
#print axioms arrayVoices_holds
end Go.Proofs.YtebngmgdciahiaaDoor
