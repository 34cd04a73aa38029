/-
  The law ArrayPlays of layer 12 (P12.1, P12.2: whatever befalls the disks, whatever is saved, formatted, asked: each answer, each file of each disk, each operation) answers true for all shapes, all numbers and all rows of hits, where crc's table is as the program's text lays it.
-/
import Derived.Test.YtebngmgdciahiaaGreatDoorRows
import Derived.WalkKit
import Derived.ProofKit
import Derived.OpenShut
import Derived.ShutString
import Derived.ChangeOld
import Derived.Below
import Derived.SizedLaws
import Derived.LaidMore
import Derived.Stop.Joined
import Derived.SevenTiedAt
import Derived.Test.YtebngmgdciahiaaGreatDoorCards
import Derived.Test.YtebngmgdciahiaaGreatDoorTie
import Derived.Test.YtebngmgdciahiaaGreatDoorArYt
set_option maxRecDepth 100000
namespace Go.Proofs.YtebngmgdciahiaaGreatDoor
namespace arrayPlays
open Go.ChangeShapes Go.WideShapes Go.ChangeAt Go.RowKit Crc
open _root_.Go.Proofs.YtebngmgdciahiaaGreatDoor.Nm _root_.Go.Proofs.YtebngmgdciahiaaGreatDoor.Dk
set_option linter.unusedVariables false
attribute [local go_sem ↓] Go.wp_at_zero Go.wp_at_succ

theorem own : ownKnob Tryz.prog.godebug = none := by kernel_rfl
theorem laidOut : laidOutB Tryz.prog = true := by kernel_rfl

theorem kT_shape : kT 23 := ⟨by decide, by decide, by decide, by decide, by decide, by decide⟩
theorem HIDK {p : Prop} (h : p) : Hid p := h
/-- A hit's deed as a row of one's own has it. -/
def hq (h : Ht) : Dqv := toq h.e
set_option maxHeartbeats 2000000 in
theorem rquorum_any (w : World) (k m bl : Nat) (hk : 1 ≤ k ∧ k ≤ 12 ∧ 1 ≤ m ∧ m ≤ 12) :
    Calls Tryz.prog 20 #[.agg #[.int .i64 (k : Int), .int .i64 (m : Int), .int .i64 (bl : Int)]] w fun e w' => e = .returned (.int .i64 ((quo k m : Nat) : Int)) ∧ Below w.heap.size w w' := by
  obtain ⟨w1, hw1⟩ : ∃ w1, w.alloc (.cells #[.int .i64 (k : Int), .int .i64 (m : Int), .int .i64 (bl : Int)] 23) = w1 := ⟨_, rfl⟩
  have b1 : Below w.heap.size w w1 := by rw [← hw1]; exact bal _ _
  have hs : w1.heap[w.heap.size]? = some (.cells #[.int .i64 (k : Int), .int .i64 (m : Int), .int .i64 (bl : Int)] 23 (0, 0)) := by rw [← hw1]; exact heap_alloc_new _ _
  have c0 := cell_of_row w1 w.heap.size 0 _ _ _ hs
  have c1 := cell_of_row w1 w.heap.size 1 _ _ _ hs
  simp only [List.getElem?_toArray, List.getElem?_cons_zero, List.getElem?_cons_succ] at c0 c1
  obtain ⟨n, hN⟩ : ∃ n, k + m = n := ⟨_, rfl⟩
  have hq : quo k m = max k (n / 2 + 1) := by unfold quo; rw [hN]
  have wz : IntKind.i64.wrap ((k : Int) + (m : Int)) = (n : Int) := by rw [IntKind.wrap_i64]; omega
  have v1 : Int.tdiv (n : Int) 2 = ((n / 2 : Nat) : Int) := by rw [Int.tdiv_eq_ediv_of_nonneg (by omega)]; omega
  have v2 : IntKind.i64.wrap (((n / 2 : Nat) : Int) + 1) = ((n / 2 + 1 : Nat) : Int) := by rw [IntKind.wrap_i64]; omega
  obtain ⟨Q, hQ⟩ : ∃ Q, quo k m = Q := ⟨_, rfl⟩
  have HQ : Hid ((max k (n / 2 + 1) : Nat) = Q) := by unfold Hid; rw [← hq]; exact hQ
  rw [hQ]
  obtain ⟨hf, hhf⟩ : ∃ hf, n / 2 = hf := ⟨_, rfl⟩
  rw [hhf] at v1 v2 HQ
  have bh : (hf : Int) ≤ 255 := by omega
  have bk : (k : Int) ≤ 12 := by omega
  have bm : (m : Int) ≤ 12 := by omega
  have HW : Hid (w.alloc (.cells #[.int .i64 (k : Int), .int .i64 (m : Int), .int .i64 (bl : Int)] 23) = w1 ∧ Below w.heap.size w w1) := ⟨hw1, b1⟩
  clear b1 hs hN hq hQ hhf hk
  go_enter Tryz.func20, Tryz.ntmps20
  go_wp2
  all_goals
    go_ret
    first
    | (refine ⟨?_, HW.out.2⟩; show Ending.returned (.int .i64 (max (k : Int) ((hf : Int) + 1))) = _; rw [show max (k : Int) ((hf : Int) + 1) = (Q : Int) by have := HQ.out; omega])
    | (refine ⟨?_, HW.out.2⟩; show Ending.returned (.int .i64 ((hf : Int) + 1)) = _; rw [show (hf : Int) + 1 = (Q : Int) by have := HQ.out; omega])
    | (refine ⟨?_, HW.out.2⟩; show Ending.returned (.int .i64 (k : Int)) = _; rw [show (k : Int) = (Q : Int) by have := HQ.out; omega])
set_option maxHeartbeats 8000000 in
theorem core (K M B mo : Int) (a : Option Addr) (c : Nat) (L : List Ht) (W0 : World) (T : HalfT W0) (hI : I64 K ∧ I64 M ∧ I64 B) (hm0 : -9223372036854775808 ≤ mo) (hm1 : mo ≤ 9223372036854775807) (hh : Hts W0 a L) (hz : a = none → L.length = 0 ∧ c = 0) (hl : L.length ≤ maxLen) (hg : ∀ i, i < L.length → Hok L[i]!) :
    Calls Tryz.prog 3 #[.agg #[.int .i64 K, .int .i64 M, .int .i64 B], .int .i64 mo, .slice a L.length c] W0 fun e w' => e = .returned (.bool true) ∧ Below W0.heap.size W0 w' := by
  obtain ⟨w1, hw1⟩ : ∃ w1, W0.alloc (.cells #[.int .i64 K, .int .i64 M, .int .i64 B] 23) = w1 := ⟨_, rfl⟩
  have b1 : Below W0.heap.size W0 w1 := by rw [← hw1]; exact bal _ _
  have hs : w1.heap[W0.heap.size]? = some (.cells #[.int .i64 K, .int .i64 M, .int .i64 B] 23 (0, 0)) := by rw [← hw1]; exact heap_alloc_new _ _
  have cA := awake12 W0 w1 b1 T
  obtain ⟨sb, hsb⟩ : ∃ sb, W0.heap.size = sb := ⟨_, rfl⟩
  have HW1 : Hid (W0.alloc (.cells #[.int .i64 K, .int .i64 M, .int .i64 B] 23) = w1) := hw1
  rw [hsb] at hs
  have HS : Hid (w1.heap[sb]? = some (.cells #[.int .i64 K, .int .i64 M, .int .i64 B] 23 (0, 0)) ∧ Below W0.heap.size W0 w1 ∧ W0.heap.size = sb) := ⟨hs, b1, hsb⟩
  have HT : Hid (HalfT W0) := T
  obtain ⟨len, hlen⟩ : ∃ len, L.length = len := ⟨_, rfl⟩
  have HH : Hid (Hts W0 a L ∧ (∀ i, i < len → Hok L[i]!) ∧ L.length = len ∧ I64 K ∧ I64 M ∧ I64 B) := ⟨hh, by rw [← hlen]; exact hg, hlen, hI⟩
  rw [hlen]
  clear hw1 b1 hs T hsb hh hz hl hg hlen
  go_enter Tryz.func3, Tryz.ntmps3
  go_wp2_with fail
  rw [HW1.out, HS.out.2.2]
  go_at_call 5
  refine cA.mono ?_
  rintro e w2 ⟨rfl, b2⟩
  clear cA
  have h2 := (b2.block sb (Array.getElem?_eq_some_iff.1 HS.out.1).1).trans HS.out.1
  have HB2 : Hid (Below W0.heap.size W0 w2 ∧ w2.heap[sb]? = some (.cells #[.int .i64 K, .int .i64 M, .int .i64 B] 23 (0, 0))) := ⟨HS.out.2.1.trans (b2.mono HS.out.2.1.size), h2⟩
  clear b2 h2
  by_cases h60 : 60 < len
  · have g1 : decide ((60 : Int) < (len : Int)) = true := decide_eq_true (by omega)
    have g2 : decide (60 < len) = true := decide_eq_true h60
    clear h60
    go_wp2
    go_ret
    exact ⟨rfl, HB2.out.1⟩
  have g1 : decide ((60 : Int) < (len : Int)) = false := decide_eq_false (by omega)
  have g2 : decide (60 < len) = false := decide_eq_false h60
  have HLE : Hid (len ≤ 60) := by show len ≤ 60; omega
  have hl60 : (len : Int) ≤ 60 := by omega
  clear h60
  have HV0 : Hid (DqOwn w2 w2.heap.size (.slice none 0 0) ((L.take 0).map hq) ∧ Below w2.heap.size w2 w2) := ⟨DqOwn.start _ _, Below.refl _ _⟩
  go_wp2_with fail
  go_loopw [7, 8] (fun vv ii wr => ∃ (j : Nat) (v : Value), j ≤ len ∧ ii = .int .i64 j ∧ v = vv ∧ Hid (DqOwn wr w2.heap.size v ((L.take j).map hq) ∧ Below w2.heap.size w2 wr)) (fun _ ii _ => len - (intOf ii).toNat)
  case atStart => exact ⟨0, _, Nat.zero_le _, rfl, rfl, HV0.out⟩
  case round =>
    obtain ⟨j, v, hj, rfl, rfl, hV⟩ := hrel
    by_cases hlt : j < len
    · have ij : (j : Int) < (len : Int) := by omega
      obtain ⟨hb, ho, rfl, hat⟩ := HH.out.1 (by rw [HH.out.2.2.1]; omega)
      have hB : Below W0.heap.size W0 wr := HB2.out.1.trans (hV.out.2.mono HB2.out.1.size)
      have hj2 := (hat j (by rw [HH.out.2.2.1]; exact hlt)).keep hB
      obtain ⟨e, he⟩ : ∃ e, L[j]! = e := ⟨_, rfl⟩
      rw [he] at hj2
      have t0 := hj2.d.c0
      have t1 := hj2.d.c1
      have t2 := hj2.d.c2
      have t3 := hj2.d.c3
      have t4 := hj2.d.c4
      obtain ⟨v2, W, r1, r2, r3, r4⟩ := appendDq (c := 1) (hV.out.1.keep (bal wr _)) (litDq wr (hq e)) (fun x => by cases x) (by have h9 := List.length_take_le j L; rw [List.length_map]; have := HLE.out; have := HH.out.2.2.1; simp only [List.length_singleton]; omega) (Nat.le_trans hV.out.2.size (bal wr (.cells #[.int .i64 (hq e).d, .int .i64 (hq e).n, .string (hq e).a, .string (hq e).b, .slice (hq e).v.1 (hq e).v.2.1 (hq e).v.2.2] 29)).size)
      have HR : Hid (Sem.run Tryz.prog (Builtin.append_ #[26, 26] 26 #[v, .slice (some ⟨wr.heap.size, 0, none⟩) 1 1]) (wr.alloc (.cells #[.int .i64 e.e.d, .int .i64 e.e.n, .string e.e.a, .string e.e.b, .slice e.e.v.1 e.e.v.2.1 e.e.v.2.2] 29)) = .ok v2 W) := r1
      have HE : Hid (DqOwn W w2.heap.size v2 ((L.take (j + 1)).map hq) ∧ Below w2.heap.size w2 W) := by
        refine ⟨?_, (hV.out.2.trans ((bal wr _).mono hV.out.2.size)).trans r4⟩
        have e9 : (L.take (j + 1)).map hq = (L.take j).map hq ++ [hq e] := by
          rw [List.take_succ_eq_append_getElem (by rw [HH.out.2.2.1]; exact hlt), List.map_append, ← he, getElem!_pos L j (by rw [HH.out.2.2.1]; exact hlt)]
          rfl
        rw [e9]; exact r2
      have HJ : Hid (j < len) := hlt
      clear hat hj2 he r1 r2 r3 r4 hB hlt hV
      go_wp2_with (at_builtin; refine wpList_append_ran (by rfl) _ _ 26 (by rfl) _ _ _ _ (by rfl) (by rfl) HR.out ?_)
      go_wp2
      go_round
      case rel => exact ⟨j + 1, _, HJ.out, by go_num, rfl, HE.out⟩
      case measure => simp [intOf]; omega
    · have hjn : j = len := by omega
      subst hjn
      have ij : decide ((j : Int) < (j : Int)) = false := by simp
      have HV : Hid (DqOwn wr w2.heap.size v (L.map hq) ∧ Below W0.heap.size W0 wr ∧ wr.heap[sb]? = some (.cells #[.int .i64 K, .int .i64 M, .int .i64 B] 23 (0, 0))) := by
        have h9 := hV.out.1
        rw [List.take_of_length_le (by rw [HH.out.2.2.1]; exact Nat.le_refl _)] at h9
        exact ⟨h9, HB2.out.1.trans (hV.out.2.mono HB2.out.1.size), (hV.out.2.block sb (Array.getElem?_eq_some_iff.1 HB2.out.2).1).trans HB2.out.2⟩
      have c0 := cell_of_row wr sb 0 _ _ _ HV.out.2.2
      have c1 := cell_of_row wr sb 1 _ _ _ HV.out.2.2
      have c2 := cell_of_row wr sb 2 _ _ _ HV.out.2.2
      simp only [List.getElem?_toArray, List.getElem?_cons_zero, List.getElem?_cons_succ] at c0 c1 c2
      clear hV hlt HV0
      by_cases hr : K < 1 ∨ M < 1 ∨ 12 < K ∨ 12 < M
      · have cM := make_none wr K M B mo hr
        clear hr hI
        go_wp2_with fail
        go_at_call 6
        refine cM.mono ?_
        rintro e w3 ⟨rfl, b3⟩
        have HB3 : Hid (Below W0.heap.size W0 w3) := HV.out.2.1.trans (b3.mono HV.out.2.1.size)
        clear cM b3 c0 c1 c2
        go_wp2
        go_ret
        exact ⟨rfl, HB3.out⟩
      obtain ⟨k, rfl⟩ : ∃ k : Nat, K = (k : Int) := ⟨K.toNat, by omega⟩
      obtain ⟨m, rfl⟩ : ∃ m : Nat, M = (m : Int) := ⟨M.toNat, by omega⟩
      have hr2 : 1 ≤ k ∧ k ≤ 12 ∧ 1 ≤ m ∧ m ≤ 12 := by omega
      have cM := make_any W0 wr HV.out.2.1 k m B mo hr2.1 hr2.2.1 hr2.2.2.1 hr2.2.2.2 hI.2.2.1 hI.2.2.2 hm0 hm1
      have HRR : Hid (1 ≤ k ∧ k ≤ 12 ∧ 1 ≤ m ∧ m ≤ 12) := hr2
      clear hr hI hr2
      go_wp2_with fail
      go_at_call 6
      refine cM.mono ?_
      rintro e w3 hE
      clear cM c0 c1 c2
      rcases hE with ⟨bl, pp, rfl, hbl1, hbl2, rfl, hM⟩ | ⟨hno, rfl, b3⟩
      rotate_left
      · have HB3 : Hid (Below W0.heap.size W0 w3) := HV.out.2.1.trans (b3.mono HV.out.2.1.size)
        clear b3 hno
        go_wp2
        go_ret
        exact ⟨rfl, HB3.out⟩
      obtain ⟨R, kq, kg, ab, vb, hA, hs, hv, hp, hb⟩ := hM.out
      obtain ⟨N, hN⟩ : ∃ N, k + m = N := ⟨_, rfl⟩
      obtain ⟨gd, gcap, gv, vcap, hP⟩ := pd_fix W0 hp hv hs.N
      rw [hN] at hP
      have HP : Hid (Pd W0 R pp ab vb kq kg N gd gcap gv vcap ∧ Hs R ab k m bl ∧ Vs R vb k m bl ∧ k + m = N ∧ N ≤ 24) := ⟨hP, hs, hv, hN, by have := HRR.out; omega⟩
      have hSy : Sy W0 w3 R kq kg 0 := ⟨_, z0, hA, ⟨_, rfl, by decide, by decide⟩⟩
      have h3 := (hb.block sb (Array.getElem?_eq_some_iff.1 HV.out.2.2).1).trans HV.out.2.2
      have o3 := HV.out.1.keep hb
      obtain ⟨LD, hLD⟩ : ∃ LD, L.map (fun h => h.e) = LD := ⟨_, rfl⟩
      have hlq : L.map hq = LD.map toq := by rw [← hLD, List.map_map]; rfl
      have hlen : LD.length = j := by rw [← hLD, List.length_map]; exact HH.out.2.2.1
      obtain ⟨ra, rc, rfl, hDs⟩ : ∃ ra rc, v = .slice ra LD.length rc ∧ Ds w3 ra LD := by
        have hB3 := hA.b
        have hinp : ∀ i, i < LD.length → Inp w3 LD[i]!.v.1 LD[i]!.v.2.1 LD[i]!.v.2.2 LD[i]!.x := fun i hi => by
          obtain ⟨hb9, ho9, _, hat⟩ := HH.out.1 (by rw [HH.out.2.2.1]; omega)
          have q := ((hat i (by rw [HH.out.2.2.1]; omega)).keep hB3).d.i
          have e9 : LD[i]! = (L[i]!).e := by
            rw [getElem!_pos LD i hi, getElem!_pos L i (by rw [HH.out.2.2.1]; omega)]
            simp only [← hLD, List.getElem_map]
          rw [e9]; exact q
        rw [hlq] at o3
        obtain ⟨ra, rc, e1, e2, _⟩ := o3.row
        rw [List.length_map] at e1
        exact ⟨ra, rc, e1, dqs_ds e2 hinp⟩
      have cRoom := room_any ra rc LD 60 w3 hDs (by rw [hlen]; have := HLE.out; unfold maxLen; omega)
      have HDs : Hid (Ds w3 ra LD) := hDs
      have HSY : Hid (Sy W0 w3 R kq kg 0 ∧ w3.heap[sb]? = some (.cells #[.int .i64 (k : Int), .int .i64 (m : Int), .int .i64 (bl : Int)] 23 (0, 0))) := ⟨hSy, h3⟩
      have HLD : Hid (L.map (fun h => h.e) = LD ∧ LD.length = j) := ⟨hLD, hlen⟩
      have HBB : Hid (Below W0.heap.size W0 w3) := hA.b
      clear hM hA hs hv hp hb hbl1 hbl2 hN hP hSy h3 o3 hLD hlq hlen hDs
      by_cases hroom : roomB LD 60 = false
      · rw [hroom] at cRoom
        clear hroom
        go_wp2_with fail
        go_at_call 7
        refine cRoom.mono ?_
        rintro e w4 ⟨rfl, rfl⟩
        clear cRoom
        go_wp2
        go_ret
        exact ⟨rfl, HBB.out⟩
      have hroom2 : roomB LD 60 = true := by simpa using hroom
      rw [hroom2] at cRoom
      have HRM : Hid (∀ i, i < j → L[i]!.e.a.size ≤ 1000 ∧ L[i]!.e.b.size ≤ 1000 ∧ L[i]!.e.v.2.1 ≤ 5000) := fun i hi => by
        have q := (roomB_out hroom2).2 i (by rw [HLD.out.2]; exact hi)
        have e9 : LD[i]! = (L[i]!).e := by
          rw [getElem!_pos LD i (by rw [HLD.out.2]; exact hi), getElem!_pos L i (by rw [HH.out.2.2.1]; omega)]
          simp only [← HLD.out.1, List.getElem_map]
        rw [e9] at q; exact q
      clear hroom hroom2
      go_wp2_with fail
      go_at_call 7
      refine cRoom.mono ?_
      rintro e w4 ⟨rfl, rfl⟩
      clear cRoom HDs
      have HL0 : Hid (Sy W0 w4 R kq kg (30 * 0) ∧ w4.heap[sb]? = some (.cells #[.int .i64 (k : Int), .int .i64 (m : Int), .int .i64 (bl : Int)] 23 (0, 0))) := HSY.out
      have HJ0 : Hid (j ≤ 60) := HLE.out
      go_wp2_with fail
      go_loopw [10] (fun ii wr => ∃ i : Nat, i ≤ j ∧ ii = .int .i64 i ∧ Hid (Sy W0 wr R kq kg (30 * i) ∧ wr.heap[sb]? = some (.cells #[.int .i64 (k : Int), .int .i64 (m : Int), .int .i64 (bl : Int)] 23 (0, 0)))) (fun ii _ => j - (intOf ii).toNat)
      case atStart => exact ⟨0, Nat.zero_le _, rfl, HL0.out⟩
      case round =>
        obtain ⟨i, hi, rfl, hV⟩ := hrel
        by_cases hlt : i < j
        · have ij : (i : Int) < (j : Int) := by omega
          obtain ⟨S5, zz5, h5⟩ := hV.out.1
          have hB := h5.out.1.b
          obtain ⟨hb, ho, rfl, hat⟩ := HH.out.1 (by rw [HH.out.2.2.1]; omega)
          have hj2 := (hat i (by rw [HH.out.2.2.1]; exact hlt)).keep hB
          have hin := (hat i (by rw [HH.out.2.2.1]; exact hlt)).d.i
          have hok := HH.out.2.1 i hlt
          have hrm := HRM.out i hlt
          obtain ⟨e, he⟩ : ∃ e, L[i]! = e := ⟨_, rfl⟩
          rw [he] at hj2 hin hok hrm
          have t0 := hj2.c
          have t1 := hj2.d.c0
          have t2 := hj2.d.c1
          have t3 := hj2.d.c2
          have t4 := hj2.d.c3
          have t5 := hj2.d.c4
          obtain ⟨w5, hw5⟩ : ∃ w5, wr.alloc (.cells #[.int .i64 e.t, .int .i64 e.e.d, .int .i64 e.e.n, .string e.e.a, .string e.e.b, .slice e.e.v.1 e.e.v.2.1 e.e.v.2.2] 31) = w5 := ⟨_, rfl⟩
          obtain ⟨hx, hhx⟩ : ∃ hx, wr.heap.size = hx := ⟨_, rfl⟩
          have b5 : Below wr.heap.size wr w5 := by rw [← hw5]; exact bal _ _
          have hs5 : w5.heap[hx]? = some (.cells #[.int .i64 e.t, .int .i64 e.e.d, .int .i64 e.e.n, .string e.e.a, .string e.e.b, .slice e.e.v.1 e.e.v.2.1 e.e.v.2.2] 31 (0, 0)) := by rw [← hw5, ← hhx]; exact heap_alloc_new _ _
          have hsb5 := (b5.block sb (Array.getElem?_eq_some_iff.1 hV.out.2).1).trans hV.out.2
          have H5 : Hid (Sy W0 w5 R kq kg (30 * i) ∧ w5.heap[sb]? = some (.cells #[.int .i64 (k : Int), .int .i64 (m : Int), .int .i64 (bl : Int)] 23 (0, 0))) := ⟨hV.out.1.keep b5, hsb5⟩
          have HAN : Hid (Any W0 w5.drew R kq kg) := ⟨_, _, _, _, (h5.out.1.keep b5).keep (Below.refl _ _).drew⟩
          have HC : Hid (∀ w, Any W0 w R kq kg → w.cell? ⟨pp, 0, none⟩ = some (.pointer (some ⟨ab, 0, none⟩)) ∧ w.cell? ⟨pp, 3, none⟩ = some (.pointer (some ⟨vb, 0, none⟩))) := fun w an => by
            obtain ⟨S1, T1, z1, z2, h1⟩ := an
            have f := HP.out.1.c _ _ _ _ _ _ _ h1
            exact ⟨f.1, f.2.2.2.1⟩
          have HX : Hid (∀ w, Kd w5 w → w.cell? ⟨hx, 0, none⟩ = some (.int .i64 e.t) ∧ w.cell? ⟨hx, 3, none⟩ = some (.string e.e.a) ∧ w.cell? ⟨hx, 5, none⟩ = some (.slice e.e.v.1 e.e.v.2.1 e.e.v.2.2) ∧ w.heap[sb]? = some (.cells #[.int .i64 (k : Int), .int .i64 (m : Int), .int .i64 (bl : Int)] 23 (0, 0))) := fun w kd => by
            have q := (kd.2 hx _ _ hs5 kT_hit).trans hs5
            have d0 := cell_of_row w hx 0 _ _ _ q
            have d3 := cell_of_row w hx 3 _ _ _ q
            have d5 := cell_of_row w hx 5 _ _ _ q
            simp only [List.getElem?_toArray, List.getElem?_cons_zero, List.getElem?_cons_succ] at d0 d3 d5
            exact ⟨d0, d3, d5, (kd.2 sb _ _ hsb5 kT_shape).trans hsb5⟩
          have x1 := cell_of_row w5 hx 1 _ _ _ hs5
          simp only [List.getElem?_toArray, List.getElem?_cons_zero, List.getElem?_cons_succ] at x1
          have HOK : Hid (Hok e ∧ Inp W0 e.e.v.1 e.e.v.2.1 e.e.v.2.2 e.e.x ∧ e.e.a.size ≤ 1000 ∧ e.e.b.size ≤ 1000 ∧ e.e.v.2.1 ≤ 5000) := ⟨hok, hin, hrm⟩
          have HW5 : Hid (wr.alloc (.cells #[.int .i64 e.t, .int .i64 e.e.d, .int .i64 e.e.n, .string e.e.a, .string e.e.b, .slice e.e.v.1 e.e.v.2.1 e.e.v.2.2] 31) = w5 ∧ wr.heap.size = hx ∧ w5.heap[hx]? = some (.cells #[.int .i64 e.t, .int .i64 e.e.d, .int .i64 e.e.n, .string e.e.a, .string e.e.b, .slice e.e.v.1 e.e.v.2.1 e.e.v.2.2] 31 (0, 0))) := ⟨hw5, hhx, hs5⟩
          have HJ : Hid (i < j) := hlt
          have hij : 30 * i ≤ 2000 := by have := HJ0.out; omega
          clear hat hj2 he hB hin hok hrm b5 hs5 hsb5 hV h5 hlt
          by_cases d13 : e.e.d = 13
          · have g13 : (e.e.d == 13) = true := by simpa using d13
            clear d13
            have K : Hid (Calls Tryz.prog 8 #[.pointer (some ⟨ab, 0, none⟩), .int .i64 e.t] w5.drew fun e' w6 => ∃ r : Int, e' = .returned (.int .i64 r) ∧ (w6.cell? ⟨pp, 0, none⟩ = some (.pointer (some ⟨ab, 0, none⟩)) ∧ w6.cell? ⟨pp, 3, none⟩ = some (.pointer (some ⟨vb, 0, none⟩)) ∧ w6.cell? ⟨hx, 0, none⟩ = some (.int .i64 e.t)) ∧ Hid (Calls Tryz.prog 9 #[.pointer (some ⟨vb, 0, none⟩), .int .i64 e.t] w6 fun e' w7 => e' = .returned (.int .i64 r) ∧ (w7.cell? ⟨pp, 0, none⟩ = some (.pointer (some ⟨ab, 0, none⟩)) ∧ w7.cell? ⟨pp, 3, none⟩ = some (.pointer (some ⟨vb, 0, none⟩)) ∧ w7.cell? ⟨hx, 0, none⟩ = some (.int .i64 e.t)) ∧ Hid (Sy W0 w7 R kq kg (30 * i + 3) ∧ w7.heap[sb]? = some (.cells #[.int .i64 (k : Int), .int .i64 (m : Int), .int .i64 (bl : Int)] 23 (0, 0))))) := by
              refine (fmt_both (H5.out.1.keep (Below.refl _ _).drew) HT.out HP.out.2.1 HP.out.2.2.1 (by have := HP.out.2.2.2; omega) (by omega) e.t).mono ?_
              rintro e' w6 ⟨r, rfl, ⟨an1, k1⟩, hk⟩
              have kd1 := (Kd.of (Below.refl w5.heap.size w5).drew).trans k1
              refine ⟨r, rfl, ⟨(HC.out _ an1).1, (HC.out _ an1).2, (HX.out _ kd1).1⟩, ?_⟩
              refine hk.out.mono ?_
              rintro e' w7 ⟨rfl, sy, k2⟩
              have kd2 := (Kd.of (Below.refl w5.heap.size w5).drew).trans k2
              have an2 : Any W0 w7 R kq kg := by obtain ⟨S8, z8, h8⟩ := sy; exact ⟨_, _, _, _, h8.out.1⟩
              exact ⟨rfl, ⟨(HC.out _ an2).1, (HC.out _ an2).2, (HX.out _ kd2).1⟩, sy, (HX.out _ kd2).2.2.2⟩
            have HS9 : Hid (w5.drew.cell? ⟨pp, 0, none⟩ = some (.pointer (some ⟨ab, 0, none⟩)) ∧ w5.drew.cell? ⟨pp, 3, none⟩ = some (.pointer (some ⟨vb, 0, none⟩)) ∧ w5.drew.cell? ⟨hx, 0, none⟩ = some (.int .i64 e.t)) := ⟨(HC.out _ HAN.out).1, (HC.out _ HAN.out).2, (HX.out _ (Kd.of (Below.refl w5.heap.size w5).drew)).1⟩
            go_wp2_with fail
            go_region_held3 (fun Y => Y.cell? ⟨pp, 0, none⟩ = some (.pointer (some ⟨ab, 0, none⟩)) ∧ Y.cell? ⟨pp, 3, none⟩ = some (.pointer (some ⟨vb, 0, none⟩)) ∧ Y.cell? ⟨hx, 0, none⟩ = some (.int .i64 e.t))
              (first | with_reducible exact HS9.out | with_reducible exact p1 | with_reducible exact p2)
              (first
                | (go_at_call 8; with_reducible refine K.out.mono ?_; rintro e' w6 ⟨r, rfl, p1, HK2⟩)
                | (go_at_call 9; with_reducible refine HK2.out.mono ?_; rintro e' w7 ⟨rfl, p2, HE⟩))
            clear K HS9 HK2 p1 p2
            have HSb : Hid (Sy W0 w7 R kq kg (30 * (i + 1)) ∧ w7.heap[sb]? = some (.cells #[.int .i64 (k : Int), .int .i64 (m : Int), .int .i64 (bl : Int)] 23 (0, 0))) := ⟨HE.out.1.up (by omega), HE.out.2⟩
            clear HE
            obtain ⟨S9, zz9, hs9⟩ := HSb.out.1
            have cSa := psame_any hs9.out.1 HP.out.1 (by have := HP.out.2.2.2.2; omega)
            clear hs9
            go_wp2_with fail
            go_at_call 18
            refine cSa.mono ?_
            rintro e9 wz ⟨rfl, bz⟩
            have HEZ : Hid (Sy W0 wz R kq kg (30 * (i + 1)) ∧ wz.heap[sb]? = some (.cells #[.int .i64 (k : Int), .int .i64 (m : Int), .int .i64 (bl : Int)] 23 (0, 0))) := ⟨HSb.out.1.keep bz, (bz.block sb (Array.getElem?_eq_some_iff.1 HSb.out.2).1).trans HSb.out.2⟩
            clear cSa bz HSb
            go_wp2
            go_round
            case rel => exact ⟨i + 1, HJ.out, by go_num, HEZ.out⟩
            case measure => simp [intOf]; omega
          have g13 : (e.e.d == 13) = false := by simpa using d13
          clear d13
          by_cases d14 : e.e.d = 14
          · have g14 : (e.e.d == 14) = true := by simpa using d14
            clear d14
            have K : Hid (Calls Tryz.prog 10 #[.pointer (some ⟨ab, 0, none⟩), .int .i64 e.t] w5.drew fun e' w6 => ∃ (r0 : Bool) (r : Int), e' = .returned (.tuple #[.bool r0, .int .i64 r]) ∧ (w6.cell? ⟨pp, 0, none⟩ = some (.pointer (some ⟨ab, 0, none⟩)) ∧ w6.cell? ⟨hx, 0, none⟩ = some (.int .i64 e.t)) ∧ Hid ((∀ w6', Below w6.heap.size w6 w6' → Calls Tryz.prog 11 #[.pointer (some ⟨vb, 0, none⟩), .int .i64 e.t] w6' fun e' w7 => e' = .returned (.tuple #[.bool r0, .int .i64 r]) ∧ Sy W0 w7 R kq kg (30 * i + 1) ∧ Kd w5.drew w7) ∧ Any W0 w6 R kq kg ∧ Kd w5 w6)) := by
              refine (voice_both (H5.out.1.keep (Below.refl _ _).drew) HT.out HP.out.2.1 HP.out.2.2.1 (by have := HP.out.2.2.2; omega) (by omega) e.t).mono ?_
              rintro e' w6 ⟨r0, r, rfl, ⟨an1, k1⟩, hk⟩
              have kd1 := (Kd.of (Below.refl w5.heap.size w5).drew).trans k1
              exact ⟨r0, r, rfl, ⟨(HC.out _ an1).1, (HX.out _ kd1).1⟩, hk.out, an1, kd1⟩
            have HS9 : Hid (w5.drew.cell? ⟨pp, 0, none⟩ = some (.pointer (some ⟨ab, 0, none⟩)) ∧ w5.drew.cell? ⟨hx, 0, none⟩ = some (.int .i64 e.t)) := ⟨(HC.out _ HAN.out).1, (HX.out _ (Kd.of (Below.refl w5.heap.size w5).drew)).1⟩
            go_wp2_with fail
            go_region_held3 (fun Y => Y.cell? ⟨pp, 0, none⟩ = some (.pointer (some ⟨ab, 0, none⟩)) ∧ Y.cell? ⟨hx, 0, none⟩ = some (.int .i64 e.t))
              (first | with_reducible exact HS9.out | with_reducible exact p1)
              (first
                | (go_at_call 10; with_reducible refine K.out.mono ?_; rintro e' w6 ⟨r0, r, rfl, p1, HK2⟩))
            clear K HS9 p1
            have HAN6 : Hid (Any W0 w6.drew R kq kg ∧ Kd w5 w6.drew) := by
              obtain ⟨S8, T8, z8, y8, h8⟩ := HK2.out.2.1
              exact ⟨⟨_, _, _, _, h8.keep (Below.refl _ _).drew⟩, HK2.out.2.2.trans (Kd.of (Below.refl w6.heap.size w6).drew)⟩
            have K : Hid (Calls Tryz.prog 11 #[.pointer (some ⟨vb, 0, none⟩), .int .i64 e.t] w6.drew fun e' w7 => e' = .returned (.tuple #[.bool r0, .int .i64 r]) ∧ (w7.cell? ⟨pp, 3, none⟩ = some (.pointer (some ⟨vb, 0, none⟩)) ∧ w7.cell? ⟨hx, 0, none⟩ = some (.int .i64 e.t)) ∧ Hid (Sy W0 w7 R kq kg (30 * i + 1) ∧ w7.heap[sb]? = some (.cells #[.int .i64 (k : Int), .int .i64 (m : Int), .int .i64 (bl : Int)] 23 (0, 0)))) := by
              refine (HK2.out.1 _ (Below.refl _ _).drew).mono ?_
              rintro e' w7 ⟨rfl, sy, k2⟩
              have kd2 := (Kd.of (Below.refl w5.heap.size w5).drew).trans k2
              have an2 : Any W0 w7 R kq kg := by obtain ⟨S8, z8, h8⟩ := sy; exact ⟨_, _, _, _, h8.out.1⟩
              exact ⟨rfl, ⟨(HC.out _ an2).2, (HX.out _ kd2).1⟩, sy, (HX.out _ kd2).2.2.2⟩
            have HS9 : Hid (w6.drew.cell? ⟨pp, 3, none⟩ = some (.pointer (some ⟨vb, 0, none⟩)) ∧ w6.drew.cell? ⟨hx, 0, none⟩ = some (.int .i64 e.t)) := ⟨(HC.out _ HAN6.out.1).2, (HX.out _ HAN6.out.2).1⟩
            clear HK2 HAN6
            go_wp2_with fail
            go_region_held3 (fun Y => Y.cell? ⟨pp, 3, none⟩ = some (.pointer (some ⟨vb, 0, none⟩)) ∧ Y.cell? ⟨hx, 0, none⟩ = some (.int .i64 e.t))
              (first | with_reducible exact HS9.out | with_reducible exact p1)
              (first
                | (go_at_call 11; with_reducible refine K.out.mono ?_; rintro e' w7 ⟨rfl, p1, HE⟩))
            clear K HS9 p1
            have HSb : Hid (Sy W0 w7 R kq kg (30 * (i + 1)) ∧ w7.heap[sb]? = some (.cells #[.int .i64 (k : Int), .int .i64 (m : Int), .int .i64 (bl : Int)] 23 (0, 0))) := ⟨HE.out.1.up (by omega), HE.out.2⟩
            clear HE
            obtain ⟨S9, zz9, hs9⟩ := HSb.out.1
            have cSa := psame_any hs9.out.1 HP.out.1 (by have := HP.out.2.2.2.2; omega)
            clear hs9
            go_wp2_with fail
            go_at_call 18
            refine cSa.mono ?_
            rintro e9 wz ⟨rfl, bz⟩
            have HEZ : Hid (Sy W0 wz R kq kg (30 * (i + 1)) ∧ wz.heap[sb]? = some (.cells #[.int .i64 (k : Int), .int .i64 (m : Int), .int .i64 (bl : Int)] 23 (0, 0))) := ⟨HSb.out.1.keep bz, (bz.block sb (Array.getElem?_eq_some_iff.1 HSb.out.2).1).trans HSb.out.2⟩
            clear cSa bz HSb
            go_wp2
            go_round
            case rel => exact ⟨i + 1, HJ.out, by go_num, HEZ.out⟩
            case measure => simp [intOf]; omega
          have g14 : (e.e.d == 14) = false := by simpa using d14
          clear d14
          by_cases d15 : e.e.d = 15
          · have g15 : (e.e.d == 15) = true := by simpa using d15
            clear d15
            have K : Hid (Calls Tryz.prog 12 #[.pointer (some ⟨ab, 0, none⟩), .int .i64 e.t, .string e.e.a, .slice e.e.v.1 e.e.v.2.1 e.e.v.2.2] w5.drew fun e' w6 => ∃ r : Int, e' = .returned (.int .i64 r) ∧ (w6.cell? ⟨pp, 0, none⟩ = some (.pointer (some ⟨ab, 0, none⟩)) ∧ w6.cell? ⟨pp, 3, none⟩ = some (.pointer (some ⟨vb, 0, none⟩)) ∧ w6.cell? ⟨hx, 0, none⟩ = some (.int .i64 e.t) ∧ w6.cell? ⟨hx, 3, none⟩ = some (.string e.e.a) ∧ w6.cell? ⟨hx, 5, none⟩ = some (.slice e.e.v.1 e.e.v.2.1 e.e.v.2.2)) ∧ Hid (Calls Tryz.prog 13 #[.pointer (some ⟨vb, 0, none⟩), .int .i64 e.t, .string e.e.a, .slice e.e.v.1 e.e.v.2.1 e.e.v.2.2] w6 fun e' w7 => e' = .returned (.int .i64 r) ∧ (w7.cell? ⟨pp, 0, none⟩ = some (.pointer (some ⟨ab, 0, none⟩)) ∧ w7.cell? ⟨pp, 3, none⟩ = some (.pointer (some ⟨vb, 0, none⟩)) ∧ w7.cell? ⟨hx, 0, none⟩ = some (.int .i64 e.t) ∧ w7.cell? ⟨hx, 3, none⟩ = some (.string e.e.a) ∧ w7.cell? ⟨hx, 5, none⟩ = some (.slice e.e.v.1 e.e.v.2.1 e.e.v.2.2)) ∧ Hid (Sy W0 w7 R kq kg (30 * i + 3) ∧ w7.heap[sb]? = some (.cells #[.int .i64 (k : Int), .int .i64 (m : Int), .int .i64 (bl : Int)] 23 (0, 0))))) := by
              refine (save_both (H5.out.1.keep (Below.refl _ _).drew) HP.out.2.1 HP.out.2.2.1 (by omega) e.t (x := e.e.a) (by have := HOK.out.2.2.1; unfold maxLen; omega) HOK.out.2.1 (by have := HOK.out.2.2.2.2; unfold maxLen; omega)).mono ?_
              rintro e' w6 ⟨r, rfl, ⟨an1, k1⟩, hk⟩
              have kd1 := (Kd.of (Below.refl w5.heap.size w5).drew).trans k1
              refine ⟨r, rfl, ⟨(HC.out _ an1).1, (HC.out _ an1).2, (HX.out _ kd1).1, (HX.out _ kd1).2.1, (HX.out _ kd1).2.2.1⟩, ?_⟩
              refine hk.out.mono ?_
              rintro e' w7 ⟨rfl, sy, k2⟩
              have kd2 := (Kd.of (Below.refl w5.heap.size w5).drew).trans k2
              have an2 : Any W0 w7 R kq kg := by obtain ⟨S8, z8, h8⟩ := sy; exact ⟨_, _, _, _, h8.out.1⟩
              exact ⟨rfl, ⟨(HC.out _ an2).1, (HC.out _ an2).2, (HX.out _ kd2).1, (HX.out _ kd2).2.1, (HX.out _ kd2).2.2.1⟩, sy, (HX.out _ kd2).2.2.2⟩
            have HS9 : Hid (w5.drew.cell? ⟨pp, 0, none⟩ = some (.pointer (some ⟨ab, 0, none⟩)) ∧ w5.drew.cell? ⟨pp, 3, none⟩ = some (.pointer (some ⟨vb, 0, none⟩)) ∧ w5.drew.cell? ⟨hx, 0, none⟩ = some (.int .i64 e.t) ∧ w5.drew.cell? ⟨hx, 3, none⟩ = some (.string e.e.a) ∧ w5.drew.cell? ⟨hx, 5, none⟩ = some (.slice e.e.v.1 e.e.v.2.1 e.e.v.2.2)) := ⟨(HC.out _ HAN.out).1, (HC.out _ HAN.out).2, (HX.out _ (Kd.of (Below.refl w5.heap.size w5).drew)).1, (HX.out _ (Kd.of (Below.refl w5.heap.size w5).drew)).2.1, (HX.out _ (Kd.of (Below.refl w5.heap.size w5).drew)).2.2.1⟩
            go_wp2_with fail
            go_region_held3 (fun Y => Y.cell? ⟨pp, 0, none⟩ = some (.pointer (some ⟨ab, 0, none⟩)) ∧ Y.cell? ⟨pp, 3, none⟩ = some (.pointer (some ⟨vb, 0, none⟩)) ∧ Y.cell? ⟨hx, 0, none⟩ = some (.int .i64 e.t) ∧ Y.cell? ⟨hx, 3, none⟩ = some (.string e.e.a) ∧ Y.cell? ⟨hx, 5, none⟩ = some (.slice e.e.v.1 e.e.v.2.1 e.e.v.2.2))
              (first | with_reducible exact HS9.out | with_reducible exact p1 | with_reducible exact p2)
              (first
                | (go_at_call 12; with_reducible refine K.out.mono ?_; rintro e' w6 ⟨r, rfl, p1, HK2⟩)
                | (go_at_call 13; with_reducible refine HK2.out.mono ?_; rintro e' w7 ⟨rfl, p2, HE⟩))
            clear K HS9 HK2 p1 p2
            have HSb : Hid (Sy W0 w7 R kq kg (30 * (i + 1)) ∧ w7.heap[sb]? = some (.cells #[.int .i64 (k : Int), .int .i64 (m : Int), .int .i64 (bl : Int)] 23 (0, 0))) := ⟨HE.out.1.up (by omega), HE.out.2⟩
            clear HE
            obtain ⟨S9, zz9, hs9⟩ := HSb.out.1
            have cSa := psame_any hs9.out.1 HP.out.1 (by have := HP.out.2.2.2.2; omega)
            clear hs9
            go_wp2_with fail
            go_at_call 18
            refine cSa.mono ?_
            rintro e9 wz ⟨rfl, bz⟩
            have HEZ : Hid (Sy W0 wz R kq kg (30 * (i + 1)) ∧ wz.heap[sb]? = some (.cells #[.int .i64 (k : Int), .int .i64 (m : Int), .int .i64 (bl : Int)] 23 (0, 0))) := ⟨HSb.out.1.keep bz, (bz.block sb (Array.getElem?_eq_some_iff.1 HSb.out.2).1).trans HSb.out.2⟩
            clear cSa bz HSb
            go_wp2
            go_round
            case rel => exact ⟨i + 1, HJ.out, by go_num, HEZ.out⟩
            case measure => simp [intOf]; omega
          have g15 : (e.e.d == 15) = false := by simpa using d15
          clear d15
          by_cases d16 : e.e.d = 16
          · have g16 : (e.e.d == 16) = true := by simpa using d16
            clear d16
            have K : Hid (Calls Tryz.prog 15 #[.pointer (some ⟨ab, 0, none⟩)] w5.drew fun e' w6 => ∃ r, e' = .returned r ∧ (w6.cell? ⟨pp, 0, none⟩ = some (.pointer (some ⟨ab, 0, none⟩)) ∧ w6.cell? ⟨pp, 3, none⟩ = some (.pointer (some ⟨vb, 0, none⟩))) ∧ Hid (Calls Tryz.prog 16 #[.pointer (some ⟨vb, 0, none⟩)] w6 fun e' w7 => ∃ r2, e' = .returned r2 ∧ (w7.cell? ⟨pp, 0, none⟩ = some (.pointer (some ⟨ab, 0, none⟩)) ∧ w7.cell? ⟨pp, 3, none⟩ = some (.pointer (some ⟨vb, 0, none⟩))) ∧ Hid (Calls Tryz.prog 14 #[r, r2] w7 fun e' w8 => e' = .returned (.bool true) ∧ (w8.cell? ⟨pp, 0, none⟩ = some (.pointer (some ⟨ab, 0, none⟩)) ∧ w8.cell? ⟨pp, 3, none⟩ = some (.pointer (some ⟨vb, 0, none⟩))) ∧ Hid (Sy W0 w8 R kq kg (30 * i + 24) ∧ w8.heap[sb]? = some (.cells #[.int .i64 (k : Int), .int .i64 (m : Int), .int .i64 (bl : Int)] 23 (0, 0)))))) := by
              refine (voices_both (H5.out.1.keep (Below.refl _ _).drew) HT.out HP.out.2.1 HP.out.2.2.1 (by have := HP.out.2.2.2; omega) (by omega)).mono ?_
              rintro e' w6 ⟨r, rfl, ⟨an1, k1⟩, hk⟩
              have kd1 := (Kd.of (Below.refl w5.heap.size w5).drew).trans k1
              refine ⟨r, rfl, ⟨(HC.out _ an1).1, (HC.out _ an1).2⟩, ?_⟩
              refine hk.out.mono ?_
              rintro e' w7 ⟨r2, rfl, ⟨sy, k2⟩, hk3⟩
              have kd2 := (Kd.of (Below.refl w5.heap.size w5).drew).trans k2
              have an2 : Any W0 w7 R kq kg := by obtain ⟨S8, z8, h8⟩ := sy; exact ⟨_, _, _, _, h8.out.1⟩
              refine ⟨r2, rfl, ⟨(HC.out _ an2).1, (HC.out _ an2).2⟩, ?_⟩
              refine hk3.out.mono ?_
              rintro e' w8 ⟨rfl, n8, rfl⟩
              have kd3 := kd2.trans (Kd.of (bdn' w7 n8))
              have an3 : Any W0 (w7.drewN n8) R kq kg := by obtain ⟨S8, z8, h8⟩ := sy; exact ⟨_, _, _, _, h8.out.1.keep (bdn' _ _)⟩
              exact ⟨rfl, ⟨(HC.out _ an3).1, (HC.out _ an3).2⟩, sy.keep (bdn' _ _), (HX.out _ kd3).2.2.2⟩
            have HS9 : Hid (w5.drew.cell? ⟨pp, 0, none⟩ = some (.pointer (some ⟨ab, 0, none⟩)) ∧ w5.drew.cell? ⟨pp, 3, none⟩ = some (.pointer (some ⟨vb, 0, none⟩))) := ⟨(HC.out _ HAN.out).1, (HC.out _ HAN.out).2⟩
            go_wp2_with fail
            go_region_held3 (fun Y => Y.cell? ⟨pp, 0, none⟩ = some (.pointer (some ⟨ab, 0, none⟩)) ∧ Y.cell? ⟨pp, 3, none⟩ = some (.pointer (some ⟨vb, 0, none⟩)))
              (first | with_reducible exact HS9.out | with_reducible exact p1 | with_reducible exact p2 | with_reducible exact p3)
              (first
                | (go_at_call 15; with_reducible refine K.out.mono ?_; rintro e' w6 ⟨r, rfl, p1, HK2⟩)
                | (go_at_call 16; with_reducible refine HK2.out.mono ?_; rintro e' w7 ⟨r2, rfl, p2, HK3⟩)
                | (go_at_call 14; with_reducible refine HK3.out.mono ?_; rintro e' w8 ⟨rfl, p3, HE⟩))
            clear K HS9 HK2 HK3 p1 p2 p3
            have HSb : Hid (Sy W0 w8 R kq kg (30 * (i + 1)) ∧ w8.heap[sb]? = some (.cells #[.int .i64 (k : Int), .int .i64 (m : Int), .int .i64 (bl : Int)] 23 (0, 0))) := ⟨HE.out.1.up (by omega), HE.out.2⟩
            clear HE
            obtain ⟨S9, zz9, hs9⟩ := HSb.out.1
            have cSa := psame_any hs9.out.1 HP.out.1 (by have := HP.out.2.2.2.2; omega)
            clear hs9
            go_wp2_with fail
            go_at_call 18
            refine cSa.mono ?_
            rintro e9 wz ⟨rfl, bz⟩
            have HEZ : Hid (Sy W0 wz R kq kg (30 * (i + 1)) ∧ wz.heap[sb]? = some (.cells #[.int .i64 (k : Int), .int .i64 (m : Int), .int .i64 (bl : Int)] 23 (0, 0))) := ⟨HSb.out.1.keep bz, (bz.block sb (Array.getElem?_eq_some_iff.1 HSb.out.2).1).trans HSb.out.2⟩
            clear cSa bz HSb
            go_wp2
            go_round
            case rel => exact ⟨i + 1, HJ.out, by go_num, HEZ.out⟩
            case measure => simp [intOf]; omega
          have g16 : (e.e.d == 16) = false := by simpa using d16
          clear d16
          have x0 := cell_of_row w5 hx 0 _ _ _ HW5.out.2.2
          have x2 := cell_of_row w5 hx 2 _ _ _ HW5.out.2.2
          have x3 := cell_of_row w5 hx 3 _ _ _ HW5.out.2.2
          have x4 := cell_of_row w5 hx 4 _ _ _ HW5.out.2.2
          have x5 := cell_of_row w5 hx 5 _ _ _ HW5.out.2.2
          simp only [List.getElem?_toArray, List.getElem?_cons_zero, List.getElem?_cons_succ] at x0 x2 x3 x4 x5
          have cDo := does_keep H5.out.1 HP.out.1 (by omega) e.t e.e.d e.e.n e.e.a e.e.b e.e.v.1 e.e.v.2.1 e.e.v.2.2 e.e.x (by have := HOK.out.2.2.1; unfold maxLen; omega) HOK.out.2.2.2.1 HOK.out.2.1 (by have := HOK.out.2.2.2.2; unfold maxLen; omega) HOK.out.1.d.n0 HOK.out.1.d.n1 (by have := HP.out.2.2.2.2; omega) H5.out.2 (kO_of kT_shape).1 (kO_of kT_shape).2
          go_wp2_with fail
          go_at_call 17
          refine cDo.mono ?_
          rintro e' w7 ⟨rfl, sy, hsb7⟩
          have HE : Hid (Sy W0 w7 R kq kg (30 * i + 1) ∧ w7.heap[sb]? = some (.cells #[.int .i64 (k : Int), .int .i64 (m : Int), .int .i64 (bl : Int)] 23 (0, 0))) := ⟨sy, hsb7⟩
          clear cDo sy hsb7
          have HSb : Hid (Sy W0 w7 R kq kg (30 * (i + 1)) ∧ w7.heap[sb]? = some (.cells #[.int .i64 (k : Int), .int .i64 (m : Int), .int .i64 (bl : Int)] 23 (0, 0))) := ⟨HE.out.1.up (by omega), HE.out.2⟩
          clear HE
          obtain ⟨S9, zz9, hs9⟩ := HSb.out.1
          have cSa := psame_any hs9.out.1 HP.out.1 (by have := HP.out.2.2.2.2; omega)
          clear hs9
          go_wp2_with fail
          go_at_call 18
          refine cSa.mono ?_
          rintro e9 wz ⟨rfl, bz⟩
          have HEZ : Hid (Sy W0 wz R kq kg (30 * (i + 1)) ∧ wz.heap[sb]? = some (.cells #[.int .i64 (k : Int), .int .i64 (m : Int), .int .i64 (bl : Int)] 23 (0, 0))) := ⟨HSb.out.1.keep bz, (bz.block sb (Array.getElem?_eq_some_iff.1 HSb.out.2).1).trans HSb.out.2⟩
          clear cSa bz HSb
          go_wp2
          go_round
          case rel => exact ⟨i + 1, HJ.out, by go_num, HEZ.out⟩
          case measure => simp [intOf]; omega
        · have hij : i = j := by omega
          subst hij
          have ij : decide ((i : Int) < (i : Int)) = false := by simp
          obtain ⟨S5, zz5, h5⟩ := hV.out.1
          have HY : Hid (∀ Y, Below wr.heap.size wr Y → Y.cell? ⟨pp, 0, none⟩ = some (.pointer (some ⟨ab, 0, none⟩)) ∧ Y.cell? ⟨sb, 0, none⟩ = some (.int .i64 (k : Int)) ∧ Y.cell? ⟨sb, 1, none⟩ = some (.int .i64 (m : Int)) ∧ Y.cell? ⟨sb, 2, none⟩ = some (.int .i64 (bl : Int))) := fun Y b => by
            have f := HP.out.1.c _ _ _ _ _ _ _ (h5.out.1.keep b)
            have q := (b.block sb (Array.getElem?_eq_some_iff.1 hV.out.2).1).trans hV.out.2
            have d0 := cell_of_row Y sb 0 _ _ _ q
            have d1 := cell_of_row Y sb 1 _ _ _ q
            have d2 := cell_of_row Y sb 2 _ _ _ q
            simp only [List.getElem?_toArray, List.getElem?_cons_zero, List.getElem?_cons_succ] at d0 d1 d2
            exact ⟨f.1, d0, d1, d2⟩
          obtain ⟨Q, hQ⟩ : ∃ Q, quo k m = Q := ⟨_, rfl⟩
          have HQ1 : Hid (∀ Y, Below wr.heap.size wr Y → Calls Tryz.prog 19 #[.pointer (some ⟨ab, 0, none⟩)] Y fun e' w' => e' = .returned (.int .i64 (Q : Int)) ∧ (w'.cell? ⟨pp, 0, none⟩ = some (.pointer (some ⟨ab, 0, none⟩)) ∧ w'.cell? ⟨sb, 0, none⟩ = some (.int .i64 (k : Int)) ∧ w'.cell? ⟨sb, 1, none⟩ = some (.int .i64 (m : Int)) ∧ w'.cell? ⟨sb, 2, none⟩ = some (.int .i64 (bl : Int))) ∧ Hid (Below wr.heap.size wr w')) := fun Y b => by
            have q := quorum_any ((h5.out.1.keep b).ax HP.out.2.1)
            rw [hQ] at q
            refine q.mono ?_
            rintro e' w' ⟨rfl, n8, rfl⟩
            have b8 := b.trans ((bdn' Y n8).mono b.size)
            exact ⟨rfl, HY.out _ b8, b8⟩
          have HQ2 : Hid (∀ Y, Below wr.heap.size wr Y → Calls Tryz.prog 20 #[.agg #[.int .i64 (k : Int), .int .i64 (m : Int), .int .i64 (bl : Int)]] Y fun e' w' => e' = .returned (.int .i64 (Q : Int)) ∧ (w'.cell? ⟨pp, 0, none⟩ = some (.pointer (some ⟨ab, 0, none⟩)) ∧ w'.cell? ⟨sb, 0, none⟩ = some (.int .i64 (k : Int)) ∧ w'.cell? ⟨sb, 1, none⟩ = some (.int .i64 (m : Int)) ∧ w'.cell? ⟨sb, 2, none⟩ = some (.int .i64 (bl : Int))) ∧ Hid (Below wr.heap.size wr w')) := fun Y b => by
            have q := rquorum_any Y k m bl HRR.out
            rw [hQ] at q
            refine q.mono ?_
            rintro e' w' ⟨rfl, b9⟩
            have b8 := b.trans (b9.mono b.size)
            exact ⟨rfl, HY.out _ b8, b8⟩
          have HQ3 : Hid (∀ Y, Below wr.heap.size wr Y → Calls Tryz.prog 21 #[.pointer (some ⟨ab, 0, none⟩)] Y fun e' w' => e' = .returned (.int .i64 (N : Int)) ∧ (w'.cell? ⟨pp, 0, none⟩ = some (.pointer (some ⟨ab, 0, none⟩)) ∧ w'.cell? ⟨sb, 0, none⟩ = some (.int .i64 (k : Int)) ∧ w'.cell? ⟨sb, 1, none⟩ = some (.int .i64 (m : Int)) ∧ w'.cell? ⟨sb, 2, none⟩ = some (.int .i64 (bl : Int))) ∧ Hid (Below wr.heap.size wr w')) := fun Y b => by
            have q := an_any ((h5.out.1.keep b).ax HP.out.2.1)
            rw [HP.out.2.2.2.1] at q
            refine q.mono ?_
            rintro e' w' ⟨rfl, rfl⟩
            exact ⟨rfl, HY.out _ b, b⟩
          have HQ4 : Hid (∀ Y, Below wr.heap.size wr Y → Calls Tryz.prog 22 #[.pointer (some ⟨ab, 0, none⟩)] Y fun e' w' => e' = .returned (.agg #[.int .i64 (k : Int), .int .i64 (m : Int), .int .i64 (bl : Int)]) ∧ (w'.cell? ⟨pp, 0, none⟩ = some (.pointer (some ⟨ab, 0, none⟩)) ∧ w'.cell? ⟨sb, 0, none⟩ = some (.int .i64 (k : Int)) ∧ w'.cell? ⟨sb, 1, none⟩ = some (.int .i64 (m : Int)) ∧ w'.cell? ⟨sb, 2, none⟩ = some (.int .i64 (bl : Int))) ∧ Hid (Below wr.heap.size wr w')) := fun Y b => by
            refine (shape_any ((h5.out.1.keep b).ax HP.out.2.1)).mono ?_
            rintro e' w' ⟨rfl, b9⟩
            have b8 := b.trans (b9.mono b.size)
            exact ⟨rfl, HY.out _ b8, b8⟩
          have wz : IntKind.i64.wrap ((k : Int) + (m : Int)) = (N : Int) := by have := HP.out.2.2.2; have := HRR.out; rw [IntKind.wrap_i64]; omega
          have HBR : Hid (Below W0.heap.size W0 wr) := h5.out.1.b
          have HS9 : Hid (wr.drew.cell? ⟨pp, 0, none⟩ = some (.pointer (some ⟨ab, 0, none⟩)) ∧ wr.drew.cell? ⟨sb, 0, none⟩ = some (.int .i64 (k : Int)) ∧ wr.drew.cell? ⟨sb, 1, none⟩ = some (.int .i64 (m : Int)) ∧ wr.drew.cell? ⟨sb, 2, none⟩ = some (.int .i64 (bl : Int))) := HY.out _ (Below.refl _ _).drew
          have BD : Hid (Below wr.heap.size wr wr.drew) := (Below.refl _ _).drew
          clear hV h5 hlt hQ HY
          go_wp2_with fail
          go_region_held3 (fun Y => Y.cell? ⟨pp, 0, none⟩ = some (.pointer (some ⟨ab, 0, none⟩)) ∧ Y.cell? ⟨sb, 0, none⟩ = some (.int .i64 (k : Int)) ∧ Y.cell? ⟨sb, 1, none⟩ = some (.int .i64 (m : Int)) ∧ Y.cell? ⟨sb, 2, none⟩ = some (.int .i64 (bl : Int)))
            (first | with_reducible exact HS9.out | with_reducible exact p1 | with_reducible exact p2 | with_reducible exact p3 | with_reducible exact p4)
            (first
              | (go_at_call 19; with_reducible refine (HQ1.out _ BD.out).mono ?_; rintro e' w6 ⟨rfl, p1, B1⟩)
              | (go_at_call 20; with_reducible refine (HQ2.out _ B1.out).mono ?_; rintro e' w7 ⟨rfl, p2, B2⟩)
              | (go_at_call 21; with_reducible refine (HQ3.out _ B2.out).mono ?_; rintro e' w8 ⟨rfl, p3, B3⟩)
              | (go_at_call 22; with_reducible refine (HQ4.out _ B3.out).mono ?_; rintro e' w9 ⟨rfl, p4, B4⟩))
          clear HQ1 HQ2 HQ3 HQ4 HS9 p1 p2 p3 p4 B1 B2 B3
          go_wp2
          go_ret
          exact ⟨rfl, HBR.out.trans (B4.out.mono HBR.out.size)⟩


set_option maxRecDepth 100000 in
theorem lifted (os : Os) (started : os.Started) (H : Type) (enc : TypeId × Value → H) :
    ReturnsInHanded {} Tryz.checked os 3 .any (fun w args => (Rows.arrayPlaysSpec.pre enc Tryz.prog Tryz.f3 [] false w args ∧ laidMetH Tryz.prog laidAll w) ∧ sizedMet enc Tryz.prog Tryz.f3 (OpenSpec.ofChange Rows.arrayPlaysSpec) false w args) (Rows.arrayPlaysSpec.post enc Tryz.prog Tryz.f3 false true false false) := by
  refine returnsInHanded_of_change_and (C := Tryz.checked) (X := fun w _ => laidMetH Tryz.prog laidAll w) (fun _ _ _ hh h => h.of_heap hh) own started (by kernel_rfl) Tryz.func3
    (ChangeSpec.witness_shaped (enc := enc) (C := Tryz.checked) (os := os) (X := fun w _ => laidMetH Tryz.prog laidAll w) false (World.doorLaid Tryz.prog 400 os) #[.agg #[.int .i64 0, .int .i64 0, .int .i64 0], .int .i64 0, .slice none 0 0] 8 rfl (World.shaped_of_RefB (by kernel_rfl) (by kernel_rfl)) (by kernel_rfl) (by kernel_rfl) (by kernel_rfl) (door_met os _)) ?_
  intro W base args ds gs before hval0 hW _ hsz0 hL _
  have hval : ∀ (j : Nat) t v, Tryz.f3.params[j]? = some t → args[j]? = some v → Value.okWide Tryz.prog W .any base t v := hval0
  have hW' := hW
  obtain ⟨p, q, hA0, hV, rfl, hfz, hnd⟩ := hW
  have hA : DataW.TrodAll enc Tryz.prog W 0 (fun _ => true) true Tryz.f3.params.toList args.toList ds p := hA0
  rw [Tryz.params3] at hA hval
  have T := halfT_of hL
  obtain ⟨v0, vs0, d0, ds0, p0, q0, hargs, rfl, rfl, h0, r0⟩ := trodAll_cons hA
  obtain ⟨v1, vs1, d1, ds1, p1, q1, rfl, rfl, rfl, h1, r1⟩ := trodAll_cons r0
  obtain ⟨v2, vs2, d2, ds2, p2, q2, rfl, rfl, rfl, h2, r2⟩ := trodAll_cons r1
  obtain ⟨rfl, rfl, rfl⟩ := trodAll_nil r2
  obtain rfl : args = #[v0, v1, v2] := by cases args; simp_all
  obtain ⟨rfl, rfl⟩ := trodVars_none hV
  have k0 := h0
  have lt0 : ∀ x ∈ p0, x.block < W.heap.size := by obtain ⟨m, hm⟩ := k0; exact DataW.trod_lt m _ _ _ hm
  obtain ⟨K0, M0, B0, e0, rfl⟩ := open_shape (hval 0 23 v0 rfl rfl) h0
  have k1 := h1
  have lt1 : ∀ x ∈ p1, x.block < W.heap.size := by obtain ⟨m, hm⟩ := k1; exact DataW.trod_lt m _ _ _ hm
  obtain ⟨x1, rfl, _, _, w1⟩ := open_int Tryz.underlying3 (hval 1 3 v1 rfl rfl) h1
  have e1 : -9223372036854775808 ≤ x1 ∧ x1 ≤ 9223372036854775807 := by simpa [Lit.wf, IntKind.min, IntKind.max, IntKind.signed, IntKind.bits] using w1
  have k2 := h2
  have lt2 : ∀ x ∈ p2, x.block < W.heap.size := by obtain ⟨m, hm⟩ := k2; exact DataW.trod_lt m _ _ _ hm
  obtain ⟨a2, c2, L2, rfl, m2, z2, e2, g2⟩ := open_hits (hval 2 24 v2 rfl rfl) h2
  clear hA0 hval0 hsz0 hL
  refine (core K0 M0 B0 x1 a2 c2 L2 W T e0 e1.1 e1.2 m2 z2 e2 g2).mono fun e W' ⟨he, bel⟩ => ?_
  subst he
  exact ⟨_, rfl, _, _, _, [], _, [], hW', trodAll_mk1 (shut_bool Tryz.underlying4 _), (trodAll_cons_mk (Below.trod laidOut (by kernel_rfl) (of_decide_eq_true (by kernel_rfl)) k0 bel lt0) (trodAll_cons_mk (Below.trod laidOut (by kernel_rfl) (of_decide_eq_true (by kernel_rfl)) k1 bel lt1) (trodAll_cons_mk (Below.trod laidOut (by kernel_rfl) (of_decide_eq_true (by kernel_rfl)) k2 bel lt2) trodAll_mk0))), rfl, bel.frame _, fun h => by cases h⟩

theorem over : Rows.arrayPlaysRow.holds Tryz.pinned (OpenSpec.ofChange Rows.arrayPlaysSpec) :=
  OpenClaim.holds_of_wide 3 Tryz.f3 rfl rfl rfl rfl rfl rfl rfl ⟨rfl, rfl, rfl, rfl, rfl⟩ rfl rfl rfl rfl rfl (by kernel_rfl) Tryz.func3 (by kernel_rfl)
    (of_decide_eq_true (by kernel_rfl)) (by unfold Func.isWrapper; first | (rw [if_pos (by decide +kernel)]; kernel_rfl) | (rw [if_neg (by decide +kernel)]; exact ⟨rfl, rfl⟩))
    (fun os started H enc _ => lifted os started H enc)

end arrayPlays

/-- The statement. -/
theorem arrayPlays_holds : Rows.ArrayPlaysCardSaid :=
  Claim7.holds_tied_plain_at .later [] [.data] true (true, "068aef5827ed462c86abaa8d604d6062cbf9f85ef455549f908696079f450565") false
    arrayPlays.over (fun _ h => by cases h) (by kernel_rfl) (fun _ h => by cases h) arrayPlays_row_tie rfl ⟨rfl, rfl⟩ (by kernel_rfl) rfl
    (fun f fn hf hfn => by
      obtain rfl : f = 3 := Option.some.inj ((show Tryz.prog.funcNamed "strongbox/strongboxlaw12.ArrayPlays" = some 3 by kernel_rfl).symm.trans hf) |>.symm
      obtain rfl : fn = Tryz.f3 := (Option.some.inj (Tryz.func3.symm.trans hfn)).symm
      exact ⟨by kernel_rfl, fun j t ht => by
        rw [Tryz.params3] at ht
        have hm : t ∈ [23, 3, 24] := by simpa using Array.mem_of_getElem? ht
        have hall : ([23, 3, 24].all fun u => !Tryz.prog.wantsStandIn u) = true := by kernel_rfl
        exact (show Tryz.prog.wantsStandIn t = false by simpa using List.all_eq_true.1 hall t hm)⟩)
    (by kernel_rfl)
#print axioms arrayPlays_holds
end Go.Proofs.YtebngmgdciahiaaGreatDoor
