/-
  A disk of the document in memory; where a path is; the bytes of all files.
-/
import Derived.Test.YthkhkijdehbbmaaDkU
import Derived.Deep.RegionLaw
import Derived.Deep.RegionHeld3
import Derived.BigGuardPart
import Derived.BigQuiet
import Derived.Deep.DeepCutAuto
import Derived.Deep.Cut
set_option maxRecDepth 100000
namespace Go.Proofs.Ythkhkijdehbbmaa
open Go.RowKit Dk Nm
attribute [local go_sem ↓] Go.wp_at_zero Go.wp_at_succ
set_option linter.unusedVariables false

def fl (x : Fv) : Fl := ⟨x.path, x.b, x.sure⟩
/-- A file's row of bytes. -/
def BO (w : World) (x : Fv) : Prop := x.bv.2.1 = x.b.size ∧ ∃ f : Nat → Nat, (∀ i, f i < 256) ∧ Own w 0 (.slice x.bv.1 x.bv.2.1 x.bv.2.2) x.b.size f ∧ str f x.b.size = x.b
/-- The document's disk at p: its files L in the row that begins at a. -/
structure DX (w : World) (p : Nat) (a : Option Addr) (c : Nat) (L : List Fv) (q : Option Nat) (s : St) : Prop where
  o : w.heap[p]? = some (.cells #[.slice a L.length c, .int .i64 s.most, .pointer (q.map fun k => ⟨k, 0, none⟩), .bool s.off, .int .i64 s.bad] 84)
  l : FOwn w 0 (.slice a L.length c) L
  b : ∀ x ∈ L, BO w x
  f : s.fs = L.map fl
  wf : Wf s
theorem DX.n {w : World} {p : Nat} {a : Option Addr} {c : Nat} {L : List Fv} {q : Option Nat} {s : St} (h : DX w p a c L q s) : L.length ≤ 4096 := by
  have := h.wf.n
  rw [h.f, List.length_map] at this
  exact this
theorem DX.c0 {w : World} {p : Nat} {a : Option Addr} {c : Nat} {L : List Fv} {q : Option Nat} {s : St} (h : DX w p a c L q s) : w.cell? ⟨p, 0, none⟩ = some (.slice a L.length c) := cell_of_row w p 0 _ _ _ h.o
theorem DX.c1 {w : World} {p : Nat} {a : Option Addr} {c : Nat} {L : List Fv} {q : Option Nat} {s : St} (h : DX w p a c L q s) : w.cell? ⟨p, 1, none⟩ = some (.int .i64 s.most) := cell_of_row w p 1 _ _ _ h.o
theorem DX.c2 {w : World} {p : Nat} {a : Option Addr} {c : Nat} {L : List Fv} {q : Option Nat} {s : St} (h : DX w p a c L q s) : w.cell? ⟨p, 2, none⟩ = some (.pointer (q.map fun k => ⟨k, 0, none⟩)) := cell_of_row w p 2 _ _ _ h.o
theorem DX.c3 {w : World} {p : Nat} {a : Option Addr} {c : Nat} {L : List Fv} {q : Option Nat} {s : St} (h : DX w p a c L q s) : w.cell? ⟨p, 3, none⟩ = some (.bool s.off) := cell_of_row w p 3 _ _ _ h.o
theorem DX.c4 {w : World} {p : Nat} {a : Option Addr} {c : Nat} {L : List Fv} {q : Option Nat} {s : St} (h : DX w p a c L q s) : w.cell? ⟨p, 4, none⟩ = some (.int .i64 s.bad) := cell_of_row w p 4 _ _ _ h.o
theorem DX.soft {w : World} {p : Nat} {a : Option Addr} {c : Nat} {L : List Fv} {q : Option Nat} {s : St} (h : DX w p a c L q s) (j : Nat) : w.frozen? ⟨p, j, none⟩ = false := frozen_of_row w p j _ _ h.o
theorem DX.lt {w : World} {p : Nat} {a : Option Addr} {c : Nat} {L : List Fv} {q : Option Nat} {s : St} (h : DX w p a c L q s) : p < w.heap.size := (Array.getElem?_eq_some_iff.1 h.o).1
/-- The rows. -/
theorem DX.rows {w : World} {p : Nat} {a : Option Addr} {c : Nat} {L : List Fv} {q : Option Nat} {s : St} (h : DX w p a c L q s) : Fs w a L ∧ (a = none → L.length = 0 ∧ c = 0) ∧ L.length ≤ c ∧ c ≤ maxLen := by
  obtain ⟨a', c', e, r⟩ := h.l.row
  injection e with e1 _ e3
  subst e1; subst e3
  exact r
theorem DX.drewN {w : World} {p : Nat} {a : Option Addr} {c : Nat} {L : List Fv} {q : Option Nat} {s : St} (h : DX w p a c L q s) (n : Nat) : DX (w.drewN n) p a c L q s := ⟨h.o, h.l, h.b, h.f, h.wf⟩
theorem DX.path {w : World} {p : Nat} {a : Option Addr} {c : Nat} {L : List Fv} {q : Option Nat} {s : St} (h : DX w p a c L q s) {i : Nat} (hi : i < L.length) : L[i]!.path.size ≤ 600 := by
  refine h.wf.p (fl L[i]!) ?_
  rw [h.f]
  refine List.mem_map_of_mem ?_
  rw [getElem!_pos L i hi]; exact List.getElem_mem hi
theorem DX.data {w : World} {p : Nat} {a : Option Addr} {c : Nat} {L : List Fv} {q : Option Nat} {s : St} (h : DX w p a c L q s) {i : Nat} (hi : i < L.length) : L[i]!.b.size ≤ 262144 ∧ BO w L[i]! := by
  have hm : L[i]! ∈ L := by rw [getElem!_pos L i hi]; exact List.getElem_mem hi
  exact ⟨h.wf.b (fl L[i]!) (by rw [h.f]; exact List.mem_map_of_mem hm), h.b _ hm⟩
/-- Where a path is, in the rows' own words. -/
theorem place_map {L : List Fv} {p : ByteArray} {i : Nat} (hi : i < L.length) (hb : ∀ j, j < i → ls (tx L[j]!.path) (tx p) = true) (h : ls (tx L[i]!.path) (tx p) = false) : place p (L.map fl) = i := by
  refine place_first p _ i (by rw [List.length_map]; exact hi) (fun j hj => ?_) ?_
  · rw [List.getElem_map]
    have := hb j hj
    rw [getElem!_pos L j (by omega)] at this
    exact this
  · rw [List.getElem_map]
    rw [getElem!_pos L i hi] at h
    exact h
theorem place_map_end {L : List Fv} {p : ByteArray} (hb : ∀ j, j < L.length → ls (tx L[j]!.path) (tx p) = true) : place p (L.map fl) = L.length := by
  have := place_end p (L.map fl) fun j hj => by
    rw [List.length_map] at hj
    rw [List.getElem_map]
    have := hb j hj
    rw [getElem!_pos L j hj] at this
    exact this
  rw [this, List.length_map]
theorem there_map {L : List Fv} {p : ByteArray} {i : Nat} (hi : i < L.length) (h : place p (L.map fl) = i) : there p (L.map fl) = decide (tx L[i]!.path = tx p) := by
  unfold there
  rw [h, List.getElem?_map, List.getElem?_eq_getElem hi]
  show decide (L[i].path = p) = _
  rw [getElem!_pos L i hi]
  exact decide_eq_decide.2 ⟨fun e => by rw [e], fun e => tx_inj e⟩
theorem there_end {L : List Fv} {p : ByteArray} (h : place p (L.map fl) = L.length) : there p (L.map fl) = false := by
  unfold there
  rw [h, List.getElem?_eq_none (by rw [List.length_map]; exact Nat.le_refl _)]

set_option maxRecDepth 100000 in
set_option maxHeartbeats 2000000 in
theorem at_any (p : Nat) (a : Option Addr) (c : Nat) (L : List Fv) (q : Option Nat) (s : St) (x : ByteArray) (w : World) (h : DX w p a c L q s) (hx : x.size ≤ maxLen) :
    Calls Try.prog 57 #[.pointer (some ⟨p, 0, none⟩), .string x] w fun e w' => e = .returned (.tuple #[.int .i64 ((place x s.fs : Nat) : Int), .bool (there x s.fs)]) ∧ ∃ n, w' = w.drewN n := by
  have hn := h.n
  obtain ⟨P, hP⟩ : ∃ P, place x s.fs = P := ⟨_, rfl⟩
  obtain ⟨T, hT⟩ : ∃ T, there x s.fs = T := ⟨_, rfl⟩
  rw [hP, hT]
  rw [h.f] at hP hT
  have HP : Hid (place x (L.map fl) = P) := hP
  have HT : Hid (there x (L.map fl) = T) := hT
  have c0 := h.c0
  have HL : Hid (DX w p a c L q s) := h
  clear h hP hT
  go_enter Try.func57, Try.ntmps57
  go_wp2_with fail
  go_loopw [6] (fun i wr => ∃ (j nd : Nat), j ≤ L.length ∧ i = .int .i64 j ∧ (∀ k, k < j → ls (tx L[k]!.path) (tx x) = true) ∧ wr = w.drewN nd) (fun i _ => L.length - (intOf i).toNat)
  case atStart => exact ⟨0, 0, by omega, rfl, fun k hk => absurd hk (by omega), rfl⟩
  case round =>
    obtain ⟨j, nd, hj, rfl, hb, hwr⟩ := hrel
    have hD : DX wr p a c L q s := by rw [hwr]; exact HL.out.drewN nd
    have HW : Hid (wr = w.drewN nd) := hwr
    clear c0 hwr
    have c0 := hD.c0
    by_cases hlt : j < L.length
    · have ij : (j : Int) < (L.length : Int) := by omega
      obtain ⟨hf, _, hlc, _⟩ := hD.rows
      obtain ⟨b, o, rfl, hA⟩ := hf (by omega)
      have t0 := (hA j hlt).c0
      have hs := hD.path hlt
      have HM : Hid (place x (L.map fl) = j → there x (L.map fl) = decide (tx L[j]!.path = tx x)) := there_map (p := x) hlt
      have HPM : Hid (ls (tx L[j]!.path) (tx x) = false → place x (L.map fl) = j) := fun e => place_map (p := x) hlt hb e
      have HB : Hid (∀ k, k < j → ls (tx L[k]!.path) (tx x) = true) := hb
      obtain ⟨y, hy⟩ : ∃ y, L[j]!.path = y := ⟨_, rfl⟩
      rw [hy] at t0 hs HM HPM
      have cL := fun w => rless_any y x w (by unfold maxLen; omega) hx
      have HY : Hid (L[j]!.path = y) := hy
      clear hA hf hb hy hD
      cases hl : ls (tx y) (tx x) with
      | true =>
        rw [hl] at cL
        have HLT : Hid (ls (tx y) (tx x) = true) := hl
        clear hl
        go_wp2_with fail
        go_at_call 66
        refine (cL _).mono ?_
        rintro e w2 ⟨rfl, n2, rfl⟩
        clear cL
        go_wp2
        go_round
        case rel => exact ⟨j + 1, nd + n2, by omega, by go_num, fun k hk => (by
          by_cases e : k < j
          · exact HB.out k e
          · have : k = j := by omega
            subst this
            rw [HY.out]; exact HLT.out), by rw [HW.out]; simp⟩
        case measure => simp [intOf]; omega
      | false =>
        rw [hl] at cL
        have HLT : Hid (ls (tx y) (tx x) = false) := hl
        obtain ⟨E, hE⟩ : ∃ E, (y.toList == x.toList) = E := ⟨_, rfl⟩
        have HE : Hid (decide (tx y = tx x) = E) := by unfold Hid; rw [← hE, tx_beq]
        clear hl
        go_wp2_with fail
        go_at_call 66
        refine (cL _).mono ?_
        rintro e w2 ⟨rfl, n2, rfl⟩
        clear cL
        go_upto_region 5 with fail
        go_quiet (fail)
        go_wp2
        exact bodyPost_ret (v := .tuple #[.int .i64 ((j : Nat) : Int), .bool E]) (by simp [results, Try.results57, go_sem]) rfl ⟨by
          have e1 := HPM.out (by rw [HY.out] at *; exact HLT.out)
          rw [← HP.out, ← HT.out, e1, HM.out e1, HE.out], nd + n2 + nq, by rw [HW.out]; simp [Nat.add_assoc]⟩
    · have hjn : j = L.length := by omega
      subst hjn
      have e1 := place_map_end hb
      have HE1 : Hid (place x (L.map fl) = L.length ∧ there x (L.map fl) = false) := ⟨e1, there_end e1⟩
      clear hb e1 hlt hD
      go_wp2
      exact bodyPost_ret (v := .tuple #[.int .i64 ((L.length : Nat) : Int), .bool false]) (by simp [results, Try.results57, go_sem]) rfl ⟨by rw [← HP.out, ← HT.out, HE1.out.1, HE1.out.2], nd, HW.out⟩

theorem used_map (L : List Fv) : used (L.map fl) = (L.map fun x => x.b.size).sum := by unfold used; rw [List.map_map]; rfl
theorem used_take {L : List Fv} {i : Nat} (hi : i < L.length) : used ((L.take (i + 1)).map fl) = used ((L.take i).map fl) + L[i]!.b.size := by
  rw [used_map, used_map, ← List.take_append_getElem hi, List.map_append, List.sum_append, getElem!_pos L i hi]
  simp
set_option maxRecDepth 100000 in
set_option maxHeartbeats 2000000 in
theorem used_any (p : Nat) (a : Option Addr) (c : Nat) (L : List Fv) (q : Option Nat) (s : St) (w : World) (h : DX w p a c L q s) :
    Calls Try.prog 50 #[.pointer (some ⟨p, 0, none⟩)] w fun e w' => e = .returned (.int .i64 ((used s.fs : Nat) : Int)) ∧ w' = w := by
  have hn := h.n
  obtain ⟨P, hP⟩ : ∃ P, used s.fs = P := ⟨_, rfl⟩
  rw [hP]
  rw [h.f] at hP
  have HP : Hid (used (L.map fl) = P) := hP
  have c0 := h.c0
  have HL : Hid (DX w p a c L q s) := h
  clear h hP
  go_enter Try.func50, Try.ntmps50
  go_wp2_with fail
  go_loopw [3, 4] (fun u i wr => ∃ (j m : Nat), j ≤ L.length ∧ i = .int .i64 j ∧ u = .int .i64 m ∧ used ((L.take j).map fl) = m ∧ m ≤ 262144 * j ∧ wr = w) (fun _ i _ => L.length - (intOf i).toNat)
  case atStart => exact ⟨0, 0, by omega, rfl, rfl, rfl, by omega, rfl⟩
  case round =>
    obtain ⟨j, m, hj, rfl, rfl, hu, hm, rfl⟩ := hrel
    by_cases hlt : j < L.length
    · have ij : (j : Int) < (L.length : Int) := by omega
      obtain ⟨hf, _, hlc, _⟩ := HL.out.rows
      obtain ⟨b, o, rfl, hA⟩ := hf (by omega)
      have t1 := (hA j hlt).c1
      obtain ⟨hz, hB⟩ := HL.out.data hlt
      have hl := hB.1
      have HU : Hid (used ((L.take (j + 1)).map fl) = used ((L.take j).map fl) + L[j]!.b.size) := used_take hlt
      have HU0 : Hid (used ((L.take j).map fl) = m) := hu
      obtain ⟨z, hzz⟩ : ∃ z, L[j]!.b.size = z := ⟨_, rfl⟩
      obtain ⟨⟨ba, bn, bc⟩, hbv⟩ : ∃ x : Option Addr × Nat × Nat, L[j]!.bv = x := ⟨_, rfl⟩
      rw [hzz] at hl HU hz
      rw [hbv] at hl t1
      dsimp only at hl t1
      subst hl
      have HZ : Hid (m + bn ≤ 262144 * (j + 1)) := by unfold Hid; omega
      have HNN : Hid (m + bn ≤ 1073741824 + 262144) := by unfold Hid; omega
      obtain ⟨mz, hmz⟩ : ∃ mz, m + bn = mz := ⟨_, rfl⟩
      have wz : IntKind.i64.wrap ((m : Int) + (bn : Int)) = ((mz : Nat) : Int) := by
        rw [show (m : Int) + (bn : Int) = ((mz : Nat) : Int) by omega, IntKind.wrap_i64]; omega
      have HMZ : Hid (m + bn = mz) := hmz
      clear hA hf hB hzz hbv hu hmz
      go_wp2
      go_round
      case rel => exact ⟨j + 1, mz, by omega, by go_num, rfl, by rw [HU.out, HU0.out, HMZ.out], by rw [← HMZ.out]; exact HZ.out, by trivial⟩
      case measure => simp [intOf]; omega
    · have hjn : j = L.length := by omega
      subst hjn
      have ij : decide ((L.length : Int) < (L.length : Int)) = false := by simp
      have HM : Hid (used (L.map fl) = m) := by rw [List.take_length] at hu; exact hu
      clear hu hlt
      go_wp2
      go_ret
      exact ⟨by rw [← HP.out, HM.out]; rfl, by trivial⟩
end Go.Proofs.Ythkhkijdehbbmaa
