/-
  New of an array of the program.
-/
import Derived.Test.YtebngmgdciahiaaGreatDoorArE
import Derived.Test.YtebngmgdciahiaaGreatDoorRzC
set_option maxRecDepth 100000
namespace Go.Proofs.YtebngmgdciahiaaGreatDoor
open Go.RowKit Crc
open _root_.Go.Proofs.YtebngmgdciahiaaGreatDoor.Nm _root_.Go.Proofs.YtebngmgdciahiaaGreatDoor.Dk
attribute [local go_sem ↓] Go.wp_at_zero Go.wp_at_succ
set_option linter.unusedVariables false

/-- A disk that may be none. -/
def ifv : Option Nat → Value
  | some p => dkv p
  | none => .nilIface
set_option maxHeartbeats 2000000 in
theorem isnil_any (o : Option Nat) (w : World) : Calls Tryz.prog 49 #[ifv o] w fun e w' => e = .returned (.bool o.isNone) ∧ w' = w := by
  cases o with
  | none =>
    show Calls Tryz.prog 49 #[.nilIface] w _
    have q : ∀ w, Sem.run Tryz.prog (binOp .eql 82 .nilIface .nilIface) w = .ok (.bool true) w := fun w => by rfl
    go_enter Tryz.func49, Tryz.ntmps49
    go_wp2
    go_ret
    exact ⟨rfl, rfl⟩
  | some p =>
    show Calls Tryz.prog 49 #[.iface 61 (.pointer (some ⟨p, 0, none⟩))] w _
    have q : ∀ w, Sem.run Tryz.prog (binOp .eql 82 (.iface 61 (.pointer (some ⟨p, 0, none⟩))) .nilIface) w = .ok (.bool false) w := fun w => by rfl
    go_enter Tryz.func49, Tryz.ntmps49
    go_wp2
    go_ret
    exact ⟨rfl, rfl⟩
theorem any_none {L : List (Option Nat)} {j : Nat} (hj : j < L.length) (h : L[j]! = none) : L.any Option.isNone = true := by
  rw [List.any_eq_true]
  refine ⟨L[j], List.getElem_mem hj, ?_⟩
  rw [getElem!_pos L j hj] at h
  rw [h]; rfl
theorem any_some {L : List (Option Nat)} (h : ∀ j, j < L.length → (L[j]!).isNone = false) : L.any Option.isNone = false := by
  rw [List.any_eq_false]
  intro o ho
  obtain ⟨j, hj, rfl⟩ := List.getElem_of_mem ho
  have := h j hj
  rw [getElem!_pos L j hj] at this
  rw [this]; decide
set_option maxHeartbeats 4000000 in
theorem index_any (g c : Nat) (cur : Array Value) (L : List (Option Nat)) (w : World) (h : w.heap[g]? = some (.cells cur 82 (0, 0))) (hc : ∀ i, i < L.length → cur[i]? = some (ifv L[i]!)) (hl : L.length ≤ 1000) :
    Calls Tryz.prog 86 #[.slice (some ⟨g, 0, none⟩) L.length c, .func (.func 49) #[] #[]] w fun e w' => ∃ r : Int, e = .returned (.int .i64 r) ∧ Hid (decide (0 ≤ r) = L.any Option.isNone) ∧ w' = w := by
  have HL : Hid (∀ i, i < L.length → w.cell? ⟨g, i, none⟩ = some (ifv L[i]!)) := fun i hi => by rw [cell_of_row w g i _ _ _ h, hc i hi]
  have HN : Hid (∀ j, j < L.length → L[j]! = none → L.any Option.isNone = true) := fun j hj e => any_none hj e
  have HS : Hid ((∀ j, j < L.length → (L[j]!).isNone = false) → L.any Option.isNone = false) := fun h => any_some h
  have hb : (L.length : Int) ≤ 1000 := by omega
  obtain ⟨n, hn⟩ : ∃ n, L.length = n := ⟨_, rfl⟩
  rw [hn] at HL HN HS hb ⊢
  clear h hc hl hn
  go_enter Tryz.func86, Tryz.ntmps86
  go_wp2_with fail
  go_loopw [8] (fun i wr => ∃ j : Nat, j ≤ n ∧ i = .int .i64 j ∧ (∀ i, i < j → (L[i]!).isNone = false) ∧ wr = w) (fun i _ => n - (intOf i).toNat)
  case atStart => exact ⟨0, Nat.zero_le _, rfl, fun i hi => absurd hi (Nat.not_lt_zero _), rfl⟩
  case round =>
    obtain ⟨j, hj, rfl, hf, rfl⟩ := hrel
    by_cases hlt : j < n
    · have ij : (j : Int) < (n : Int) := by omega
      have t0 := HL.out j hlt
      have HF : Hid (∀ i, i < j → (L[i]!).isNone = false) := hf
      have HJ : Hid (L[j]! = none → L.any Option.isNone = true) := HN.out j hlt
      obtain ⟨o, ho⟩ : ∃ o, L[j]! = o := ⟨_, rfl⟩
      rw [ho] at t0 HJ
      have HO : Hid (L[j]! = o) := ho
      have cI := isnil_any o wr
      obtain ⟨fo, hfo⟩ : ∃ fo, ifv o = fo := ⟨_, rfl⟩
      rw [hfo] at t0 cI
      clear hf ho hfo
      cases o with
      | none =>
        dsimp only [Option.isNone] at cI
        go_wp2_with fail
        go_at_call 49
        refine cI.mono ?_
        rintro e w' ⟨rfl, rfl⟩
        clear cI
        go_wp2
        go_ret
        exact ⟨_, rfl, by unfold Hid; rw [HJ.out trivial]; simp, by trivial⟩
      | some x =>
        dsimp only [Option.isNone] at cI
        go_wp2_with fail
        go_at_call 49
        refine cI.mono ?_
        rintro e w' ⟨rfl, rfl⟩
        clear cI
        go_wp2
        go_round
        case rel => exact ⟨j + 1, by omega, by go_num, fun i hi => by
          by_cases e : i = j
          · rw [e, HO.out]; rfl
          · exact HF.out i (by omega), by trivial⟩
        case measure => simp [intOf]; omega
    · have hjn : j = n := by omega
      subst hjn
      have ij : decide ((j : Int) < (j : Int)) = false := by simp
      have HE : Hid (L.any Option.isNone = false) := HS.out hf
      clear hf hlt
      go_wp2
      go_ret
      exact ⟨_, rfl, by unfold Hid; rw [HE.out]; decide, by trivial⟩
set_option maxHeartbeats 4000000 in
theorem contains_any (g c : Nat) (cur : Array Value) (L : List (Option Nat)) (w : World) (h : w.heap[g]? = some (.cells cur 82 (0, 0))) (hc : ∀ i, i < L.length → cur[i]? = some (ifv L[i]!)) (hl : L.length ≤ 1000) :
    Calls Tryz.prog 48 #[.slice (some ⟨g, 0, none⟩) L.length c, .func (.func 49) #[] #[]] w fun e w' => e = .returned (.bool (L.any Option.isNone)) ∧ w' = w := by
  have cI := index_any g c cur L w h hc hl
  obtain ⟨n, hn⟩ : ∃ n, L.length = n := ⟨_, rfl⟩
  rw [hn] at cI ⊢
  clear h hc hl hn
  go_enter Tryz.func48, Tryz.ntmps48
  go_wp2_with fail
  go_at_call 86
  refine cI.mono ?_
  rintro e w' ⟨r, rfl, hr, rfl⟩
  clear cI
  go_wp2
  go_ret
  refine ⟨?_, by trivial⟩
  rw [← hr.out]
  rfl
theorem infoD : (Tryz.prog.info? 82).map (fun i => (i.zero, i.size, i.bytes)) = some (some .nilIface, 1, 16) := by kernel_rfl
theorem kT_disk : kT 82 := ⟨by decide, by decide, by decide, by decide, by decide, by decide⟩
theorem ifv_one (o : Option Nat) : (ifv o).oneCell' = true := by
  cases o <;> rfl
set_option maxHeartbeats 4000000 in
theorem clone_dk (g c : Nat) (cur : Array Value) (L : List (Option Nat)) (w : World) (h : w.heap[g]? = some (.cells cur 82 (0, 0))) (hc : ∀ i, i < L.length → cur[i]? = some (ifv L[i]!)) (hl : L.length ≤ 1000) :
    Calls Tryz.prog 50 #[.slice (some ⟨g, 0, none⟩) L.length c] w fun e w' => ∃ g' c' cur', e = .returned (.slice (some ⟨g', 0, none⟩) L.length c') ∧ Hid (w.heap.size ≤ g' ∧ w'.heap[g']? = some (.cells cur' 82 (0, 0)) ∧ (∀ i, i < L.length → cur'[i]? = some (ifv L[i]!)) ∧ L.length ≤ c') ∧ Below w.heap.size w w' := by
  obtain ⟨W, hW⟩ : ∃ W, w.alloc (.cells #[] 82) = W := ⟨_, rfl⟩
  have bW : Below w.heap.size w W := by rw [← hW]; exact bal _ _
  have hO : VOwn 82 W w.heap.size (.slice (some ⟨w.heap.size, 0, none⟩) 0 0) [] := by rw [← hW]; exact VOwn.lit w [] (Nat.zero_le _)
  have hml : (L.map ifv).length = L.length := List.length_map _
  obtain ⟨v', W2, r1, r2, r3, r4⟩ := appendN (S := 68) (E := 82) (zv := .nilIface) (by8 := 16) Tryz.underlying68 infoD rfl (by omega) hO (M := L.map ifv) (g := g) (c := c)
    (fun j hj => by
      rw [hml] at hj
      rw [cell_of_row W g j _ _ _ ((bW.block g (Array.getElem?_eq_some_iff.1 h).1).trans h), hc j hj, List.getElem?_map, List.getElem?_eq_getElem hj, getElem!_pos L j hj]; rfl)
    (fun u hu => by
      obtain ⟨o, _, rfl⟩ := List.mem_map.1 hu
      exact ifv_one o) (by rw [hml]; show 0 + _ ≤ _; omega) bW.size
  rw [hml] at r1
  rw [List.nil_append] at r2
  rcases r2.row with ⟨e, _⟩ | ⟨g', c', cur', e, hg, hh, hcell, hlc, _⟩
  · exact absurd e (r4 (fun e => by cases e))
  rw [hml] at hcell hlc e
  subst e
  have HR : Hid (Sem.run Tryz.prog (Builtin.append_ #[68, 68] 68 #[.slice (some ⟨w.heap.size, 0, none⟩) 0 0, .slice (some ⟨g, 0, none⟩) L.length c]) W = .ok (.slice (some ⟨g', 0, none⟩) L.length c') W2) := r1
  have HE : Hid (w.heap.size ≤ g' ∧ W2.heap[g']? = some (.cells cur' 82 (0, 0)) ∧ (∀ i, i < L.length → cur'[i]? = some (ifv L[i]!)) ∧ L.length ≤ c') := ⟨hg, hh, fun i hi => by
    rw [hcell i hi, List.getElem?_map, List.getElem?_eq_getElem hi, getElem!_pos L i hi]; rfl, hlc⟩
  have HB : Hid (Below w.heap.size w W2) := r3.below bW
  have HW : Hid (w.alloc (.cells #[] 82) = W) := hW
  have qS : (binOp .eql 68 (.slice (some ⟨g, 0, none⟩) L.length c) (.slice none 0 0)).run Tryz.prog w = .ok (.bool false) w := Lib.run_eql_slice_nil w 68 82 (some ⟨g, 0, none⟩) L.length c 0 0 Tryz.underlying68
  obtain ⟨n, hn⟩ : ∃ n, L.length = n := ⟨_, rfl⟩
  rw [hn] at HR HE qS ⊢
  clear hW bW hO hml r1 r3 r4 r2 hg hh hcell hlc h hc hl hn
  go_enter Tryz.func50, Tryz.ntmps50
  go_wp2_with (at_builtin; rw [HW.out]; refine wpList_append_ran (by rfl) _ _ 68 (by rfl) _ _ _ _ (by rfl) (by rfl) HR.out ?_)
  go_wp2
  go_ret
  exact ⟨g', c', cur', rfl, HE.out, HB.out⟩
theorem cell_al {w : World} {o : Obj} {a : Addr} {v : Value} (h : w.cell? a = some v) : (w.alloc o).cell? a = some v := ((bal w o).cell (block_lt_of_cell h)).trans h
/-- What New leaves. -/
def NewEnd (w : World) (k m bl : Nat) (L : List (Option Nat)) (b : Nat) (w' : World) : Prop :=
  w.heap.size ≤ b ∧ Below w.heap.size w w' ∧ ∃ c g cap cur, w.heap.size ≤ g ∧ b ≠ g ∧ w'.heap[b]? = some (axO k m bl c g cap) ∧ w'.heap[g]? = some (.cells cur 82 (0, 0)) ∧ (∀ i, i < k + m → cur[i]? = some (ifv L[i]!)) ∧ k + m ≤ cap
set_option maxHeartbeats 8000000 in
theorem anew_yes (w : World) (k m bl g c : Nat) (cur : Array Value) (L : List (Option Nat)) (k1 : 1 ≤ k) (m1 : 1 ≤ m) (hkm : k + m ≤ 255) (b1 : 16 ≤ bl) (b2 : bl ≤ 4096) (h : w.heap[g]? = some (.cells cur 82 (0, 0))) (hc : ∀ i, i < L.length → cur[i]? = some (ifv L[i]!)) (hl : L.length = k + m) (hn : L.any Option.isNone = false) :
    Calls Tryz.prog 29 #[.agg #[.int .i64 (k : Int), .int .i64 (m : Int), .int .i64 (bl : Int)], .slice (some ⟨g, 0, none⟩) L.length c] w fun e w' => ∃ b, e = .returned (.tuple #[.pointer (some ⟨b, 0, none⟩), .int .i64 0]) ∧ Hid (NewEnd w k m bl L b w') := by
  obtain ⟨w1, hw1⟩ : ∃ w1, w.alloc (.cells #[.int .i64 (k : Int), .int .i64 (m : Int), .int .i64 (bl : Int)] 23) = w1 := ⟨_, rfl⟩
  have bw1 : Below w.heap.size w w1 := by rw [← hw1]; exact bal _ _
  have hs : w1.heap[w.heap.size]? = some (.cells #[.int .i64 (k : Int), .int .i64 (m : Int), .int .i64 (bl : Int)] 23 (0, 0)) := by rw [← hw1]; exact heap_alloc_new _ _
  have cR := Rz.rnew_yes k m w1 k1 m1 hkm
  have HW1 : Hid (w.alloc (.cells #[.int .i64 (k : Int), .int .i64 (m : Int), .int .i64 (bl : Int)] 23) = w1) := hw1
  have HS : Hid (w1.heap[w.heap.size]? = some (.cells #[.int .i64 (k : Int), .int .i64 (m : Int), .int .i64 (bl : Int)] 23 (0, 0)) ∧ w1.heap[g]? = some (.cells cur 82 (0, 0)) ∧ Below w.heap.size w w1) := ⟨hs, (bw1.block g (Array.getElem?_eq_some_iff.1 h).1).trans h, bw1⟩
  have c0 := cell_of_row w1 w.heap.size 0 _ _ _ hs
  have c1 := cell_of_row w1 w.heap.size 1 _ _ _ hs
  simp only [List.getElem?_toArray, List.getElem?_cons_zero, List.getElem?_cons_succ] at c0 c1
  have CC : Hid (∀ w', w'.heap[g]? = some (.cells cur 82 (0, 0)) → Calls Tryz.prog 48 #[.slice (some ⟨g, 0, none⟩) L.length c, .func (.func 49) #[] #[]] w' fun e w'' => e = .returned (.bool false) ∧ w'' = w') := fun w' h' => by
    have := contains_any g c cur L w' h' hc (by omega)
    rw [hn] at this
    exact this
  have CL : Hid (∀ w', w'.heap[g]? = some (.cells cur 82 (0, 0)) → Calls Tryz.prog 50 #[.slice (some ⟨g, 0, none⟩) L.length c] w' fun e w'' => ∃ g' c' cur', e = .returned (.slice (some ⟨g', 0, none⟩) L.length c') ∧ Hid (w'.heap.size ≤ g' ∧ w''.heap[g']? = some (.cells cur' 82 (0, 0)) ∧ (∀ i, i < L.length → cur'[i]? = some (ifv L[i]!)) ∧ L.length ≤ c') ∧ Below w'.heap.size w' w'') := fun w' h' => clone_dk g c cur L w' h' hc (by omega)
  have g1 : decide ((bl : Int) < 16) = false := decide_eq_false (by omega)
  have g2 : decide ((4096 : Int) < (bl : Int)) = false := decide_eq_false (by omega)
  have g3 : decide (bl < 16) = false := decide_eq_false (by omega)
  have g4 : decide (4096 < bl) = false := decide_eq_false (by omega)
  obtain ⟨n, hnn⟩ : ∃ n, k + m = n := ⟨_, rfl⟩
  have HN : Hid (k + m = n) := hnn
  rw [hnn] at hl cR
  rw [hl] at CC CL ⊢
  clear hw1 bw1 hs h hc hn k1 m1 hkm b1 b2 hl hnn
  go_enter Tryz.func29, Tryz.ntmps29
  go_wp2_with fail
  rw [HW1.out]
  go_at_call 46
  refine cR.mono ?_
  rintro e w2 ⟨p, SS, rfl, hp, hcode, b2⟩
  clear cR
  have h2s := (b2.block w.heap.size (Array.getElem?_eq_some_iff.1 HS.out.1).1).trans HS.out.1
  have h2g := (b2.block g (Array.getElem?_eq_some_iff.1 HS.out.2.1).1).trans HS.out.2.1
  have cN := Rz.N_any p k n SS w2 hcode
  have c2 := cell_of_row w2 w.heap.size 2 _ _ _ h2s
  simp only [List.getElem?_toArray, List.getElem?_cons_zero, List.getElem?_cons_succ] at c2
  have cC := CC.out w2 h2g
  have H2 : Hid (w2.heap[w.heap.size]? = some (.cells #[.int .i64 (k : Int), .int .i64 (m : Int), .int .i64 (bl : Int)] 23 (0, 0)) ∧ w2.heap[g]? = some (.cells cur 82 (0, 0)) ∧ Below w.heap.size w w2) := ⟨h2s, h2g, HS.out.2.2.trans (b2.mono HS.out.2.2.size)⟩
  clear hp hcode b2 h2s h2g c0 c1
  go_wp2_with fail
  go_at_call 47
  refine cN.mono ?_
  rintro e w3 ⟨rfl, rfl⟩
  clear cN
  go_wp2_with fail
  go_at_call 48
  refine cC.mono ?_
  rintro e w3 ⟨rfl, rfl⟩
  clear cC
  obtain ⟨sb, hsb⟩ : ∃ sb, w.heap.size = sb := ⟨_, rfl⟩
  have hS9 : w3.drew.heap[w.heap.size]? = some (.cells #[.int .i64 (k : Int), .int .i64 (m : Int), .int .i64 (bl : Int)] 23 (0, 0)) := H2.out.1
  have d0 := cell_of_row w3.drew w.heap.size 0 _ _ _ hS9
  have d1 := cell_of_row w3.drew w.heap.size 1 _ _ _ hS9
  have d2 := cell_of_row w3.drew w.heap.size 2 _ _ _ hS9
  simp only [List.getElem?_toArray, List.getElem?_cons_zero, List.getElem?_cons_succ] at d0 d1 d2
  rw [hsb] at d0 d1 d2
  have HS9 : Hid (w3.drew.cell? ⟨sb, 0, none⟩ = some (.int .i64 (k : Int)) ∧ w3.drew.cell? ⟨sb, 1, none⟩ = some (.int .i64 (m : Int)) ∧ w3.drew.cell? ⟨sb, 2, none⟩ = some (.int .i64 (bl : Int))) := ⟨d0, d1, d2⟩
  have K : Hid (Calls Tryz.prog 50 #[.slice (some ⟨g, 0, none⟩) n c] w3.drew fun e w5 => ∃ g' c', e = .returned (.slice (some ⟨g', 0, none⟩) n c') ∧ (w5.cell? ⟨sb, 0, none⟩ = some (.int .i64 (k : Int)) ∧ w5.cell? ⟨sb, 1, none⟩ = some (.int .i64 (m : Int)) ∧ w5.cell? ⟨sb, 2, none⟩ = some (.int .i64 (bl : Int))) ∧ Hid (∃ cur', w3.heap.size ≤ g' ∧ g' < w5.heap.size ∧ w5.heap[g']? = some (.cells cur' 82 (0, 0)) ∧ (∀ i, i < n → cur'[i]? = some (ifv L[i]!)) ∧ n ≤ c' ∧ Below w3.heap.size w3 w5)) := by
    refine (CL.out w3.drew H2.out.2.1).mono ?_
    rintro e w5 ⟨g', c', cur', rfl, h1, h2⟩
    obtain ⟨k1, k2, k3, k4⟩ := h1.out
    have hb : Below w3.heap.size w3 w5 := (Below.refl _ _).drew.trans h2
    have hs5 := (hb.block w.heap.size (Array.getElem?_eq_some_iff.1 H2.out.1).1).trans H2.out.1
    have d0 := cell_of_row w5 w.heap.size 0 _ _ _ hs5
    have d1 := cell_of_row w5 w.heap.size 1 _ _ _ hs5
    have d2 := cell_of_row w5 w.heap.size 2 _ _ _ hs5
    simp only [List.getElem?_toArray, List.getElem?_cons_zero, List.getElem?_cons_succ] at d0 d1 d2
    rw [hsb] at d0 d1 d2
    exact ⟨g', c', rfl, ⟨d0, d1, d2⟩, cur', k1, (Array.getElem?_eq_some_iff.1 k2).1, k2, k3, k4, hb⟩
  rw [hsb] at c2
  clear hS9 d0 d1 d2 c2
  go_wp2_with fail
  have HSB : Hid (w.heap.size = sb) := hsb
  clear hsb
  go_region_held3 (fun Y => Y.cell? ⟨sb, 0, none⟩ = some (.int .i64 (k : Int)) ∧ Y.cell? ⟨sb, 1, none⟩ = some (.int .i64 (m : Int)) ∧ Y.cell? ⟨sb, 2, none⟩ = some (.int .i64 (bl : Int)))
    (first | with_reducible exact HS9.out | with_reducible exact p1 | exact ⟨cell_al p1.1, cell_al p1.2.1, cell_al p1.2.2⟩)
    (first | (go_at_call 50; with_reducible refine K.out.mono ?_; rintro e w5 ⟨g', c', rfl, p1, HK2⟩))
  go_wp2
  go_ret2
  obtain ⟨cur', k1, k2, k3, k4, k5, k6⟩ := HK2.out
  have hb := H2.out.2.2.trans (k6.mono H2.out.2.2.size)
  have h2 := H2.out.2.2.size
  have ha := bal w5 (.cells #[.int .i64 (k : Int), .int .i64 (m : Int), .int .i64 (bl : Int), .pointer (some ⟨p, 0, none⟩), .slice (some ⟨g', 0, none⟩) n c'] 100)
  refine ⟨w5.heap.size, rfl, Nat.le_trans h2 k6.size, hb.trans (ha.mono hb.size), p, g', c', cur', by omega, by omega, ?_, (ha.block g' k2).trans k3, fun i hi => k4 i (by have := HN.out; omega), by have := HN.out; omega⟩
  rw [show axO k m bl p g' c' = .cells #[.int .i64 (k : Int), .int .i64 (m : Int), .int .i64 (bl : Int), .pointer (some ⟨p, 0, none⟩), .slice (some ⟨g', 0, none⟩) n c'] 100 (0, 0) by unfold axO; rw [HN.out]]
  exact heap_alloc_new _ _
set_option maxHeartbeats 8000000 in
theorem anew_block (w : World) (k m : Nat) (bl : Int) (v : Value) (k1 : 1 ≤ k) (m1 : 1 ≤ m) (hkm : k + m ≤ 255) (b1 : bl < 16 ∨ 4096 < bl) :
    Calls Tryz.prog 29 #[.agg #[.int .i64 (k : Int), .int .i64 (m : Int), .int .i64 bl], v] w fun e w' => e = .returned (.tuple #[.pointer none, .int .i64 1]) ∧ Below w.heap.size w w' := by
  obtain ⟨w1, hw1⟩ : ∃ w1, w.alloc (.cells #[.int .i64 (k : Int), .int .i64 (m : Int), .int .i64 bl] 23) = w1 := ⟨_, rfl⟩
  have bw1 : Below w.heap.size w w1 := by rw [← hw1]; exact bal _ _
  have hs : w1.heap[w.heap.size]? = some (.cells #[.int .i64 (k : Int), .int .i64 (m : Int), .int .i64 bl] 23 (0, 0)) := by rw [← hw1]; exact heap_alloc_new _ _
  have cR := Rz.rnew_yes k m w1 k1 m1 hkm
  have HW1 : Hid (w.alloc (.cells #[.int .i64 (k : Int), .int .i64 (m : Int), .int .i64 bl] 23) = w1) := hw1
  have HS : Hid (w1.heap[w.heap.size]? = some (.cells #[.int .i64 (k : Int), .int .i64 (m : Int), .int .i64 bl] 23 (0, 0)) ∧ Below w.heap.size w w1) := ⟨hs, bw1⟩
  have c0 := cell_of_row w1 w.heap.size 0 _ _ _ hs
  have c1 := cell_of_row w1 w.heap.size 1 _ _ _ hs
  simp only [List.getElem?_toArray, List.getElem?_cons_zero, List.getElem?_cons_succ] at c0 c1
  obtain ⟨n, hnn⟩ : ∃ n, k + m = n := ⟨_, rfl⟩
  rw [hnn] at cR
  clear hw1 bw1 hs k1 m1 hkm hnn
  go_enter Tryz.func29, Tryz.ntmps29
  go_wp2_with fail
  rw [HW1.out]
  go_at_call 46
  refine cR.mono ?_
  rintro e w2 ⟨p, SS, rfl, hp, hcode, b2⟩
  have h2s := (b2.block w.heap.size (Array.getElem?_eq_some_iff.1 HS.out.1).1).trans HS.out.1
  have c2 := cell_of_row w2 w.heap.size 2 _ _ _ h2s
  simp only [List.getElem?_toArray, List.getElem?_cons_zero, List.getElem?_cons_succ] at c2
  have H2 : Hid (Below w.heap.size w w2) := HS.out.2.trans (b2.mono HS.out.2.size)
  clear cR hp hcode b2 h2s c0 c1
  by_cases h0 : bl < 16
  · have g1 : decide (bl < 16) = true := decide_eq_true h0
    clear b1
    go_wp2
    go_ret2
    exact ⟨rfl, H2.out⟩
  · have g1 : decide (bl < 16) = false := decide_eq_false h0
    have g2 : decide (4096 < bl) = true := decide_eq_true (by omega)
    clear b1 h0
    go_wp2
    go_ret2
    exact ⟨rfl, H2.out⟩
set_option maxHeartbeats 8000000 in
theorem anew_bad (w : World) (k m bl g c : Nat) (cur : Array Value) (L : List (Option Nat)) (k1 : 1 ≤ k) (m1 : 1 ≤ m) (hkm : k + m ≤ 255) (b1 : 16 ≤ bl) (b2 : bl ≤ 4096) (h : w.heap[g]? = some (.cells cur 82 (0, 0))) (hc : ∀ i, i < L.length → cur[i]? = some (ifv L[i]!)) (hl : L.length ≤ 1000) (hn : L.length ≠ k + m ∨ L.any Option.isNone = true) :
    Calls Tryz.prog 29 #[.agg #[.int .i64 (k : Int), .int .i64 (m : Int), .int .i64 (bl : Int)], .slice (some ⟨g, 0, none⟩) L.length c] w fun e w' => e = .returned (.tuple #[.pointer none, .int .i64 1]) ∧ Below w.heap.size w w' := by
  obtain ⟨w1, hw1⟩ : ∃ w1, w.alloc (.cells #[.int .i64 (k : Int), .int .i64 (m : Int), .int .i64 (bl : Int)] 23) = w1 := ⟨_, rfl⟩
  have bw1 : Below w.heap.size w w1 := by rw [← hw1]; exact bal _ _
  have hs : w1.heap[w.heap.size]? = some (.cells #[.int .i64 (k : Int), .int .i64 (m : Int), .int .i64 (bl : Int)] 23 (0, 0)) := by rw [← hw1]; exact heap_alloc_new _ _
  have cR := Rz.rnew_yes k m w1 k1 m1 hkm
  have HW1 : Hid (w.alloc (.cells #[.int .i64 (k : Int), .int .i64 (m : Int), .int .i64 (bl : Int)] 23) = w1) := hw1
  have HS : Hid (w1.heap[w.heap.size]? = some (.cells #[.int .i64 (k : Int), .int .i64 (m : Int), .int .i64 (bl : Int)] 23 (0, 0)) ∧ w1.heap[g]? = some (.cells cur 82 (0, 0)) ∧ Below w.heap.size w w1) := ⟨hs, (bw1.block g (Array.getElem?_eq_some_iff.1 h).1).trans h, bw1⟩
  have c0 := cell_of_row w1 w.heap.size 0 _ _ _ hs
  have c1 := cell_of_row w1 w.heap.size 1 _ _ _ hs
  simp only [List.getElem?_toArray, List.getElem?_cons_zero, List.getElem?_cons_succ] at c0 c1
  have CC : Hid (∀ w', w'.heap[g]? = some (.cells cur 82 (0, 0)) → Calls Tryz.prog 48 #[.slice (some ⟨g, 0, none⟩) L.length c, .func (.func 49) #[] #[]] w' fun e w'' => e = .returned (.bool (L.any Option.isNone)) ∧ w'' = w') := fun w' h' => contains_any g c cur L w' h' hc hl
  have g1 : decide ((bl : Int) < 16) = false := decide_eq_false (by omega)
  have g2 : decide ((4096 : Int) < (bl : Int)) = false := decide_eq_false (by omega)
  have g3 : decide (bl < 16) = false := decide_eq_false (by omega)
  have g4 : decide (4096 < bl) = false := decide_eq_false (by omega)
  obtain ⟨n, hnn⟩ : ∃ n, k + m = n := ⟨_, rfl⟩
  rw [hnn] at hn cR
  obtain ⟨l, hll⟩ : ∃ l, L.length = l := ⟨_, rfl⟩
  rw [hll] at CC hn ⊢
  clear hw1 bw1 hs h hc k1 m1 hkm b1 b2 hl hnn hll
  go_enter Tryz.func29, Tryz.ntmps29
  go_wp2_with fail
  rw [HW1.out]
  go_at_call 46
  refine cR.mono ?_
  rintro e w2 ⟨p, SS, rfl, hp, hcode, b2⟩
  clear cR
  have h2s := (b2.block w.heap.size (Array.getElem?_eq_some_iff.1 HS.out.1).1).trans HS.out.1
  have h2g := (b2.block g (Array.getElem?_eq_some_iff.1 HS.out.2.1).1).trans HS.out.2.1
  have cN := Rz.N_any p k n SS w2 hcode
  have c2 := cell_of_row w2 w.heap.size 2 _ _ _ h2s
  simp only [List.getElem?_toArray, List.getElem?_cons_zero, List.getElem?_cons_succ] at c2
  have cC := CC.out w2 h2g
  have H2 : Hid (Below w.heap.size w w2) := HS.out.2.2.trans (b2.mono HS.out.2.2.size)
  clear hp hcode b2 h2s h2g c0 c1 CC
  go_wp2_with fail
  go_at_call 47
  refine cN.mono ?_
  rintro e w3 ⟨rfl, rfl⟩
  clear cN
  by_cases hln : l = n
  · subst hln
    rcases hn with hn | hn
    · exact absurd rfl hn
    rw [hn] at cC
    clear hn
    go_wp2_with fail
    go_at_call 48
    refine cC.mono ?_
    rintro e w4 ⟨rfl, rfl⟩
    clear cC
    go_wp2
    go_ret2
    exact ⟨rfl, H2.out⟩
  · have q1 : ((l : Int) == (n : Int)) = false := by rw [beq_eq_false_iff_ne]; omega
    have q2 : ((l : Int) != (n : Int)) = true := by rw [bne_iff_ne]; omega
    have q3 : (l == n) = false := by rw [beq_eq_false_iff_ne]; omega
    have q4 : (l != n) = true := by rw [bne_iff_ne]; omega
    clear hn cC hln
    go_wp2
    go_ret2
    exact ⟨rfl, H2.out⟩
end Go.Proofs.YtebngmgdciahiaaGreatDoor
