/-
  Two rows of numbers that are the same; awake of layer 12.
-/
import Derived.Test.YtebngmgdciahiaaGreatDoorArH
import Derived.Test.YtebngmgdciahiaaGreatDoorArS
set_option maxRecDepth 100000
namespace Go.Proofs.YtebngmgdciahiaaGreatDoor
open Go.RowKit Crc
open _root_.Go.Proofs.YtebngmgdciahiaaGreatDoor.Nm _root_.Go.Proofs.YtebngmgdciahiaaGreatDoor.Dk
attribute [local go_sem ↓] Go.wp_at_zero Go.wp_at_succ
set_option linter.unusedVariables false

set_option maxHeartbeats 4000000 in
theorem ints_same {w : World} {B B' : Nat} {v v' : Value} {L : List Nat} (h : VOwn 3 w B v (L.map iv)) (h' : VOwn 3 w B' v' (L.map iv)) (hl : L.length ≤ 1000) :
    Calls Tryz.prog 14 #[v, v'] w fun e w' => e = .returned (.bool true) ∧ ∃ n, w' = w.drewN n := by
  have hml : (L.map iv).length = L.length := List.length_map _
  have hc : ∀ m j, j < L.length → ∃ g c g' c', v = .slice (some ⟨g, 0, none⟩) L.length c ∧ v' = .slice (some ⟨g', 0, none⟩) L.length c' ∧ ∃ x : Nat, (w.drewN m).cell? ⟨g, j, none⟩ = some (.int .i64 (x : Int)) ∧ (w.drewN m).cell? ⟨g', j, none⟩ = some (.int .i64 (x : Int)) := fun m j hj => by
    rcases (h.keep (bdn' w m)).row with ⟨_, e2⟩ | ⟨g, c, cur, e, _, hh, hcell, _, _⟩
    · have : L.length = 0 := by rw [← hml, e2]; rfl
      omega
    rcases (h'.keep (bdn' w m)).row with ⟨_, e2⟩ | ⟨g', c', cur', e', _, hh', hcell', _, _⟩
    · have : L.length = 0 := by rw [← hml, e2]; rfl
      omega
    rw [hml] at e e' hcell hcell'
    have hx : (L.map iv)[j]? = some (.int .i64 ((L[j]! : Nat) : Int)) := by rw [List.getElem?_map, List.getElem?_eq_getElem hj, getElem!_pos L j hj]; rfl
    exact ⟨g, c, g', c', e, e', L[j]!, by rw [cell_of_row _ g j _ _ _ hh, hcell j hj, hx], by rw [cell_of_row _ g' j _ _ _ hh', hcell' j hj, hx]⟩
  obtain ⟨a, c, rfl⟩ := h.form
  obtain ⟨a', c', rfl⟩ := h'.form
  rw [hml] at hc ⊢
  obtain ⟨n, hn⟩ : ∃ n, L.length = n := ⟨_, rfl⟩
  rw [hn] at hc hl ⊢
  have HC : Hid (∀ m j, j < n → ∃ g g' : Nat, a = some ⟨g, 0, none⟩ ∧ a' = some ⟨g', 0, none⟩ ∧ ∃ x : Nat, (w.drewN m).cell? ⟨g, j, none⟩ = some (.int .i64 (x : Int)) ∧ (w.drewN m).cell? ⟨g', j, none⟩ = some (.int .i64 (x : Int))) := fun m j hj => by
    obtain ⟨g, c1, g', c2, e1, e2, x⟩ := hc m j hj
    injection e1 with e1 _ _
    injection e2 with e2 _ _
    exact ⟨g, g', e1, e2, x⟩
  have hb : (n : Int) ≤ 1000 := by omega
  clear hc h h' hml hn hl
  go_enter Tryz.func14, Tryz.ntmps14
  go_wp2_with fail
  go_loopw [5] (fun i wr => ∃ j m : Nat, j ≤ n ∧ i = .int .i64 j ∧ wr = w.drewN m) (fun i _ => n - (intOf i).toNat)
  case atStart => exact ⟨0, 0, Nat.zero_le _, rfl, rfl⟩
  case round =>
    obtain ⟨j, m, hj, rfl, hwr⟩ := hrel
    by_cases hlt : j < n
    · have ij : (j : Int) < (n : Int) := by omega
      obtain ⟨g, g', rfl, rfl, x, t0, t1⟩ := HC.out m j hlt
      have HW : Hid (wr = w.drewN m) := hwr
      rw [← hwr] at t0 t1
      clear hwr
      go_wp2_with fail
      go_quiet (fail)
      go_wp2
      go_round
      case rel => exact ⟨j + 1, m + nq, by omega, by go_num, by rw [HW.out]; simp⟩
      case measure => simp [intOf]; omega
    · have hjn : j = n := by omega
      subst hjn
      have ij : decide ((j : Int) < (j : Int)) = false := by simp
      have HW : Hid (wr = w.drewN m) := hwr
      clear hwr hlt
      go_wp2
      go_ret
      exact ⟨rfl, m, HW.out⟩
/-- The cells of a pair that are asked for. -/
theorem Ps.arr {W0 w : World} {R : Rg} {q g : Option Nat} {S T : Nat → St} {z z2 : Option Fz} (h : Ar W0 w R q g S T z z2) {pp ab vb kq kg n : Nat} (p : Ps R pp ab vb kq kg n) : w.cell? ⟨pp, 0, none⟩ = some (.pointer (some ⟨ab, 0, none⟩)) := by
  obtain ⟨gd, cap, cur, h1, _⟩ := p.ex
  have := cell_of_row w pp 0 _ _ _ (h.kept h1)
  simpa [pv] using this
theorem Ps.fuse {W0 w : World} {R : Rg} {q g : Option Nat} {S T : Nat → St} {z z2 : Option Fz} (h : Ar W0 w R q g S T z z2) {pp ab vb kq kg n : Nat} (p : Ps R pp ab vb kq kg n) : w.cell? ⟨pp, 2, none⟩ = some (.pointer (some ⟨kq, 0, none⟩)) := by
  obtain ⟨gd, cap, cur, h1, _⟩ := p.ex
  have := cell_of_row w pp 2 _ _ _ (h.kept h1)
  simpa [pv] using this
/-- A disk of the pair. -/
theorem Ps.disk {W0 w : World} {R : Rg} {q g : Option Nat} {S T : Nat → St} {z z2 : Option Fz} (h : Ar W0 w R q g S T z z2) {pp ab vb kq kg n : Nat} (p : Ps R pp ab vb kq kg n) {i : Nat} (hi : i < n) : ∃ gd cap, w.cell? ⟨pp, 1, none⟩ = some (.slice (some ⟨gd, 0, none⟩) n cap) ∧ w.cell? ⟨gd, i, none⟩ = some (.pointer (some ⟨(R.P i).p, 0, none⟩)) := by
  obtain ⟨gd, cap, cur, h1, h2, h3, _⟩ := p.ex
  refine ⟨gd, cap, ?_, ?_⟩
  · have := cell_of_row w pp 1 _ _ _ (h.kept h1)
    simpa [pv] using this
  · rw [cell_of_row w gd i _ _ _ (h.kept h2), h3 i hi]; rfl
def sw (l : List Fl) : St := s1 l 1000
def fF (i : Nat) : List Fl := [⟨pFmt, fmtB 2 1 i, true⟩]
theorem cz_zn (d j : Nat) (h : d ≤ j) : ZN j (cz (d : Int)) := ⟨_, rfl, by show (0 : Int) ≤ (d : Int); omega, by show (d : Int) ≤ (j : Int); omega⟩
theorem aw_voices (d : Int) : (vcs 2 1 (cz d) (up (up (fun _ => s1 [] 1000) 0 (sw (fF 0))) 2 (sw (fF 2))) 3).1 = [0, 2] := by
  have := vcs_gen (k := 2) (m := 1) (n := 3) (d0 := d) (S := up (up (fun _ => s1 [] 1000) 0 (sw (fF 0))) 2 (sw (fF 2))) (N := up (up (fun _ => s1 [] 1000) 0 (sw (fF 0))) 2 (sw (fF 2))) (V := fun i => i == 0 || i == 2) (fun i hi d => by
    match i, hi with
    | 0, _ =>
      have := voi1 d 1000 (fmtB 2 1 0) (fmtB 2 1 0) true
      refine ⟨?_, this.2⟩
      show (voiZ (cz d) (s1 [⟨pFmt, fmtB 2 1 0, true⟩] 1000) (fmtB 2 1 0)).1 = true
      rw [this.1]; simp
    | 1, _ =>
      have := voi0 d 1000 (fmtB 2 1 1)
      refine ⟨?_, this.2⟩
      show (voiZ (cz d) (s1 [] 1000) (fmtB 2 1 1)).1 = false
      rw [this.1]
    | 2, _ =>
      have := voi1 d 1000 (fmtB 2 1 2) (fmtB 2 1 2) true
      refine ⟨?_, this.2⟩
      show (voiZ (cz d) (s1 [⟨pFmt, fmtB 2 1 2, true⟩] 1000) (fmtB 2 1 2)).1 = true
      rw [this.1]; simp) 3 (Nat.le_refl _)
  rw [this]
  rfl
set_option maxHeartbeats 8000000 in
theorem awake12 (W0 w : World) (b0 : Below W0.heap.size W0 w) (T : HalfT W0) : Calls Tryz.prog 5 #[] w fun e w' => e = .returned (.bool true) ∧ Below w.heap.size w w' := by
  have cM := make_any w w (Below.refl _ _) 2 1 16 1000 (by decide) (by decide) (by decide) (by decide) (by decide) (by decide) (by decide) (by decide)
  have HT : Hid (HalfT w) := T.keep b0
  clear b0 T
  go_enter Tryz.func5, Tryz.ntmps5
  go_wp2_with fail
  go_at_call 6
  refine cM.mono ?_
  rintro e w1 hE
  obtain ⟨B, pp, hB, _, _, rfl, hM⟩ := hE.resolve_right fun q => q.1 ⟨by decide, by decide⟩
  have hB : B = 16 := by omega
  subst hB
  clear hE cM
  obtain ⟨R, kq, kg, ab, vb, hA, hs, hv, hp, hb⟩ := hM.out
  clear hM
  rw [s1_new] at hA
  have hS0 : (savZ (some z0) (s1 [] 1000) pFmt (fmtB 2 1 0)) = (0, cz 3, sw (fF 0)) := sav0 0 1000 (fmtB 2 1 0) (by rw [fmtB_sz]; decide) (by rw [fmtB_sz]; decide)
  have hS2 : (savZ (cz 3) (s1 [] 1000) pFmt (fmtB 2 1 2)) = (0, cz 6, sw (fF 2)) := sav0 3 1000 (fmtB 2 1 2) (by rw [fmtB_sz]; decide) (by rw [fmtB_sz]; decide)
  have t := HT.out
  -- Format 0, Format 2
  have p0 := Ps.arr hA hp
  have HS9 : Hid (w1.drew.cell? ⟨pp, 0, none⟩ = some (.pointer (some ⟨ab, 0, none⟩))) := p0
  have K : Hid (Calls Tryz.prog 8 #[.pointer (some ⟨ab, 0, none⟩), .int .i64 0] w1.drew fun e w5 => e = .returned (.int .i64 0) ∧ w5.cell? ⟨pp, 0, none⟩ = some (.pointer (some ⟨ab, 0, none⟩)) ∧ Hid (Calls Tryz.prog 8 #[.pointer (some ⟨ab, 0, none⟩), .int .i64 2] w5 fun e w6 => e = .returned (.int .i64 0) ∧ w6.cell? ⟨pp, 0, none⟩ = some (.pointer (some ⟨ab, 0, none⟩)) ∧ Hid (Ar w w6 R (some kq) (some kg) (up (up (fun _ => s1 [] 1000) 0 (sw (fF 0))) 2 (sw (fF 2))) (fun _ => s1 [] 1000) (cz 6) (some z0)))) := by
    have c1 := format_any (hA.keep (Below.refl _ _).drew) t hs (i := 0) (by decide) (cz_zn 0 0 (Nat.le_refl _)) (by decide)
    rw [hS0] at c1
    refine c1.mono ?_
    rintro e w5 ⟨rfl, a1, _⟩
    dsimp only at a1
    refine ⟨rfl, Ps.arr a1 hp, ?_⟩
    have c2 := format_any a1 t hs (i := 2) (by decide) (cz_zn 3 3 (Nat.le_refl _)) (by decide)
    rw [up_of _ _ (show (2 : Nat) ≠ 0 by decide), hS2] at c2
    refine c2.mono ?_
    rintro e w6 ⟨rfl, a2, _⟩
    exact ⟨rfl, Ps.arr a2 hp, a2⟩
  have HP : Hid (Hs R ab 2 1 16 ∧ Ps R pp ab vb kq kg (2 + 1)) := ⟨hs, hp⟩
  clear hA hs hv hp hb hS0 hS2 p0 t
  go_wp2_with fail
  go_region_held3 (fun Y => Y.cell? ⟨pp, 0, none⟩ = some (.pointer (some ⟨ab, 0, none⟩)))
    (first | with_reducible exact HS9.out | with_reducible exact p1 | with_reducible exact p2)
    (first
      | (go_at_call 8; with_reducible refine K.out.mono ?_; rintro e w5 ⟨rfl, p1, HK2⟩)
      | (go_at_call 8; with_reducible refine HK2.out.mono ?_; rintro e w6 ⟨rfl, p2, HE⟩))
  clear K HK2 HS9 p1
  -- Voice 0
  have cV := voice_any HE.out HT.out HP.out.1 (i := 0) (by decide) (zn_zb (cz_zn 6 6 (Nat.le_refl _)) (by decide))
  have hv0 : voiZ (cz 6) (up (up (fun _ => s1 [] 1000) 0 (sw (fF 0))) 2 (sw (fF 2)) 0) (fmtB 2 1 0) = (true, 0) := by
    have := (voi1 6 1000 (fmtB 2 1 0) (fmtB 2 1 0) true).1
    show voiZ (cz 6) (s1 [⟨pFmt, fmtB 2 1 0, true⟩] 1000) (fmtB 2 1 0) = _
    rw [this]; simp
  rw [hv0] at cV
  dsimp only at cV
  clear hv0
  go_wp2_with fail
  go_at_call 10
  refine cV.mono ?_
  rintro e w7 ⟨rfl, a7, _⟩
  clear cV p2
  have hst : up (up (up (fun _ => s1 [] 1000) 0 (sw (fF 0))) 2 (sw (fF 2))) 0 (askZ (cz 6) (up (up (fun _ => s1 [] 1000) 0 (sw (fF 0))) 2 (sw (fF 2)) 0) [pFmt]).2.2 = up (up (fun _ => s1 [] 1000) 0 (sw (fF 0))) 2 (sw (fF 2)) := by
    have e : (askZ (cz 6) (up (up (fun _ => s1 [] 1000) 0 (sw (fF 0))) 2 (sw (fF 2)) 0) [pFmt]).2.2 = (up (up (fun _ => s1 [] 1000) 0 (sw (fF 0))) 2 (sw (fF 2)) 0) := (voi1 6 1000 (fmtB 2 1 0) (fmtB 2 1 0) true).2
    rw [e, up_self]
  rw [hst, cz_tick] at a7
  have p7 := Ps.arr a7 HP.out.2
  have cW := voices_any a7 HT.out HP.out.1 (j0 := 7) (cz_zn 7 7 (Nat.le_refl _)) (by decide)
  have hvo := aw_voices (6 + 1)
  rw [hvo] at cW
  clear hst hvo a7 HE
  go_wp2_with fail
  go_at_call 15
  refine cW.mono ?_
  rintro e w8 ⟨v8, rfl, o8, a8, _⟩
  clear cW p7
  have o9 := VOwn.lit (E := 3) w8 [iv 0, iv 2] (by unfold maxLen; decide)
  have cI := ints_same (L := [0, 2]) (o8.keep (bal w8 (.cells (([iv 0, iv 2] : List Value).toArray) 3))) o9 (by decide)
  have a9 := a8.keep (bal w8 (.cells (([iv 0, iv 2] : List Value).toArray) 3))
  change Calls Tryz.prog 14 #[v8, .slice (some ⟨w8.heap.size, 0, none⟩) 2 2] (w8.alloc (.cells #[.int .i64 0, .int .i64 2] 3)) (fun e w' => e = .returned (.bool true) ∧ ∃ n, w' = (w8.alloc (.cells #[.int .i64 0, .int .i64 2] 3)).drewN n) at cI
  have A9 : Hid (Ar w (w8.alloc (.cells #[.int .i64 0, .int .i64 2] 3)) R (some kq) (some kg) _ _ _ _) := a9
  clear a8 a9 o8 o9
  go_wp2_with fail
  go_at_call 14
  refine cI.mono ?_
  rintro e w9 ⟨rfl, n9, hw9⟩
  clear cI
  have a9 := A9.out.keep (bdn' _ n9)
  rw [← hw9] at a9
  have cQ := quorum_any (a9.ax HP.out.1)
  have cN := fun n => an_any ((a9.ax HP.out.1).keep (bdn' w9 n))
  have p9 := Ps.arr a9 HP.out.2
  have HB : Hid (Below w.heap.size w w9) := a9.b
  rw [show quo 2 1 = 2 by decide] at cQ
  clear hw9 A9 a9
  go_wp2_with fail
  go_at_call 19
  refine cQ.mono ?_
  rintro e wa ⟨rfl, na, rfl⟩
  have cN := cN na
  clear cQ
  go_wp2_with fail
  go_at_call 21
  refine cN.mono ?_
  rintro e wb ⟨rfl, rfl⟩
  go_wp2
  go_ret
  exact ⟨rfl, HB.out.trans ((bdn' _ _).mono HB.out.size)⟩
end Go.Proofs.YtebngmgdciahiaaGreatDoor
