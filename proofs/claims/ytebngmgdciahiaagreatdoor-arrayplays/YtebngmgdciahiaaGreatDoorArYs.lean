/-
  The pair: Same.
-/
import Derived.Test.YtebngmgdciahiaaGreatDoorArY
set_option maxRecDepth 100000
namespace Go.Proofs.YtebngmgdciahiaaGreatDoor
open Go.RowKit Crc
open _root_.Go.Proofs.YtebngmgdciahiaaGreatDoor.Nm _root_.Go.Proofs.YtebngmgdciahiaaGreatDoor.Dk
attribute [local go_sem ↓] Go.wp_at_zero Go.wp_at_succ
set_option linter.unusedVariables false
set_option maxHeartbeats 8000000 in
theorem psame_any {w0 w : World} {R : Rg} {S : Nat → St} {zz : Fz} {pp ab vb kq kg N gd gcap gv vcap : Nat} (h : Ar w0 w R (some kq) (some kg) S S (some zz) (some zz)) (P : Pd w0 R pp ab vb kq kg N gd gcap gv vcap) (hN : N ≤ 1000) :
    Calls Tryz.prog 18 #[.pointer (some ⟨pp, 0, none⟩)] w fun e w' => e = .returned (.bool true) ∧ Below w.heap.size w w' := by
  have CE : Hid (∀ wr, Below w.heap.size w wr → wr.cell? ⟨pp, 1, none⟩ = some (.slice (some ⟨gd, 0, none⟩) N gcap) ∧ wr.cell? ⟨pp, 2, none⟩ = some (.pointer (some ⟨kq, 0, none⟩)) ∧ wr.cell? ⟨pp, 3, none⟩ = some (.pointer (some ⟨vb, 0, none⟩)) ∧ wr.cell? ⟨pp, 4, none⟩ = some (.pointer (some ⟨kg, 0, none⟩)) ∧ wr.cell? ⟨vb, 4, none⟩ = some (.slice (some ⟨gv, 0, none⟩) N vcap) ∧ ∀ i, i < N → wr.cell? ⟨gd, i, none⟩ = some (.pointer (some ⟨(R.P i).p, 0, none⟩)) ∧ wr.cell? ⟨gv, i, none⟩ = some (.pointer (some ⟨(R.P i).d, 0, none⟩))) := fun wr b => (P.c _ _ _ _ _ _ _ (h.keep b)).2
  have CS : Hid (∀ wr, Below w.heap.size w wr → ∀ i, i < N → Calls Tryz.prog 40 #[.pointer (some ⟨(R.P i).p, 0, none⟩), .pointer (some ⟨(R.P i).d, 0, none⟩)] wr fun e w' => e = .returned (.bool true) ∧ Below wr.heap.size wr w') := fun wr b i hi => same_any w0 wr _ _ _ _ _ _ _ _ ((h.keep b).pr (i := i) (by rw [P.n]; exact hi))
  have CF : Hid (∀ wr, Below w.heap.size w wr → FZ wr (some kq) (some zz) ∧ Zs wr (some kg) (some zz)) := fun wr b => ⟨(h.keep b).fz, (h.keep b).zs⟩
  clear h P
  go_enter Tryz.func18, Tryz.ntmps18
  go_wp2_with fail
  go_loopw [3] (fun ii wr => ∃ j : Nat, j ≤ N ∧ ii = .int .i64 j ∧ Hid (Below w.heap.size w wr)) (fun ii _ => N - (intOf ii).toNat)
  case atStart => exact ⟨0, Nat.zero_le _, rfl, Below.refl _ _⟩
  case round =>
    obtain ⟨j, hj, rfl, hb⟩ := hrel
    have q1 := (CE.out wr hb.out).1
    by_cases hlt : j < N
    · have ij : (j : Int) < (N : Int) := by omega
      have bd : Below w.heap.size w wr.drew := hb.out.trans ((Below.refl _ _).drew.mono hb.out.size)
      have cE := CE.out _ bd
      have HS9 : Hid (wr.drew.cell? ⟨pp, 1, none⟩ = some (.slice (some ⟨gd, 0, none⟩) N gcap) ∧ wr.drew.cell? ⟨pp, 3, none⟩ = some (.pointer (some ⟨vb, 0, none⟩)) ∧ wr.drew.cell? ⟨vb, 4, none⟩ = some (.slice (some ⟨gv, 0, none⟩) N vcap) ∧ wr.drew.cell? ⟨gd, j, none⟩ = some (.pointer (some ⟨(R.P j).p, 0, none⟩)) ∧ wr.drew.cell? ⟨gv, j, none⟩ = some (.pointer (some ⟨(R.P j).d, 0, none⟩))) := ⟨cE.1, cE.2.2.1, cE.2.2.2.2.1, (cE.2.2.2.2.2 j hlt).1, (cE.2.2.2.2.2 j hlt).2⟩
      have K : Hid (Calls Tryz.prog 40 #[.pointer (some ⟨(R.P j).p, 0, none⟩), .pointer (some ⟨(R.P j).d, 0, none⟩)] wr.drew fun e w' => e = .returned (.bool true) ∧ (w'.cell? ⟨pp, 1, none⟩ = some (.slice (some ⟨gd, 0, none⟩) N gcap) ∧ w'.cell? ⟨pp, 3, none⟩ = some (.pointer (some ⟨vb, 0, none⟩)) ∧ w'.cell? ⟨vb, 4, none⟩ = some (.slice (some ⟨gv, 0, none⟩) N vcap) ∧ w'.cell? ⟨gd, j, none⟩ = some (.pointer (some ⟨(R.P j).p, 0, none⟩)) ∧ w'.cell? ⟨gv, j, none⟩ = some (.pointer (some ⟨(R.P j).d, 0, none⟩))) ∧ Hid (Below w.heap.size w w')) := by
        refine (CS.out _ bd j hlt).mono ?_
        rintro e w' ⟨rfl, b'⟩
        have b9 := bd.trans (b'.mono bd.size)
        have cE := CE.out _ b9
        exact ⟨rfl, ⟨cE.1, cE.2.2.1, cE.2.2.2.2.1, (cE.2.2.2.2.2 j hlt).1, (cE.2.2.2.2.2 j hlt).2⟩, b9⟩
      have HJ : Hid (j < N) := hlt
      clear cE bd hlt hb
      go_wp2_with fail
      go_region_held3 (fun Y => Y.cell? ⟨pp, 1, none⟩ = some (.slice (some ⟨gd, 0, none⟩) N gcap) ∧ Y.cell? ⟨pp, 3, none⟩ = some (.pointer (some ⟨vb, 0, none⟩)) ∧ Y.cell? ⟨vb, 4, none⟩ = some (.slice (some ⟨gv, 0, none⟩) N vcap) ∧ Y.cell? ⟨gd, j, none⟩ = some (.pointer (some ⟨(R.P j).p, 0, none⟩)) ∧ Y.cell? ⟨gv, j, none⟩ = some (.pointer (some ⟨(R.P j).d, 0, none⟩)))
        (first | with_reducible exact HS9.out | with_reducible exact p1)
        (first
          | (go_at_call 40; with_reducible refine K.out.mono ?_; rintro e w8 ⟨rfl, p1, HE⟩))
      clear K HS9 p1 q1
      go_wp2
      go_round
      case rel => exact ⟨j + 1, HJ.out, by go_num, HE.out⟩
      case measure => simp [intOf]; omega
    · have hjn : j = N := by omega
      subst hjn
      have ij : decide ((j : Int) < (j : Int)) = false := by simp
      have cE := CE.out _ hb.out
      have q2 := cE.2.1
      have q4 := cE.2.2.2.1
      have hz := CF.out _ hb.out
      have cA := fun n => ops_any kq zz (wr.drewN n) ((hz.1.keep (bdn' wr n)))
      have cB := fun n => blown_any (some kq) (some zz) (wr.drewN n) ((hz.1.keep (bdn' wr n)))
      have hzs : wr.heap[kg]? = some (.cells #[.int .i64 zz.n, .int .i64 zz.done, .bool zz.blown] 67) := hz.2
      have z1 := cell_of_row wr kg 1 _ _ _ hzs
      have z2 := cell_of_row wr kg 2 _ _ _ hzs
      simp only [List.getElem?_toArray, List.getElem?_cons_zero, List.getElem?_cons_succ] at z1 z2
      rw [show blB (some zz) = zz.blown from rfl] at cB
      obtain ⟨dn, hdn⟩ : ∃ dn, zz.done = dn := ⟨_, rfl⟩
      obtain ⟨bw, hbw⟩ : ∃ bw, zz.blown = bw := ⟨_, rfl⟩
      rw [hdn] at cA z1
      rw [hbw] at cB z2
      have gd9 : (dn == dn) = true := beq_self_eq_true dn
      clear cE hz hzs hlt hdn hbw
      go_wp2_with fail
      go_quiet (first
        | (go_at_call 41; refine (cA _).mono ?_; rintro e w9 ⟨rfl, rfl⟩; exact ⟨rfl, _, rfl⟩)
        | (go_at_call 42; refine (cB _).mono ?_; rintro e w9 ⟨rfl, k9, rfl⟩; exact ⟨rfl, _, drewN_two _ _ _⟩))
      go_wp2
      go_ret
      exact ⟨by simp, hb.out.trans ((bdn' _ _).mono hb.out.size)⟩
end Go.Proofs.YtebngmgdciahiaaGreatDoor
