/-
  The document's Voices, Quorum.
-/
import Derived.Test.YtebngmgdciahiaaGreatDoorArXg
set_option maxRecDepth 100000
namespace Go.Proofs.YtebngmgdciahiaaGreatDoor
open Go.RowKit Crc
open _root_.Go.Proofs.YtebngmgdciahiaaGreatDoor.Nm _root_.Go.Proofs.YtebngmgdciahiaaGreatDoor.Dk
attribute [local go_sem ↓] Go.wp_at_zero Go.wp_at_succ
set_option linter.unusedVariables false
set_option maxHeartbeats 8000000 in
theorem rvoices_any {w0 w : World} {R : Rg} {q g : Option Nat} {S T : Nat → St} {z z2 : Option Fz} {j0 b k m bl : Nat} (h : Ar w0 w R q g S T z z2) (a : Vs R b k m bl) (hN : R.n = k + m) (hn : k + m ≤ 255) (hz : ZN j0 z2) (hj : j0 ≤ 900000) :
    Calls Tryz.prog 16 #[.pointer (some ⟨b, 0, none⟩)] w fun e w' => ∃ v, e = .returned v ∧ VOwn 3 w' w.heap.size v ((vcs k m z2 T (k + m)).1.map iv) ∧ Ar w0 w' R q g S (vcs k m z2 T (k + m)).2.2 z (vcs k m z2 T (k + m)).2.1 ∧ Kd w w' := by
  obtain ⟨n, hnn⟩ : ∃ n, k + m = n := ⟨_, rfl⟩
  rw [hnn]
  have VC : Hid (∀ (wr : World) (T' : Nat → St) (z' : Option Fz), Ar w0 wr R q g S T' z z' → ∃ g cap, wr.cell? ⟨b, 4, none⟩ = some (.slice (some ⟨g, 0, none⟩) n cap)) := fun wr T' z' h1 => by
    obtain ⟨vg, vcap, _, _, c4, _⟩ := (h1.vx a).cells
    rw [hnn] at c4
    exact ⟨vg, vcap, c4⟩
  have CV : Hid (∀ (wr : World) (T' : Nat → St) (z' : Option Fz), Ar w0 wr R q g S T' z z' → ∀ j, j < n → Zb z' → Calls Tryz.prog 11 #[.pointer (some ⟨b, 0, none⟩), .int .i64 (j : Int)] wr fun e w' => e = .returned (.tuple #[.bool (voiZ z' (T' j) (fmtB k m j)).1, .int .i64 (voiZ z' (T' j) (fmtB k m j)).2]) ∧ Ar w0 w' R q g S (up T' j (askZ z' (T' j) [pFmt]).2.2) z (tickO z') ∧ Kd wr w') := fun wr T' z' h1 j hj hb => rvoice_any h1 a hN hn (by omega) hb
  have HZ : Hid (∀ j, j ≤ n → Zb (vcs k m z2 T j).2.1) := fun j hj => zn_zb (vcs_zn hz j) (by omega)
  have HA0 : Hid (Ar w0 w R q g S T z z2) := h
  have HKB : Hid (∀ k o, R.K k = some o → k < w.heap.size) := fun k o e => h.kb k o e
  have HW0 : Hid (w0.heap.size ≤ w.heap.size) := h.b.size
  have hnb : (n : Int) ≤ 255 := by omega
  clear h a hz hj hN hn hnn
  go_enter Tryz.func16, Tryz.ntmps16
  go_wp2_with fail
  go_loopw [3, 4] (fun vv i wr => ∃ (j : Nat) (v : Value), j ≤ n ∧ i = .int .i64 j ∧ v = vv ∧ VOwn 3 wr w.heap.size v ((vcs k m z2 T j).1.map iv) ∧ Ar w0 wr R q g S (vcs k m z2 T j).2.2 z (vcs k m z2 T j).2.1 ∧ Kd w wr ∧ w.heap.size ≤ wr.heap.size) (fun _ i _ => n - (intOf i).toNat)
  case atStart => exact ⟨0, _, Nat.zero_le _, rfl, rfl, VOwn.start _ _ _, HA0.out, Kd.refl _, Nat.le_refl _⟩
  case round =>
    obtain ⟨j, v, hj, rfl, rfl, hv, hA, hk, hs⟩ := hrel
    obtain ⟨vg, vcap, c4⟩ := VC.out _ _ _ hA
    by_cases hlt : j < n
    · have ij : (j : Int) < (n : Int) := by omega
      have cV := CV.out wr _ _ hA j hlt (HZ.out j hj)
      have hstep : vcs k m z2 T (j + 1) = ((if (voiZ (vcs k m z2 T j).2.1 ((vcs k m z2 T j).2.2 j) (fmtB k m j)).1 = true then (vcs k m z2 T j).1 ++ [j] else (vcs k m z2 T j).1), tickO (vcs k m z2 T j).2.1, up (vcs k m z2 T j).2.2 j (askZ (vcs k m z2 T j).2.1 ((vcs k m z2 T j).2.2 j) [pFmt]).2.2) := rfl
      obtain ⟨⟨vb, ve⟩, hve⟩ : ∃ x, voiZ (vcs k m z2 T j).2.1 ((vcs k m z2 T j).2.2 j) (fmtB k m j) = x := ⟨_, rfl⟩
      rw [hve] at cV hstep
      dsimp only at cV hstep
      obtain ⟨z', hz'⟩ : ∃ z', tickO (vcs k m z2 T j).2.1 = z' := ⟨_, rfl⟩
      obtain ⟨S', hS'⟩ : ∃ S', up (vcs k m z2 T j).2.2 j (askZ (vcs k m z2 T j).2.1 ((vcs k m z2 T j).2.2 j) [pFmt]).2.2 = S' := ⟨_, rfl⟩
      rw [hz', hS'] at cV hstep
      have hlen := vcs_len k m z2 T j
      obtain ⟨l, hl⟩ : ∃ l, (vcs k m z2 T j).1 = l := ⟨_, rfl⟩
      rw [hl] at hstep hv hlen
      have HST : Hid (vcs k m z2 T (j + 1) = ((if vb = true then l ++ [j] else l), z', S')) := hstep
      have HV : Hid (VOwn 3 wr w.heap.size v (l.map iv) ∧ Kd w wr ∧ w.heap.size ≤ wr.heap.size ∧ l.length ≤ j) := ⟨hv, hk, hs, hlen⟩
      have HJ : Hid (j < n) := hlt
      clear hve hz' hS' hl hstep hv hA hk hs hlen hlt
      go_wp2_with fail
      go_at_call 11
      refine cV.mono ?_
      rintro e w2 ⟨rfl, hA2, hk2⟩
      have HA2 : Hid (Ar w0 w2 R q g S S' z z' ∧ Kd wr w2) := ⟨hA2, hk2⟩
      have hv2 := HV.out.1.kd hk2 kT_int
      have hsz2 := hA2.b.size
      clear cV hA2 hk2
      cases vb with
      | false =>
        clear hv2
        go_wp2
        go_round
        case rel =>
          have e9 := HST.out
          rw [if_neg (by decide)] at e9
          refine ⟨j + 1, _, by have := HJ.out; omega, by go_num, rfl, ?_, ?_, HV.out.2.1.trans HA2.out.2, ?_⟩
          · rw [e9]; exact HV.out.1.kd HA2.out.2 kT_int
          · rw [e9]; exact HA2.out.1
          · exact Nat.le_trans HV.out.2.2.1 HA2.out.2.1
        case measure => simp [intOf]; omega
      | true =>
        have e9 := HST.out
        rw [if_pos rfl] at e9
        obtain ⟨v2, W, r1, r2, r3⟩ := append1 (S := 52) (E := 3) (zv := .int .i64 0) (by8 := 8) Tryz.underlying52 infoI rfl (by omega) hv2 (iv j) rfl (by rw [List.length_map]; have := HV.out.2.2.2; omega) (Nat.le_trans HV.out.2.2.1 HA2.out.2.1)
        have HR : Hid (Sem.run Tryz.prog (Builtin.append_ #[52, 52] 52 #[v, .slice (some ⟨w2.heap.size, 0, none⟩) 1 1]) (w2.alloc (.cells #[.int .i64 (j : Int)] 3)) = .ok v2 W) := r1
        have HE : Hid (VOwn 3 W w.heap.size v2 ((vcs k m z2 T (j + 1)).1.map iv) ∧ Ar w0 W R q g S (vcs k m z2 T (j + 1)).2.2 z (vcs k m z2 T (j + 1)).2.1 ∧ Kd w W ∧ w.heap.size ≤ W.heap.size) := by
          rw [e9]
          refine ⟨by dsimp only; rw [List.map_append]; exact r2, r3.ar HW0.out HA2.out.1 kT_int HKB.out, (HV.out.2.1.trans HA2.out.2).ud r3, Nat.le_trans (Nat.le_trans HV.out.2.2.1 HA2.out.2.1) r3.size⟩
        clear hv2 r1 r2 r3 e9 HST hsz2
        go_wp2_with (at_builtin; refine wpList_append_ran (by rfl) _ _ 52 (by rfl) _ _ _ _ (by rfl) (by rfl) HR.out ?_)
        go_wp2
        go_round
        case rel => exact ⟨j + 1, _, by have := HJ.out; omega, by go_num, rfl, HE.out⟩
        case measure => simp [intOf]; omega
    · have hjn : j = n := by omega
      subst hjn
      have HE : Hid (VOwn 3 wr w.heap.size v ((vcs k m z2 T j).1.map iv) ∧ Ar w0 wr R q g S (vcs k m z2 T j).2.2 z (vcs k m z2 T j).2.1 ∧ Kd w wr) := ⟨hv, hA, hk⟩
      have ij : decide ((j : Int) < (j : Int)) = false := by simp
      clear hv hA hk hs hlt
      go_wp2
      go_ret
      exact ⟨_, rfl, HE.out⟩
end Go.Proofs.YtebngmgdciahiaaGreatDoor
