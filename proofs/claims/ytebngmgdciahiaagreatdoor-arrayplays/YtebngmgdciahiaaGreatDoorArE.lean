/-
  Quorum and Voices of an array of the program; two rows of numbers.
-/
import Derived.Test.YtebngmgdciahiaaGreatDoorArD
set_option maxRecDepth 100000
namespace Go.Proofs.YtebngmgdciahiaaGreatDoor
open Go.RowKit Crc
open _root_.Go.Proofs.YtebngmgdciahiaaGreatDoor.Nm _root_.Go.Proofs.YtebngmgdciahiaaGreatDoor.Dk
attribute [local go_sem ↓] Go.wp_at_zero Go.wp_at_succ
set_option linter.unusedVariables false

/-- The greater of the data's shards and a majority. -/
def quo (k m : Nat) : Nat := max k ((k + m) / 2 + 1)
set_option maxHeartbeats 2000000 in
theorem quorum_any {w : World} {b k m bl : Nat} {P : Nat → Pc} (h : AX w b k m bl P) : Calls Tryz.prog 19 #[.pointer (some ⟨b, 0, none⟩)] w fun e w' => e = .returned (.int .i64 ((quo k m : Nat) : Int)) ∧ ∃ n, w' = w.drewN n := by
  have cN0 := an_any h
  have cN := fun n => an_any (h.keep (bdn' w n))
  have hk := h.k1
  have hn := h.n
  obtain ⟨c, g, cap, cur, h1, h2, h3, h4⟩ := h.ex
  have c0 := cell_of_row w b 0 _ _ _ h1
  simp only [List.getElem?_toArray, List.getElem?_cons_zero] at c0
  obtain ⟨n, hN⟩ : ∃ n, k + m = n := ⟨_, rfl⟩
  have hq : quo k m = max k (n / 2 + 1) := by unfold quo; rw [hN]
  rw [hN] at cN cN0 hn
  have g1 : ((n : Int) == 0) = false := by rw [beq_eq_false_iff_ne]; omega
  have w1 : Int.tdiv (n : Int) 2 = ((n / 2 : Nat) : Int) := by rw [Int.tdiv_eq_ediv_of_nonneg (by omega)]; omega
  have w2 : IntKind.i64.wrap (((n / 2 : Nat) : Int) + 1) = ((n / 2 + 1 : Nat) : Int) := by rw [IntKind.wrap_i64]; omega
  obtain ⟨Q, hQ⟩ : ∃ Q, quo k m = Q := ⟨_, rfl⟩
  have HQ : Hid ((max k (n / 2 + 1) : Nat) = Q) := by unfold Hid; rw [← hq]; exact hQ
  rw [hQ]
  obtain ⟨hf, hhf⟩ : ∃ hf, n / 2 = hf := ⟨_, rfl⟩
  rw [hhf] at w1 w2 HQ
  have b1 : (hf : Int) ≤ 255 := by omega
  clear h h1 h2 h3 h4 hN hq hQ hhf
  go_enter Tryz.func19, Tryz.ntmps19
  go_wp2_with fail
  go_at_call 21
  refine (cN0).mono ?_
  rintro e w' ⟨rfl, rfl⟩
  clear cN0
  go_wp2_with fail
  go_quiet ((go_at_call 21; refine (cN _).mono ?_; rintro e w9 ⟨rfl, rfl⟩; exact ⟨rfl, _, rfl⟩))
  go_wp2
  all_goals
    go_ret
    first
    | (refine ⟨?_, _, rfl⟩; show Ending.returned (.int .i64 (max (k : Int) ((hf : Int) + 1))) = _; rw [show max (k : Int) ((hf : Int) + 1) = (Q : Int) by have := HQ.out; omega])
    | (refine ⟨?_, _, rfl⟩; show Ending.returned (.int .i64 ((hf : Int) + 1)) = _; rw [show (hf : Int) + 1 = (Q : Int) by have := HQ.out; omega])
    | (refine ⟨?_, _, rfl⟩; show Ending.returned (.int .i64 (k : Int)) = _; rw [show (k : Int) = (Q : Int) by have := HQ.out; omega])
/-- Which disks have a voice, asked one behind the other; the fuse and the disks behind it. -/
def vcs (k m : Nat) (z : Option Fz) (S : Nat → St) : Nat → List Nat × Option Fz × (Nat → St)
  | 0 => ([], z, S)
  | j + 1 => ((if (voiZ (vcs k m z S j).2.1 ((vcs k m z S j).2.2 j) (fmtB k m j)).1 = true then (vcs k m z S j).1 ++ [j] else (vcs k m z S j).1), tickO (vcs k m z S j).2.1, up (vcs k m z S j).2.2 j (askZ (vcs k m z S j).2.1 ((vcs k m z S j).2.2 j) [pFmt]).2.2)
def iv (i : Nat) : Value := .int .i64 (i : Int)
theorem vcs_zn {j0 k m : Nat} {z : Option Fz} {S : Nat → St} (h : ZN j0 z) (j : Nat) : ZN (j0 + j) (vcs k m z S j).2.1 := by
  induction j with
  | zero => exact h
  | succ j ih => exact ih.tick
theorem vcs_len (k m : Nat) (z : Option Fz) (S : Nat → St) (j : Nat) : (vcs k m z S j).1.length ≤ j := by
  induction j with
  | zero => exact Nat.le_refl _
  | succ j ih =>
    unfold vcs
    dsimp only
    split
    · rw [List.length_append]; simp; exact ih
    · omega
theorem infoI : (Tryz.prog.info? 3).map (fun i => (i.zero, i.size, i.bytes)) = some (some (.int .i64 0), 1, 8) := by kernel_rfl
theorem kT_int : kT 3 := ⟨by decide, by decide, by decide, by decide, by decide, by decide⟩
set_option maxHeartbeats 8000000 in
theorem voices_any {w0 w : World} {R : Rg} {q g : Option Nat} {S T : Nat → St} {z z2 : Option Fz} {j0 b k m bl : Nat} (h : Ar w0 w R q g S T z z2) (t : HalfT w0) (a : Hs R b k m bl) (hz : ZN j0 z) (hj : j0 ≤ 900000) :
    Calls Tryz.prog 15 #[.pointer (some ⟨b, 0, none⟩)] w fun e w' => ∃ v, e = .returned v ∧ VOwn 3 w' w.heap.size v ((vcs k m z S (k + m)).1.map iv) ∧ Ar w0 w' R q g (vcs k m z S (k + m)).2.2 T (vcs k m z S (k + m)).2.1 z2 ∧ Kd w w' := by
  have cN := an_any (h.ax a)
  have hn255 := a.n
  obtain ⟨n, hN⟩ : ∃ n, k + m = n := ⟨_, rfl⟩
  rw [hN] at cN ⊢
  have CV : Hid (∀ (wr : World) (S' : Nat → St) (z' : Option Fz), Ar w0 wr R q g S' T z' z2 → ∀ j, j < n → Zb z' → Calls Tryz.prog 10 #[.pointer (some ⟨b, 0, none⟩), .int .i64 (j : Int)] wr fun e w' => e = .returned (.tuple #[.bool (voiZ z' (S' j) (fmtB k m j)).1, .int .i64 (voiZ z' (S' j) (fmtB k m j)).2]) ∧ Ar w0 w' R q g (up S' j (askZ z' (S' j) [pFmt]).2.2) T (tickO z') z2 ∧ Kd wr w') := fun wr S' z' h1 j hj hb => voice_any h1 t a (by omega) hb
  have HZ : Hid (∀ j, j ≤ n → Zb (vcs k m z S j).2.1) := fun j hj => zn_zb (vcs_zn hz j) (by omega)
  have HA0 : Hid (Ar w0 w R q g S T z z2) := h
  have HKB : Hid (∀ k o, R.K k = some o → k < w.heap.size) := fun k o e => h.kb k o e
  have HW0 : Hid (w0.heap.size ≤ w.heap.size) := h.b.size
  have hnb : (n : Int) ≤ 255 := by omega
  clear h t a hz hj hN hn255
  go_enter Tryz.func15, Tryz.ntmps15
  go_wp2_with fail
  go_at_call 21
  refine (cN).mono ?_
  rintro e w' ⟨rfl, rfl⟩
  clear cN
  go_wp2_with fail
  go_loopw [3, 9] (fun vv i wr => ∃ (j : Nat) (v : Value), j ≤ n ∧ i = .int .i64 j ∧ v = vv ∧ VOwn 3 wr w'.heap.size v ((vcs k m z S j).1.map iv) ∧ Ar w0 wr R q g (vcs k m z S j).2.2 T (vcs k m z S j).2.1 z2 ∧ Kd w' wr ∧ w'.heap.size ≤ wr.heap.size) (fun _ i _ => n - (intOf i).toNat)
  case atStart => exact ⟨0, _, Nat.zero_le _, rfl, rfl, VOwn.start _ _ _, HA0.out, Kd.refl _, Nat.le_refl _⟩
  case round =>
    obtain ⟨j, v, hj, rfl, rfl, hv, hA, hk, hs⟩ := hrel
    by_cases hlt : j < n
    · have ij : (j : Int) < (n : Int) := by omega
      have cV := CV.out wr _ _ hA j hlt (HZ.out j hj)
      have hstep : vcs k m z S (j + 1) = ((if (voiZ (vcs k m z S j).2.1 ((vcs k m z S j).2.2 j) (fmtB k m j)).1 = true then (vcs k m z S j).1 ++ [j] else (vcs k m z S j).1), tickO (vcs k m z S j).2.1, up (vcs k m z S j).2.2 j (askZ (vcs k m z S j).2.1 ((vcs k m z S j).2.2 j) [pFmt]).2.2) := rfl
      obtain ⟨⟨vb, ve⟩, hve⟩ : ∃ x, voiZ (vcs k m z S j).2.1 ((vcs k m z S j).2.2 j) (fmtB k m j) = x := ⟨_, rfl⟩
      rw [hve] at cV hstep
      dsimp only at cV hstep
      obtain ⟨z', hz'⟩ : ∃ z', tickO (vcs k m z S j).2.1 = z' := ⟨_, rfl⟩
      obtain ⟨S', hS'⟩ : ∃ S', up (vcs k m z S j).2.2 j (askZ (vcs k m z S j).2.1 ((vcs k m z S j).2.2 j) [pFmt]).2.2 = S' := ⟨_, rfl⟩
      rw [hz', hS'] at cV hstep
      have hlen := vcs_len k m z S j
      obtain ⟨l, hl⟩ : ∃ l, (vcs k m z S j).1 = l := ⟨_, rfl⟩
      rw [hl] at hstep hv hlen
      have HST : Hid (vcs k m z S (j + 1) = ((if vb = true then l ++ [j] else l), z', S')) := hstep
      have HV : Hid (VOwn 3 wr w'.heap.size v (l.map iv) ∧ Kd w' wr ∧ w'.heap.size ≤ wr.heap.size ∧ l.length ≤ j) := ⟨hv, hk, hs, hlen⟩
      have HJ : Hid (j < n) := hlt
      clear hve hz' hS' hl hstep hv hA hk hs hlen hlt
      go_wp2_with fail
      go_at_call 10
      refine cV.mono ?_
      rintro e w2 ⟨rfl, hA2, hk2⟩
      have HA2 : Hid (Ar w0 w2 R q g S' T z' z2 ∧ Kd wr w2) := ⟨hA2, hk2⟩
      have hv2 := HV.out.1.kd hk2 kT_int
      have hsz2 := hA2.b.size
      clear cV hA2 hk2
      cases vb with
      | false =>
        clear hv2
        go_wp2
        go_round
        case rel =>
          have e9 := HST.out
          rw [if_neg (by decide)] at e9
          refine ⟨j + 1, _, by have := HJ.out; omega, by go_num, rfl, ?_, ?_, HV.out.2.1.trans HA2.out.2, ?_⟩
          · rw [e9]; exact HV.out.1.kd HA2.out.2 kT_int
          · rw [e9]; exact HA2.out.1
          · exact Nat.le_trans HV.out.2.2.1 HA2.out.2.1
        case measure => simp [intOf]; omega
      | true =>
        have e9 := HST.out
        rw [if_pos rfl] at e9
        obtain ⟨v2, W, r1, r2, r3⟩ := append1 (S := 52) (E := 3) (zv := .int .i64 0) (by8 := 8) Tryz.underlying52 infoI rfl (by omega) hv2 (iv j) rfl (by rw [List.length_map]; have := HV.out.2.2.2; omega) (Nat.le_trans HV.out.2.2.1 HA2.out.2.1)
        have HR : Hid (Sem.run Tryz.prog (Builtin.append_ #[52, 52] 52 #[v, .slice (some ⟨w2.heap.size, 0, none⟩) 1 1]) (w2.alloc (.cells #[.int .i64 (j : Int)] 3)) = .ok v2 W) := r1
        have HE : Hid (VOwn 3 W w'.heap.size v2 ((vcs k m z S (j + 1)).1.map iv) ∧ Ar w0 W R q g (vcs k m z S (j + 1)).2.2 T (vcs k m z S (j + 1)).2.1 z2 ∧ Kd w' W ∧ w'.heap.size ≤ W.heap.size) := by
          rw [e9]
          refine ⟨by dsimp only; rw [List.map_append]; exact r2, r3.ar HW0.out HA2.out.1 kT_int HKB.out, (HV.out.2.1.trans HA2.out.2).ud r3, Nat.le_trans (Nat.le_trans HV.out.2.2.1 HA2.out.2.1) r3.size⟩
        clear hv2 r1 r2 r3 e9 HST hsz2
        go_wp2_with (at_builtin; refine wpList_append_ran (by rfl) _ _ 52 (by rfl) _ _ _ _ (by rfl) (by rfl) HR.out ?_)
        go_wp2
        go_round
        case rel => exact ⟨j + 1, _, by have := HJ.out; omega, by go_num, rfl, HE.out⟩
        case measure => simp [intOf]; omega
    · have hjn : j = n := by omega
      subst hjn
      have HE : Hid (VOwn 3 wr w'.heap.size v ((vcs k m z S j).1.map iv) ∧ Ar w0 wr R q g (vcs k m z S j).2.2 T (vcs k m z S j).2.1 z2 ∧ Kd w' wr) := ⟨hv, hA, hk⟩
      have ij : decide ((j : Int) < (j : Int)) = false := by simp
      clear hv hA hk hs hlt
      go_wp2
      go_ret
      exact ⟨_, rfl, HE.out⟩
end Go.Proofs.YtebngmgdciahiaaGreatDoor
