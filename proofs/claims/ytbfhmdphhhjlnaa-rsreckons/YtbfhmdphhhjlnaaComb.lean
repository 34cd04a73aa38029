/-
  What rs.Code.combine does: the sum of the rows, each times its factor, in new memory.
-/
import Derived.Test.YtbfhmdphhhjlnaaCd
namespace Go.Proofs.Ytbfhmdphhhjlnaa
open Go.RowKit Gf
attribute [local go_sem ↓] Go.wp_at_zero Go.wp_at_succ

/-- The sum of the first k rows, each times its factor. -/
def comb (k : Nat) (ff : Nat → Nat) (H : Nat → Nat → Nat) : Nat → Nat := fun j => xs k (fun t => M (ff t) (H t j))
theorem comb_lt {k : Nat} {ff : Nat → Nat} {H : Nat → Nat → Nat} (hf : ∀ i, ff i < 256) (j : Nat) : comb k ff H j < 256 := xs_lt fun t _ => M_lt _ (hf t)

set_option maxRecDepth 100000 in
set_option maxHeartbeats 2000000 in
theorem combine_any (p k N : Nat) (S : Nat → Nat → Nat) (w : World) (fa ra : Option Addr) (cf n rc l : Nat) (ff : Nat → Nat) (A : Nat → Option Addr) (C : Nat → Nat) (H : Nat → Nat → Nat) (c : Code w p k N S) (hf : Row w fa k ff) (hr : Mat w ra n A (fun _ => l) C H) (hkn : k ≤ n) (hn : n ≤ 1000) (hl : l ≤ 140737488355328) :
    Calls Try.prog 29 #[.pointer (some ⟨p, 0, none⟩), .slice fa k cf, .slice ra n rc] w fun e w' => ∃ g c', e = .returned (.slice (some ⟨g, 0, none⟩) l c') ∧ Row w' (some ⟨g, 0, none⟩) l (comb k ff H) ∧ w.heap.size ≤ g ∧ Below w.heap.size w w' := by
  have k1 := c.k1
  have HC : Hid (Code w p k N S) := c
  have HF : Hid (Row w fa k ff) := hf
  have HR : Hid (Mat w ra n A (fun _ => l) C H) := hr
  obtain ⟨b, o, rfl, hc⟩ := hr.lies (by omega)
  obtain ⟨b2, o2, rfl, hcf⟩ := hf.lies (by omega)
  have c0 := hc 0 (by omega)
  simp only [Nat.add_zero] at c0
  have i0 : (0 : Int) < (n : Int) := by omega
  have mk := run_make_row' (P := Try.prog) 30 5 (.int .u8 0) 1 Try.underlying30 info5 rfl .i64 .i64 l (by omega) (by omega)
  obtain ⟨W, hW⟩ : ∃ W, W = w.alloc (.cells (madeCells #[.int .u8 0] l) 5) := ⟨_, rfl⟩
  have mkr : Sem.run Try.prog (Instr.makeSlice 30 (.int .i64 (l : Int)) (.int .i64 (l : Int))) w = .ok (.slice (some ⟨w.heap.size, 0, none⟩) l l) W := by rw [hW]; exact mk w
  have HS : Hid (Row W (some ⟨w.heap.size, 0, none⟩) l (comb 0 ff H)) := by
    refine ⟨fun j => comb_lt hf.lt j, fun _ => ⟨w.heap.size, 0, rfl, fun i hi => ?_⟩⟩
    rw [Nat.zero_add, hW, World.cell?_alloc_new, ← Array.getElem?_toList, toList_madeCells_one, List.getElem?_replicate, if_pos hi]
    rfl
  have HB : Hid (Below w.heap.size w W) := by rw [hW]; exact (Below.refl _ _).alloc (Nat.le_refl _) _
  clear hW mk hc hcf hf hr c
  generalize A 0 = a0 at *
  generalize C 0 = cc0 at *
  go_enter Try.func29, Try.ntmps29
  go_wp2
  clear mkr
  go_loopw [7, 17] (fun s v wr => ∃ (t g c' : Nat), t ≤ k ∧ v = .int .i64 t ∧ s = .slice (some ⟨g, 0, none⟩) l c' ∧ Row wr (some ⟨g, 0, none⟩) l (comb t ff H) ∧ w.heap.size ≤ g ∧ Below w.heap.size w wr) (fun _ v _ => k - (intOf v).toNat)
  case atStart => exact ⟨0, w.heap.size, l, by omega, rfl, rfl, HS.out, Nat.le_refl _, HB.out⟩
  case round =>
    obtain ⟨t, g, c', ht, rfl, rfl, hrow, hg, hb⟩ := hrel
    clear HS HB c0
    by_cases hlt : t < k
    · have it : (t : Int) < (k : Int) := by omega
      have itn : (t : Int) < (n : Int) := by omega
      have hC := HC.out.keep hb
      obtain ⟨h', bt, A', C', _, _, q2, _, hT⟩ := hC.ex
      have hM := HR.out.keep hb
      obtain ⟨b', o', e, hc⟩ := hM.lies (by omega)
      injection e with e; injection e with e1 e2; subst e1 e2
      have ct := hc t (by omega)
      have hF := HF.out.keep hb
      obtain ⟨b', o', e, hcf⟩ := hF.lies (by omega)
      injection e with e; injection e with e1 e2; subst e1 e2
      have cft := hcf t hlt
      have lf := HF.out.lt t
      have K : Hid (Calls Try.prog 45 #[.pointer (some ⟨bt, 0, none⟩), .slice (some ⟨g, 0, none⟩) l c', .slice (A t) l (C t), .int .u8 ((ff t : Nat) : Int)] wr.drew fun e w' =>
          e = .returned (.slice (some ⟨wr.heap.size, 0, none⟩) l l) ∧ Row w' (some ⟨wr.heap.size, 0, none⟩) l (comb (t + 1) ff H) ∧ Below w.heap.size w w') := by
        refine (mulAdd_row bt (ff t) l c' l (C t) (some ⟨g, 0, none⟩) (A t) (comb t ff H) (H t) wr.drew (hT.drewN 1) lf (hrow.drewN 1) ((hM.row t (by omega)).drewN 1) (by omega) (by omega)).mono ?_
        rintro e w' ⟨rfl, hr2, hbel⟩
        refine ⟨rfl, hr2.congr (fun j hj => ?_) (fun j => comb_lt HF.out.lt j), hb.drew.trans (hbel.mono hb.size)⟩
        unfold ad comb
        rw [if_pos hj]; rfl
      have hsz := hb.size
      clear hC hM hF hc hcf hT hrow HR HF HC
      generalize A t = at' at *
      generalize C t = ct' at *
      generalize ff t = ft at *
      go_wp2
      go_region_with (go_at_call 45; refine K.out.mono ?_; rintro e w' ⟨rfl, y1, y2⟩)
      all_goals
        go_wp2
        go_round
        case rel => exact ⟨t + 1, _, _, by omega, by go_num, rfl, y1, by omega, y2⟩
        case measure => simp [intOf]; omega
    · have : t = k := by omega
      subst this
      have HE : Hid (Row wr (some ⟨g, 0, none⟩) l (comb t ff H)) := hrow
      clear hrow
      go_wp2
      go_ret
      exact ⟨g, c', rfl, HE.out, hg, hb⟩
end Go.Proofs.Ytbfhmdphhhjlnaa
