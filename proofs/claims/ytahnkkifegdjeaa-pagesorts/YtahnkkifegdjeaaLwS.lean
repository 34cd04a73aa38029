/-
  Rows of entries cut in two, and put together the other way round.
-/
import Derived.Test.YtahnkkifegdjeaaLwH
namespace Go.Proofs.Ytahnkkifegdjeaa
open Go.RowKit Go.Shelf Go.Sort Nq
set_option linter.unusedVariables false

theorem sliceE_l (a : Option Addr) (n c t : Nat) (ht : t ≤ n) (hc : n ≤ c) (w' : World) :
    Sem.run Try.prog (Instr.slice 22 (.slice a n c) (some (.int .i64 (t : Int))) none none) w' = .ok (.slice (if c = t then a else a.map (·.add (t * 6))) (n - t) (c - t)) w' := by
  rw [run_slice_l w' 22 a n c Try.underlying22 .i64 (t : Int) (by omega) (by omega)]
  have e : (sizeOf (Try.prog.elem 22)).run Try.prog w' = .ok 6 w' := by kernel_rfl
  rw [e]
  show Result.ok (sliced a _ _ c 6) w' = _
  unfold sliced
  rw [show ((t : Int)).toNat = t by omega]
theorem sliceE_h (a : Option Addr) (n c m : Nat) (hm : m ≤ n) (hc : n ≤ c) (w' : World) :
    Sem.run Try.prog (Instr.slice 22 (.slice a n c) none (some (.int .i64 (m : Int))) none) w' = .ok (.slice (if c = 0 then a else a.map (·.add (0 * 6))) m c) w' := by
  rw [run_slice_h w' 22 a n c Try.underlying22 .i64 (m : Int) (by omega) (by omega)]
  have e : (sizeOf (Try.prog.elem 22)).run Try.prog w' = .ok 6 w' := by kernel_rfl
  rw [e]
  show Result.ok (sliced a _ _ c 6) w' = _
  unfold sliced
  rw [show ((m : Int)).toNat = m by omega, Nat.sub_zero, Nat.sub_zero]
theorem Es.behind {w : World} {a : Option Addr} {c : Nat} {L : List En} (h : Es w a L) (t : Nat) (hc : L.length ≤ c) : Es w (if c = t then a else a.map (·.add (t * 6))) (L.drop t) := fun h0 => by
  rw [List.length_drop] at h0
  obtain ⟨b, o, rfl, hv⟩ := h (by omega)
  refine ⟨b, o + t * 6, ?_, fun i hi => ?_⟩
  · rw [if_neg (by omega)]; simp [add_plain]
  · rw [List.length_drop] at hi
    have := hv (t + i) (by omega)
    rw [getElem!_pos (L.drop t) i (by rw [List.length_drop]; omega), List.getElem_drop, ← getElem!_pos L (t + i) (by omega)]
    rw [show o + t * 6 + i * 6 = o + (t + i) * 6 by omega]
    exact this
theorem Es.ahead {w : World} {a : Option Addr} {c : Nat} {L : List En} (h : Es w a L) (t : Nat) (ht : t ≤ L.length) : Es w (if c = 0 then a else a.map (·.add (0 * 6))) (L.take t) := fun h0 => by
  rw [List.length_take] at h0
  obtain ⟨b, o, rfl, hv⟩ := h (by omega)
  refine ⟨b, o, ?_, fun i hi => ?_⟩
  · split
    · rfl
    · simp [add_plain]
  · rw [List.length_take] at hi
    rw [take_at L t i (by omega) (by omega)]
    · exact hv i (by omega)
theorem rot_perm (L : List En) (k : Nat) : (L.drop k ++ L.take k).Perm L := by
  have := List.perm_append_comm (l₁ := L.drop k) (l₂ := L.take k)
  rwa [List.take_append_drop] at this
theorem sort_perm {L M N : List En} (h : SortOf M N) (p : M.Perm L) : SortOf L N := ⟨h.1.trans p, h.2⟩
theorem strict_step {L : List En} (hf : FairP L) (x : Nat) (hx : x + 1 < (srt L).length) :
    ls (tx (srt L)[x + 1]!.key) (tx (srt L)[x]!.key) = false ∧ ((srt L)[x + 1]!.key = (srt L)[x]!.key → (srt L)[x + 1]!.id < (srt L)[x]!.id ∧ (srt L)[x + 1]!.la = false) := by
  have h := List.pairwise_iff_getElem.1 (srt_lt (fair_dis hf) (fair_nodup hf)) x (x + 1) (by omega) hx (by omega)
  have m0 : (srt L)[x]! ∈ srt L := at_mem (by omega)
  have m1 : (srt L)[x + 1]! ∈ srt L := at_mem hx
  rw [← getElem!_pos (srt L) x (by omega), ← getElem!_pos (srt L) (x + 1) hx] at h
  have fm := (fairM hf).perm (srt_sorts L).1
  generalize (srt L)[x]! = a at *
  generalize (srt L)[x + 1]! = b at *
  unfold ltE at h
  simp only [Bool.or_eq_true, Bool.and_eq_true, decide_eq_true_eq] at h
  rcases h with h | ⟨h, g⟩
  · exact ⟨ls_both _ _ h, fun e => by rw [e, ls_same] at h; cases h⟩
  · refine ⟨by rw [h]; exact ls_same _, fun _ => ⟨g, ?_⟩⟩
    cases q : b.la with
    | false => rfl
    | true => have := (fm.la b m1).1 q a m0 h; omega
/-- An empty literal. -/
theorem lit_none (w : World) : EOwn (w.alloc (.cells #[] 48)) w.heap.size (.slice (some ⟨w.heap.size, 0, none⟩) 0 0) [] :=
  ⟨rfl, .inr ⟨w.heap.size, 0, #[], rfl, Nat.le_refl _, heap_alloc_new w _, Nat.le_refl _, by unfold maxLen; omega, rfl, rfl⟩⟩
end Go.Proofs.Ytahnkkifegdjeaa
