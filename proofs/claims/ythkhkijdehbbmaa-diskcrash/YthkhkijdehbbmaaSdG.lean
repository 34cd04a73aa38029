/-
  What a rename makes of the files.
-/
import Derived.Test.YthkhkijdehbbmaaSdF
set_option maxRecDepth 100000
namespace Go.Proofs.Ythkhkijdehbbmaa
open Go.RowKit
open _root_.Go.Proofs.Ythkhkijdehbbmaa.Nm _root_.Go.Proofs.Ythkhkijdehbbmaa.Dk
attribute [local go_sem ↓] Go.wp_at_zero Go.wp_at_succ
set_option linter.unusedVariables false

theorem there_mem {V : List Fv} (hr : Rise V) {x : ByteArray} {f : Fv} (hf : f ∈ V) (hp : f.path = x) : there x (V.map fl) = true ∧ fileL x (V.map fl) = fl f := by
  obtain ⟨A, M, B, P⟩ := part_at hr x
  have hM : f ∈ M := by
    rw [P.v] at hf
    rcases List.mem_append.1 hf with k | k
    · rcases List.mem_append.1 k with k | k
      · exact absurd hp (P.na f k)
      · exact k
    · exact absurd hp (P.nb f k)
  rcases P.m with ⟨_, e⟩ | ⟨t, f', e, _⟩
  · rw [e] at hM; cases hM
  · refine ⟨t, ?_⟩
    rw [e, List.mem_singleton] at hM
    subst hM
    unfold fileL
    rw [if_pos t, P.fileAt t, e]
    rfl
theorem there_no {V : List Fv} (hr : Rise V) {x : ByteArray} (h : ∀ f ∈ V, f.path ≠ x) : there x (V.map fl) = false := by
  obtain ⟨A, M, B, P⟩ := part_at hr x
  rcases P.m with ⟨t, _⟩ | ⟨_, f', e, hp⟩
  · exact t
  · exact absurd hp (h f' (by rw [P.v, e]; simp))
theorem there_out {V : List Fv} (hr : Rise V) {x : ByteArray} (t : there x (V.map fl) = true) : ∃ f ∈ V, f.path = x ∧ fileL x (V.map fl) = fl f := by
  obtain ⟨A, M, B, P⟩ := part_at hr x
  rcases P.m with ⟨t', _⟩ | ⟨_, f', e, hp⟩
  · rw [t'] at t; cases t
  · have hm : f' ∈ V := by rw [P.v, e]; simp
    exact ⟨f', hm, hp, (there_mem hr hm hp).2⟩
theorem ren_facts {V : List Fv} (hr : Rise V) {x y : ByteArray} (t : there x (V.map fl) = true) :
    there y (renS (V.map fl) x y) = true ∧ (fileL y (renS (V.map fl) x y)).b = (fileL x (V.map fl)).b ∧ (fileL y (renS (V.map fl) x y)).sure = (fileL x (V.map fl)).sure ∧ there x (renS (V.map fl) x y) = decide (x = y) ∧
      used (renS (V.map fl) x y) + (if there y (V.map fl) = true ∧ x ≠ y then (fileL y (V.map fl)).b.size else 0) = used (V.map fl) := by
  obtain ⟨A, M, B, P⟩ := part_at hr x
  obtain ⟨hM, hmem, hpath⟩ := top_mem P t
  obtain ⟨A', M', B', P'⟩ := part_at (P.riseD hr) y
  obtain ⟨f0, hf0⟩ : ∃ f0, top M = f0 := ⟨_, rfl⟩
  rw [hf0] at hM hmem hpath
  obtain ⟨fi, hfi⟩ : ∃ fi : Fv, fi = { f0 with path := y } := ⟨_, rfl⟩
  have hfp : fi.path = y := by subst hfi; rfl
  have hfb : fi.b = f0.b := by subst hfi; rfl
  have hfs : fi.sure = f0.sure := by subst hfi; rfl
  have hren : renS (V.map fl) x y = (A' ++ fi :: B').map fl := by
    unfold renS
    rw [P.cut t, P.fileAt t, hf0]
    have e9 : ({ fl f0 with path := y } : Fl) = fl fi := by subst hfi; rfl
    rw [e9, P'.putD hfp]
  have hr2 : Rise (A' ++ fi :: B') := P'.riseP (P.riseD hr) hfp
  have hx := (there_mem hr hmem hpath).2
  have hy := there_mem hr2 (f := fi) (by simp) hfp
  have hin : ∀ u ∈ A ++ B, u ∈ V := fun u hu => by
    rw [P.v]
    rcases List.mem_append.1 hu with k | k
    · exact List.mem_append_left _ (List.mem_append_left _ k)
    · exact List.mem_append_right _ k
  have hnx : ∀ u ∈ A ++ B, u.path ≠ x := fun u hu => by
    rcases List.mem_append.1 hu with k | k
    · exact P.na u k
    · exact P.nb u k
  have hin' : ∀ u, u ∈ A' ∨ u ∈ B' → u ∈ A ++ B := fun u hu => by
    rw [P'.v]
    rcases hu with k | k
    · exact List.mem_append_left _ (List.mem_append_left _ k)
    · exact List.mem_append_right _ k
  rw [hren, hx]
  refine ⟨hy.1, by rw [hy.2]; exact hfb, by rw [hy.2]; exact hfs, ?_, ?_⟩
  · by_cases e : x = y
    · rw [decide_eq_true e]
      subst e; exact hy.1
    · rw [decide_eq_false e]
      refine there_no hr2 fun f hf => ?_
      rcases List.mem_append.1 hf with k | k
      · exact hnx f (hin' f (.inl k))
      · rcases List.mem_cons.1 k with k | k
        · subst k; rw [hfp]; exact fun e9 => e e9.symm
        · exact hnx f (hin' f (.inr k))
  · have u1 := P.used
    have u2 := P'.used
    rw [used_mid, hfb]
    have u3 : used (M.map fl) = f0.b.size := by rw [hM]; simp [used, fl]
    rw [u3, u2] at u1
    have u4 : used (M'.map fl) = if there y (V.map fl) = true ∧ x ≠ y then (fileL y (V.map fl)).b.size else 0 := by
      rcases P'.m with ⟨t', e⟩ | ⟨t', f', e, hp⟩
      · rw [e, if_neg]
        · rfl
        · rintro ⟨k1, k2⟩
          obtain ⟨f, hf, hfy, _⟩ := there_out hr k1
          have : f ∈ A ++ B := by
            rw [P.v, hM] at hf
            rcases List.mem_append.1 hf with k | k
            · rcases List.mem_append.1 k with k | k
              · exact List.mem_append_left _ k
              · rw [List.mem_singleton] at k
                subst k
                exact absurd (hpath.symm.trans hfy) k2
            · exact List.mem_append_right _ k
          have := (there_mem (P.riseD hr) this hfy).1
          rw [t'] at this
          cases this
      · have hm' : f' ∈ A ++ B := by rw [P'.v, e]; simp
        obtain ⟨k1, k2⟩ := there_mem hr (hin f' hm') hp
        rw [e, if_pos ⟨k1, fun e9 => hnx f' hm' (hp.trans e9.symm)⟩, k2]
        simp [used, fl]
    rw [← u4]
    omega
end Go.Proofs.Ythkhkijdehbbmaa
