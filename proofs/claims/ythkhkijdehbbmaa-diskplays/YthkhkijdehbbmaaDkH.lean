/-
  Sync of a disk of the document.
-/
import Derived.Test.YthkhkijdehbbmaaDkG
set_option maxRecDepth 100000
namespace Go.Proofs.Ythkhkijdehbbmaa
open Go.RowKit Dk Nm
attribute [local go_sem ↓] Go.wp_at_zero Go.wp_at_succ
set_option linter.unusedVariables false

/-- What Sync answers, and leaves. -/
def synZ (z : Option Fz) (s : St) (x : ByteArray) : Int × St := if (askZ z s [x]).1 ≠ 0 then ((askZ z s [x]).1, (askZ z s [x]).2.2) else if there x s.fs = true then (0, { (askZ z s [x]).2.2 with fs := setSure s.fs (place x s.fs) }) else (6, (askZ z s [x]).2.2)

set_option maxRecDepth 100000 in
set_option maxHeartbeats 4000000 in
theorem sync_any (p : Nat) (a : Option Addr) (c : Nat) (L : List Fv) (q : Option Nat) (s : St) (z : Option Fz) (x : ByteArray) (w : World) (h : DX w p a c L q s) (hz : Zs w q z) (hb : Zb z) (hx : x.size ≤ maxLen) :
    Calls Try.prog 41 #[.pointer (some ⟨p, 0, none⟩), .string x] w (OpEnd p a L q (synZ z s x).1 (synZ z s x).2 (askZ z s [x]).2.1 w) := by
  obtain ⟨W, hW⟩ : ∃ W, w.alloc (.cells #[.string x] 9) = W := ⟨_, rfl⟩
  have bW : Below w.heap.size w W := by rw [← hW]; exact (Below.refl _ _).alloc (Nat.le_refl _) _
  have hS : Strs W (some ⟨w.heap.size, 0, none⟩) [x] := by rw [← hW]; exact lit_str w x
  have cA := ask_any p a c L q s z (some ⟨w.heap.size, 0, none⟩) 1 [x] W (h.keep bW) (hz.keep bW) hb hS (by simp)
  have hfs := askZ_fs z s [x]
  have hdl : synZ z s x = synZ z s x := rfl
  conv at hdl => rhs; unfold synZ
  obtain ⟨e0, he0⟩ : ∃ e0, (askZ z s [x]).1 = e0 := ⟨_, rfl⟩
  obtain ⟨s1, hs1⟩ : ∃ s1, (askZ z s [x]).2.2 = s1 := ⟨_, rfl⟩
  obtain ⟨z1, hz1⟩ : ∃ z1, (askZ z s [x]).2.1 = z1 := ⟨_, rfl⟩
  rw [he0, hs1] at hdl
  rw [hs1] at hfs
  rw [hz1]
  obtain ⟨DL, hDL⟩ : ∃ y, synZ z s x = y := ⟨_, rfl⟩
  rw [hDL] at hdl ⊢
  have HDL : Hid (DL = if e0 ≠ 0 then (e0, s1) else if there x s.fs = true then (0, { s1 with fs := setSure s.fs (place x s.fs) }) else (6, s1)) := hdl
  have HBW : Hid (Below w.heap.size w W) := bW
  have cA1 : Calls Try.prog 56 #[.pointer (some ⟨p, 0, none⟩), .slice (some ⟨w.heap.size, 0, none⟩) 1 1] W fun e w' => e = .returned (.int .i64 e0) ∧ DX w' p a c L q s1 ∧ Zs w' q z1 ∧ Upd (Mk p q) W w' := by
    refine cA.mono ?_
    rintro e w' ⟨h1, h2, h3, h4⟩
    rw [he0] at h1
    rw [hs1] at h2
    rw [hz1] at h3
    exact ⟨h1, h2, h3, h4⟩
  have HF : Hid (s1.fs = s.fs) := hfs
  have HT : Hid (∀ e w', e = .returned (.int .i64 DL.1) → (∃ a' c' L', DX w' p a' c' L' q DL.2 ∧ Zs w' q z1 ∧ Upd (Mg p q a) w w' ∧ (a' = a ∨ ∀ x, a' = some x → w.heap.size ≤ x.block) ∧ Gw w L L') → OpEnd p a L q DL.1 DL.2 z1 w e w') := fun e w' h1 h2 => ⟨h1, h2⟩
  generalize hPP : OpEnd p a L q DL.1 DL.2 z1 w = PP at *
  clear hPP h hz hb bW hS cA he0 hfs hs1 hz1 hdl hDL
  go_enter Try.func41, Try.ntmps41
  go_wp2_with fail
  go_at_call 56
  refine cA1.mono ?_
  rintro e w1 ⟨rfl, h1, hz1, u1⟩
  clear cA1 hW
  have HZ1 : Hid (Zs w1 q z1) := hz1
  have HU1 : Hid (Upd (Mg p q a) w w1) := ((Upd.of HBW.out).trans u1).mono fun _ _ k => Mg.of k
  clear hz1 u1
  have HD1 : Hid (DX w1 p a c L q s1) := h1
  by_cases g0 : e0 = 0
  · subst g0
    have cT := at_any p a c L q s1 x w1 h1 hx
    rw [HF.out] at cT
    cases ht : there x s.fs with
    | false =>
      rw [ht] at cT
      have HE : Hid (DL = (6, s1)) := by unfold Hid; rw [HDL.out, if_neg (fun k => k rfl), if_neg (by rw [ht]; decide)]
      clear ht h1
      go_wp2_with fail
      go_at_call 57
      refine cT.mono ?_
      rintro e w2 ⟨rfl, n2, rfl⟩
      clear cT
      go_wp2
      exact HT.out _ _ (by rw [HE.out] <;> rfl) ⟨a, c, L, by rw [HE.out]; exact HD1.out.drewN n2, HZ1.out.keep (bdn' _ _), HU1.out.drewN n2, .inl rfl, Gw.refl _ _⟩
    | true =>
      rw [ht] at cT
      have hlt := there_lt ht
      have HE : Hid (DL = (0, { s1 with fs := setSure s.fs (place x s.fs) })) := by unfold Hid; rw [HDL.out, if_neg (fun k => k rfl), if_pos ht]
      have hfl : s.fs = L.map fl := by rw [← HF.out]; exact h1.f
      obtain ⟨j, hj⟩ : ∃ j, place x s.fs = j := ⟨_, rfl⟩
      rw [hj] at cT hlt HE
      have hjL : j < L.length := by rw [hfl, List.length_map] at hlt; exact hlt
      obtain ⟨g, cur, rfl, hg⟩ := h1.block (by omega)
      have hpg : p ≠ g := fun e => by
        subst e
        have := h1.o
        rw [hg] at this
        injection this with this
        injection this with _ this _
        exact absurd this (by decide)
      have HPG : Hid (p ≠ g) := hpg
      have HJL : Hid (j < L.length) := hjL
      have HQG : Hid (∀ k, q = some k → k ≠ g) := fun k hk e => by
        subst hk; subst e
        have hz := HZ1.out
        cases z1 with
        | none => exact absurd hz (by unfold Zs; exact id)
        | some y =>
          unfold Zs at hz
          dsimp only at hz
          rw [hg] at hz
          injection hz with hz
          injection hz with _ hz _
          exact absurd hz (by decide)
      have fg : ∀ i, w1.frozen? ⟨g, i, none⟩ = false := fun i => frozen_of_row w1 g i _ _ hg
      have c0 := h1.c0
      have ij : (j : Int) < (L.length : Int) := by omega
      have hnn := h1.n
      obtain ⟨hf, _, hlc, _⟩ := h1.rows
      obtain ⟨b, o, eo, hA⟩ := hf (by omega)
      cases eo
      have t2 := (hA j hjL).c2
      rw [Nat.zero_add] at t2
      clear ht h1 hfl hj hlt hg hpg hf hA hlc
      go_wp2_with fail
      go_at_call 57
      refine cT.mono ?_
      rintro e w2 ⟨rfl, n2, rfl⟩
      clear cT
      have HN : Hid (∃ a' c' L', DX ((w1.drewN n2).setCell ⟨g, j * 3 + 2, none⟩ (.bool true)) p a' c' L' q DL.2 ∧ Zs ((w1.drewN n2).setCell ⟨g, j * 3 + 2, none⟩ (.bool true)) q z1 ∧ Upd (Mg p q (some ⟨g, 0, none⟩)) w ((w1.drewN n2).setCell ⟨g, j * 3 + 2, none⟩ (.bool true)) ∧ (a' = some ⟨g, 0, none⟩ ∨ ∀ x, a' = some x → w.heap.size ≤ x.block) ∧ Gw w L L') := by
        refine ⟨some ⟨g, 0, none⟩, c, _, by rw [HE.out]; rw [← HF.out]; exact (HD1.out.drewN n2).sure HJL.out HPG.out, ?_, (HU1.out.drewN n2).put (p := ⟨g, j * 3 + 2, none⟩) (.inl (.inr (.inr ⟨0, rfl⟩))) _, .inl rfl, Gw.put (y := { L[j]! with sure := true }) (j := j) (fun u hu => hu) fun k a e => .inr ⟨L[j]!, by rw [getElem!_pos L j HJL.out]; exact List.getElem_mem _, k, e⟩⟩
        have hz := HZ1.out
        cases hq : q with
        | none =>
          rw [hq] at hz
          cases z1 with
          | none => trivial
          | some y => exact absurd hz (by unfold Zs; exact id)
        | some k =>
          have hkg := HQG.out k hq
          rw [hq] at hz
          cases z1 with
          | none => exact absurd hz (by unfold Zs; exact id)
          | some y =>
            unfold Zs at *
            dsimp only at *
            rw [heap_setCell_other _ _ _ _ hkg]
            exact hz
      go_wp2
      exact HT.out _ _ (by rw [HE.out] <;> rfl) HN.out
  · have g1 : (e0 == 0) = false := by simpa using g0
    have HE : Hid (DL = (e0, s1)) := by unfold Hid; rw [HDL.out, if_pos g0]
    clear h1
    go_wp2
    exact HT.out _ _ (by rw [HE.out] <;> rfl) ⟨a, c, L, by rw [HE.out]; exact HD1.out, HZ1.out, HU1.out, .inl rfl, Gw.refl _ _⟩
end Go.Proofs.Ythkhkijdehbbmaa
