/-
  Delete of a disk of the document.
-/
import Derived.Test.YthkhkijdehbbmaaDkD
set_option maxRecDepth 100000
namespace Go.Proofs.Ythkhkijdehbbmaa
open Go.RowKit Dk Nm
attribute [local go_sem ↓] Go.wp_at_zero Go.wp_at_succ
set_option linter.unusedVariables false

/-- The blocks that an operation of the disk at p may write, its row's own block besides. -/
def Mg (p : Nat) (q : Option Nat) (a : Option Addr) : Nat → Prop := fun k => k = p ∨ q = some k ∨ ∃ o, a = some ⟨k, o, none⟩
theorem Mg.of {p : Nat} {q : Option Nat} {a : Option Addr} {k : Nat} (h : Mk p q k) : Mg p q a k := by
  rcases h with h | h
  · exact .inl h
  · exact .inr (.inl h)
theorem Mg.of0 {p : Nat} {q : Option Nat} {a : Option Addr} {k : Nat} (h : Mk p none k) : Mg p q a k := by
  rcases h with h | h
  · exact .inl h
  · cases h
/-- Rows of bytes come from where they were, or are new. -/
def Gw (w : World) (V V' : List Fv) : Prop := ∀ y ∈ V', 0 < y.b.size → ∀ a, y.bv.1 = some a → w.heap.size ≤ a.block ∨ ∃ y0 ∈ V, 0 < y0.b.size ∧ y0.bv.1 = some a
theorem Gw.sub {w : World} {V V' : List Fv} (h : ∀ y ∈ V', y ∈ V) : Gw w V V' := fun y hy k a e => .inr ⟨y, h y hy, k, e⟩
theorem Gw.refl (w : World) (V : List Fv) : Gw w V V := Gw.sub fun _ h => h
theorem Gw.put {w : World} {V W : List Fv} {y : Fv} {j : Nat} (hs : ∀ u ∈ W, u ∈ V) (hy : 0 < y.b.size → ∀ a, y.bv.1 = some a → w.heap.size ≤ a.block ∨ ∃ y0 ∈ V, 0 < y0.b.size ∧ y0.bv.1 = some a) : Gw w V (W.set j y) := fun u hu k a e => by
  rcases List.mem_or_eq_of_mem_set hu with t | t
  · exact .inr ⟨u, hs u t, k, e⟩
  · subst t; exact hy k a e
theorem Gw.ins {w : World} {V W : List Fv} {y : Fv} {j : Nat} (hs : ∀ u ∈ W, u ∈ V) (hy : 0 < y.b.size → ∀ a, y.bv.1 = some a → w.heap.size ≤ a.block ∨ ∃ y0 ∈ V, 0 < y0.b.size ∧ y0.bv.1 = some a) : Gw w V (W.take j ++ [y] ++ W.drop j) := fun u hu k a e => by
  rcases List.mem_append.1 hu with t | t
  · rcases List.mem_append.1 t with t | t
    · exact .inr ⟨u, hs u (List.mem_of_mem_take t), k, e⟩
    · rw [List.mem_singleton] at t
      subst t; exact hy k a e
  · exact .inr ⟨u, hs u (List.mem_of_mem_drop t), k, e⟩
theorem mem_rem {L : List Fv} {i : Nat} {u : Fv} (h : u ∈ L.take i ++ L.drop (i + 1)) : u ∈ L := by
  rcases List.mem_append.1 h with t | t
  · exact List.mem_of_mem_take t
  · exact List.mem_of_mem_drop t
/-- What an operation that answers a number leaves. -/
def OpEnd (p : Nat) (a : Option Addr) (L : List Fv) (q : Option Nat) (d : Int) (s' : St) (z' : Option Fz) (w : World) (e : Ending) (w' : World) : Prop :=
  e = .returned (.int .i64 d) ∧ ∃ a' c' L', DX w' p a' c' L' q s' ∧ Zs w' q z' ∧ Upd (Mg p q a) w w' ∧ (a' = a ∨ ∀ x, a' = some x → w.heap.size ≤ x.block) ∧ Gw w L L'
/-- What Delete answers, and leaves. -/
def delZ (z : Option Fz) (s : St) (x : ByteArray) : Int × St := if (askZ z s [x]).1 ≠ 0 then ((askZ z s [x]).1, (askZ z s [x]).2.2) else if there x s.fs = true then (0, { (askZ z s [x]).2.2 with fs := Dk.cut s.fs (place x s.fs) }) else (6, (askZ z s [x]).2.2)
theorem zs_off {w : World} {p : Nat} {a : Option Addr} {c : Nat} {L : List Fv} {q : Option Nat} {s : St} {z : Option Fz} (h : DX w p a c L q s) (hz : Zs w q z) {k : Nat} (hq : q = some k) : p ≠ k := fun e => by
  subst hq; subst e
  cases z with
  | none => exact absurd hz (by unfold Zs; exact id)
  | some y =>
    unfold Zs at hz
    have := h.o
    dsimp only at hz
    rw [hz] at this
    injection this with this
    injection this with _ this _
    cases this

set_option maxRecDepth 100000 in
set_option maxHeartbeats 4000000 in
theorem delete_any (p : Nat) (a : Option Addr) (c : Nat) (L : List Fv) (q : Option Nat) (s : St) (z : Option Fz) (x : ByteArray) (w : World) (h : DX w p a c L q s) (hz : Zs w q z) (hb : Zb z) (hx : x.size ≤ maxLen) :
    Calls Try.prog 43 #[.pointer (some ⟨p, 0, none⟩), .string x] w (OpEnd p a L q (delZ z s x).1 (delZ z s x).2 (askZ z s [x]).2.1 w) := by
  obtain ⟨W, hW⟩ : ∃ W, w.alloc (.cells #[.string x] 9) = W := ⟨_, rfl⟩
  have bW : Below w.heap.size w W := by rw [← hW]; exact (Below.refl _ _).alloc (Nat.le_refl _) _
  have hS : Strs W (some ⟨w.heap.size, 0, none⟩) [x] := by rw [← hW]; exact lit_str w x
  have cA := ask_any p a c L q s z (some ⟨w.heap.size, 0, none⟩) 1 [x] W (h.keep bW) (hz.keep bW) hb hS (by simp)
  have hfs := askZ_fs z s [x]
  have hdl : delZ z s x = delZ z s x := rfl
  conv at hdl => rhs; unfold delZ
  obtain ⟨e0, he0⟩ : ∃ e0, (askZ z s [x]).1 = e0 := ⟨_, rfl⟩
  obtain ⟨s1, hs1⟩ : ∃ s1, (askZ z s [x]).2.2 = s1 := ⟨_, rfl⟩
  obtain ⟨z1, hz1⟩ : ∃ z1, (askZ z s [x]).2.1 = z1 := ⟨_, rfl⟩
  rw [he0, hs1] at hdl
  rw [hs1] at hfs
  rw [hz1]
  obtain ⟨DL, hDL⟩ : ∃ y, delZ z s x = y := ⟨_, rfl⟩
  rw [hDL] at hdl ⊢
  have HDL : Hid (DL = if e0 ≠ 0 then (e0, s1) else if there x s.fs = true then (0, { s1 with fs := Dk.cut s.fs (place x s.fs) }) else (6, s1)) := hdl
  have HBW : Hid (Below w.heap.size w W) := bW
  have cA1 : Calls Try.prog 56 #[.pointer (some ⟨p, 0, none⟩), .slice (some ⟨w.heap.size, 0, none⟩) 1 1] W fun e w' => e = .returned (.int .i64 e0) ∧ DX w' p a c L q s1 ∧ Zs w' q z1 ∧ Upd (Mk p q) W w' := by
    refine cA.mono ?_
    rintro e w' ⟨h1, h2, h3, h4⟩
    rw [he0] at h1
    rw [hs1] at h2
    rw [hz1] at h3
    exact ⟨h1, h2, h3, h4⟩
  have HF : Hid (s1.fs = s.fs) := hfs
  have HT : Hid (∀ e w', e = .returned (.int .i64 DL.1) → (∃ a' c' L', DX w' p a' c' L' q DL.2 ∧ Zs w' q z1 ∧ Upd (Mg p q a) w w' ∧ (a' = a ∨ ∀ x, a' = some x → w.heap.size ≤ x.block) ∧ Gw w L L') → OpEnd p a L q DL.1 DL.2 z1 w e w') := fun e w' h1 h2 => ⟨h1, h2⟩
  generalize hPP : OpEnd p a L q DL.1 DL.2 z1 w = PP at *
  clear hPP h hz hb bW hS cA he0 hfs hs1 hz1 hdl hDL
  go_enter Try.func43, Try.ntmps43
  go_wp2_with fail
  go_at_call 56
  refine cA1.mono ?_
  rintro e w1 ⟨rfl, h1, hz1, u1⟩
  clear cA1 hW
  have HZ1 : Hid (Zs w1 q z1) := hz1
  have HU1 : Hid (Upd (Mg p q a) w w1) := ((Upd.of HBW.out).trans u1).mono fun _ _ k => Mg.of k
  clear hz1 u1
  have HD1 : Hid (DX w1 p a c L q s1) := h1
  by_cases g0 : e0 = 0
  · subst g0
    have cT := at_any p a c L q s1 x w1 h1 hx
    rw [HF.out] at cT
    cases ht : there x s.fs with
    | false =>
      rw [ht] at cT
      have HE : Hid (DL = (6, s1)) := by unfold Hid; rw [HDL.out, if_neg (fun k => k rfl), if_neg (by rw [ht]; decide)]
      clear ht h1
      go_wp2_with fail
      go_at_call 57
      refine cT.mono ?_
      rintro e w2 ⟨rfl, n2, rfl⟩
      clear cT
      go_wp2
      exact HT.out _ _ (by rw [HE.out] <;> rfl) ⟨a, c, L, by rw [HE.out]; exact HD1.out.drewN n2, HZ1.out.keep (bdn' _ _), HU1.out.drewN n2, .inl rfl, Gw.refl _ _⟩
    | true =>
      rw [ht] at cT
      have hlt := there_lt ht
      have HE : Hid (DL = (0, { s1 with fs := Dk.cut s.fs (place x s.fs) })) := by unfold Hid; rw [HDL.out, if_neg (fun k => k rfl), if_pos ht]
      have hfl : s.fs = L.map fl := by rw [← HF.out]; exact h1.f
      obtain ⟨j, hj⟩ : ∃ j, place x s.fs = j := ⟨_, rfl⟩
      rw [hj] at cT hlt HE
      have hjL : j < L.length := by rw [hfl, List.length_map] at hlt; exact hlt
      have cR : ∀ n, Calls Try.prog 58 #[.pointer (some ⟨p, 0, none⟩), .int .i64 (j : Int)] (w1.drewN n) (RemEnd p L q s1 j (w1.drewN n)) := fun n => remove_any p a c L q s1 j (w1.drewN n) (HD1.out.drewN n) hjL
      clear ht h1 hfl hj hlt hjL
      go_wp2_with fail
      go_at_call 57
      refine cT.mono ?_
      rintro e w2 ⟨rfl, n2, rfl⟩
      clear cT
      have cR := cR n2
      go_wp2_with fail
      go_at_call 58
      refine cR.mono ?_
      rintro e w3 ⟨rfl, a', c', hd3, u3, f3⟩
      have HN : Hid (∃ a' c' L', DX w3 p a' c' L' q DL.2 ∧ Zs w3 q z1 ∧ Upd (Mg p q a) w w3 ∧ (a' = a ∨ ∀ x, a' = some x → w.heap.size ≤ x.block) ∧ Gw w L L') := by
        refine ⟨a', c', _, by rw [HE.out]; rw [← HF.out]; exact hd3, ?_, (HU1.out.drewN n2).trans (u3.mono fun _ _ k => Mg.of0 k), .inr (fun y e => Nat.le_trans HU1.out.size (f3 y e)), Gw.sub fun u hu => mem_rem hu⟩
        cases hq : q with
        | none =>
          have := HZ1.out
          rw [hq] at this
          cases z1 with
          | none => trivial
          | some y => exact absurd this (by unfold Zs; exact id)
        | some k =>
          have hz := HZ1.out
          rw [hq] at hz
          exact (show Zs (w1.drewN n2) (some k) z1 from hz.keep (bdn' _ _)).upd u3 (zs_off HD1.out HZ1.out hq)
      clear cR hd3 u3 f3
      go_wp2
      exact HT.out _ _ (by rw [HE.out] <;> rfl) HN.out
  · have g1 : (e0 == 0) = false := by simpa using g0
    have HE : Hid (DL = (e0, s1)) := by unfold Hid; rw [HDL.out, if_pos g0]
    clear h1
    go_wp2
    exact HT.out _ _ (by rw [HE.out] <;> rfl) ⟨a, c, L, by rw [HE.out]; exact HD1.out, HZ1.out, HU1.out, .inl rfl, Gw.refl _ _⟩
end Go.Proofs.Ythkhkijdehbbmaa
