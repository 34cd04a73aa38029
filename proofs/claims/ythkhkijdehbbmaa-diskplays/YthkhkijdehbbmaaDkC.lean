/-
  What a disk of the document asks, with or without a fuse; Read.
-/
import Derived.Test.YthkhkijdehbbmaaDkB
set_option maxRecDepth 100000
namespace Go.Proofs.Ythkhkijdehbbmaa
open Go.RowKit Dk Nm
attribute [local go_sem ↓] Go.wp_at_zero Go.wp_at_succ
set_option linter.unusedVariables false

theorem DX.keep {w w' : World} {p : Nat} {a : Option Addr} {c : Nat} {L : List Fv} {q : Option Nat} {s : St} (h : DX w p a c L q s) (hb : Below w.heap.size w w') : DX w' p a c L q s :=
  h.turn (M := fun _ => False) (Upd.of hb) (fun _ f => absurd f id) (by rw [hb.block p h.lt]; exact h.o) rfl h.wf
theorem Zs.keep {w w' : World} {q : Option Nat} {z : Option Fz} (h : Zs w q z) (hb : Below w.heap.size w w') : Zs w' q z := by
  cases q with
  | none => cases z with
    | none => trivial
    | some y => exact absurd h (by unfold Zs; exact id)
  | some k =>
    cases z with
    | none => exact h
    | some z =>
      unfold Zs at *
      dsimp only at *
      rw [hb.block k (Array.getElem?_eq_some_iff.1 h).1]; exact h
theorem bdn' (w : World) (n : Nat) : Below w.heap.size w (w.drewN n) := ⟨rfl, rfl, rfl, Nat.le_refl _, fun _ _ => rfl⟩
/-- The fuse's count is far from its end. -/
def Zb (z : Option Fz) : Prop := ∀ y, z = some y → 0 ≤ y.done ∧ y.done ≤ 4611686018427387904
theorem ask_any (p : Nat) (a : Option Addr) (c : Nat) (L : List Fv) (q : Option Nat) (s : St) (z : Option Fz) (A : Option Addr) (C : Nat) (ps : List ByteArray) (w : World) (h : DX w p a c L q s) (hz : Zs w q z) (hb : Zb z) (hS : Strs w A ps) (hn : ps.length ≤ 1000) :
    Calls Try.prog 56 #[.pointer (some ⟨p, 0, none⟩), .slice A ps.length C] w (AskEnd p a c L q s z ps w) := by
  cases q with
  | none =>
    cases z with
    | none => exact ask_none p a c L s A C ps w h hS hn
    | some y => exact absurd hz (by unfold Zs; exact id)
  | some k =>
    cases z with
    | none => exact absurd hz (by unfold Zs; exact id)
    | some y => exact ask_some p a c L k s y A C ps w h hz hS hn (hb y rfl).1 (hb y rfl).2
theorem lit_str (w : World) (x : ByteArray) : Strs (w.alloc (.cells #[.string x] 9)) (some ⟨w.heap.size, 0, none⟩) [x] := fun _ => ⟨_, 0, rfl, fun i hi => by
  have : i = 0 := by simp at hi; omega
  subst this
  rw [World.cell?_alloc_new]; rfl⟩
/-- What a file holds, and nothing where it is not. -/
def dataAt (x : ByteArray) (l : List Fl) : ByteArray := match l[place x l]? with
  | some f => f.b
  | none => ⟨#[]⟩
theorem own_slice {w : World} {base n c : Nat} {a : Option Addr} {f : Nat → Nat} (h : Own w base (.slice a n c) n f) (hf : ∀ i, f i < 256) : Row w a n f ∧ (a = none → n = 0 ∧ c = 0) := by
  by_cases h0 : n = 0
  · subst h0
    refine ⟨Row.zero w a hf, fun e => ?_⟩
    rcases h.2 with ⟨e2, _⟩ | ⟨g, cap, cur, e2, _⟩
    · injection e2 with e3 e4 e5; exact ⟨rfl, e5⟩
    · rw [e] at e2; injection e2 with e3; cases e3
  · obtain ⟨g, cap, e2, _, _, _, hr⟩ := h.row (by omega) hf
    injection e2 with e3 e4 e5
    subst e3
    exact ⟨hr, fun e => by cases e⟩
theorem own_mono {w : World} {b b' n : Nat} {v : Value} {f : Nat → Nat} (h : Own w b v n f) (hb : b' ≤ b) : Own w b' v n f := by
  rcases h with ⟨hl, e | ⟨g, cap, cur, e, hg, hh, hr⟩⟩
  · exact ⟨hl, .inl e⟩
  · exact ⟨hl, .inr ⟨g, cap, cur, e, by omega, hh, hr⟩⟩
/-- What Read answers. -/
def readZ (z : Option Fz) (s : St) (x : ByteArray) : ByteArray × Int := if (askZ z s [x]).1 ≠ 0 then (⟨#[]⟩, (askZ z s [x]).1) else if there x s.fs = true then (dataAt x s.fs, 0) else (⟨#[]⟩, 6)
theorem askD_fs (s : St) (ps : List ByteArray) : (askD s ps).2.fs = s.fs := by
  unfold askD
  split
  · rfl
  · split
    · rfl
    · split <;> rfl
theorem askZ_fs (z : Option Fz) (s : St) (ps : List ByteArray) : (askZ z s ps).2.2.fs = s.fs := by
  unfold askZ
  cases z with
  | none => exact askD_fs s ps
  | some y =>
    dsimp only
    split
    · rfl
    · exact askD_fs s ps
/-- A row of bytes of one's own that holds x. -/
def Bts (w : World) (base : Nat) (v : Value) (x : ByteArray) : Prop := ∃ f : Nat → Nat, (∀ i, f i < 256) ∧ Own w base v x.size f ∧ str f x.size = x
theorem Bts.none (w : World) (base : Nat) : Bts w base (.slice none 0 0) ⟨#[]⟩ := ⟨fun _ => 0, fun _ => (by decide : (0 : Nat) < 256), Own.start _ _ _, rfl⟩
def ReadEnd (p : Nat) (a : Option Addr) (c : Nat) (L : List Fv) (q : Option Nat) (s : St) (z : Option Fz) (x : ByteArray) (w : World) (e : Ending) (w' : World) : Prop :=
  ∃ v, e = .returned (.tuple #[v, .int .i64 (readZ z s x).2]) ∧ Bts w' w.heap.size v (readZ z s x).1 ∧ DX w' p a c L q (askZ z s [x]).2.2 ∧ Zs w' q (askZ z s [x]).2.1 ∧ Upd (Mk p q) w w'

set_option maxRecDepth 100000 in
set_option maxHeartbeats 4000000 in
theorem read_any (p : Nat) (a : Option Addr) (c : Nat) (L : List Fv) (q : Option Nat) (s : St) (z : Option Fz) (x : ByteArray) (w : World) (h : DX w p a c L q s) (hz : Zs w q z) (hb : Zb z) (hx : x.size ≤ maxLen) :
    Calls Try.prog 39 #[.pointer (some ⟨p, 0, none⟩), .string x] w (ReadEnd p a c L q s z x w) := by
  obtain ⟨W, hW⟩ : ∃ W, w.alloc (.cells #[.string x] 9) = W := ⟨_, rfl⟩
  have bW : Below w.heap.size w W := by rw [← hW]; exact (Below.refl _ _).alloc (Nat.le_refl _) _
  have hS : Strs W (some ⟨w.heap.size, 0, none⟩) [x] := by rw [← hW]; exact lit_str w x
  have cA := ask_any p a c L q s z (some ⟨w.heap.size, 0, none⟩) 1 [x] W (h.keep bW) (hz.keep bW) hb hS (by simp)
  obtain ⟨e0, he0⟩ : ∃ e0, (askZ z s [x]).1 = e0 := ⟨_, rfl⟩
  have hfs := askZ_fs z s [x]
  obtain ⟨s1, hs1⟩ : ∃ s1, (askZ z s [x]).2.2 = s1 := ⟨_, rfl⟩
  obtain ⟨z1, hz1⟩ : ∃ z1, (askZ z s [x]).2.1 = z1 := ⟨_, rfl⟩
  have HT : Hid (∀ v e w' d, e0 ≠ 0 ∧ d = e0 ∨ e0 = 0 ∧ there x s.fs = false ∧ d = 6 → v = .slice none 0 0 → e = .returned (.tuple #[v, .int .i64 d]) → DX w' p a c L q s1 → Zs w' q z1 → Upd (Mk p q) w w' → ReadEnd p a c L q s z x w e w') := by
    intro v e w' d hd hv he h1 h2 h3
    have hr : readZ z s x = (⟨#[]⟩, d) := by
      unfold readZ
      rw [he0]
      rcases hd with ⟨k, rfl⟩ | ⟨k, k2, rfl⟩
      · rw [if_pos k]
      · rw [if_neg (by simp [k]), if_neg (by rw [k2]; decide)]
    refine ⟨v, by rw [hr]; exact he, by rw [hr, hv]; exact Bts.none _ _, by rw [hs1]; exact h1, by rw [hz1]; exact h2, h3⟩
  have HG : Hid (∀ v e w', e0 = 0 → there x s.fs = true → Bts w' w.heap.size v (dataAt x s.fs) → e = .returned (.tuple #[v, .int .i64 0]) → DX w' p a c L q s1 → Zs w' q z1 → Upd (Mk p q) w w' → ReadEnd p a c L q s z x w e w') := by
    intro v e w' k k2 hv he h1 h2 h3
    have hr : readZ z s x = (dataAt x s.fs, 0) := by
      unfold readZ
      rw [he0, if_neg (by simp [k]), if_pos k2]
    exact ⟨v, by rw [hr]; exact he, by rw [hr]; exact hv, by rw [hs1]; exact h1, by rw [hz1]; exact h2, h3⟩
  have HBW : Hid (Below w.heap.size w W) := bW
  have cA1 : Calls Try.prog 56 #[.pointer (some ⟨p, 0, none⟩), .slice (some ⟨w.heap.size, 0, none⟩) 1 1] W fun e w' => e = .returned (.int .i64 e0) ∧ DX w' p a c L q s1 ∧ Zs w' q z1 ∧ Upd (Mk p q) W w' := by
    refine cA.mono ?_
    rintro e w' ⟨h1, h2, h3, h4⟩
    rw [he0] at h1
    rw [hs1] at h2
    rw [hz1] at h3
    exact ⟨h1, h2, h3, h4⟩
  have HF : Hid (s1.fs = s.fs) := by unfold Hid; rw [← hs1]; exact hfs
  generalize hPP : ReadEnd p a c L q s z x w = PP at *
  clear hPP h hz hb bW hS cA he0 hfs hs1 hz1
  go_enter Try.func39, Try.ntmps39
  go_wp2_with fail
  go_at_call 56
  refine cA1.mono ?_
  rintro e w1 ⟨rfl, h1, hz1, u1⟩
  clear cA1 hW
  have HZ1 : Hid (Zs w1 q z1) := hz1
  have HU1 : Hid (Upd (Mk p q) w w1) := (Upd.of HBW.out).trans u1
  clear hz1 u1
  by_cases g0 : e0 = 0
  · subst g0
    have cT := at_any p a c L q s1 x w1 h1 hx
    rw [HF.out] at cT
    have HD1 : Hid (DX w1 p a c L q s1) := h1
    cases ht : there x s.fs with
    | false =>
      rw [ht] at cT
      have HTH : Hid (there x s.fs = false) := ht
      clear ht h1
      go_wp2_with fail
      go_at_call 57
      refine cT.mono ?_
      rintro e w2 ⟨rfl, n2, rfl⟩
      clear cT
      go_wp2
      exact HT.out _ _ _ _ (.inr ⟨by trivial, HTH.out, rfl⟩) rfl rfl (HD1.out.drewN n2) (HZ1.out.keep (bdn' _ _)) (HU1.out.drewN n2)
    | true =>
      rw [ht] at cT
      have HTH : Hid (there x s.fs = true) := ht
      have hlt := there_lt ht
      obtain ⟨j, hj⟩ : ∃ j, place x s.fs = j := ⟨_, rfl⟩
      rw [hj] at cT hlt
      have hfl : s.fs = L.map fl := by rw [← HF.out]; exact h1.f
      have hjL : j < L.length := by rw [hfl, List.length_map] at hlt; exact hlt
      have HDA : Hid (dataAt x s.fs = L[j]!.b) := by
        unfold Hid dataAt
        rw [hj, hfl, List.getElem?_map, List.getElem?_eq_getElem hjL, getElem!_pos L j hjL]
        rfl
      obtain ⟨hf, _, hlc, _⟩ := h1.rows
      obtain ⟨b, o, rfl, hA⟩ := hf (by omega)
      have t1 := (hA j hjL).c1
      obtain ⟨hsz, hbo, f, hfl2, hown, hstr⟩ := h1.data hjL
      obtain ⟨⟨ba, bn, bc⟩, hbv⟩ : ∃ y : Option Addr × Nat × Nat, L[j]!.bv = y := ⟨_, rfl⟩
      rw [hbv] at t1 hbo hown
      dsimp only at t1 hbo hown
      rw [← hbo] at hown hsz hstr
      have c0 := h1.c0
      have ij : (j : Int) < (L.length : Int) := by omega
      have hnn := h1.n
      obtain ⟨hrow, hnil⟩ := own_slice hown hfl2
      have HD2 : ∀ n, DX (w1.drewN n) p (some ⟨b, o, none⟩) c L q s1 := fun n => HD1.out.drewN n
      have HST : Hid (str f bn = L[j]!.b ∧ bn = L[j]!.b.size ∧ ∀ i, f i < 256) := ⟨hstr, hbo, hfl2⟩
      have HSW : Hid (w.heap.size ≤ w1.heap.size) := HU1.out.size
      have K : ∀ n, ∃ v' W', Sem.run Try.prog (Builtin.append_ #[29, 29] 29 #[.slice none 0 0, .slice ba bn bc]) (w1.drewN n) = .ok v' W' ∧ Bts W' w.heap.size v' L[j]!.b ∧ Below w1.heap.size w1 W' := fun n => by
        obtain ⟨v', W', r1, r2, r3⟩ := appendA (c := bc) (Own.start (w1.drewN n) w1.heap.size (fun _ => 0)) (hrow.keep (bdn' w1 n)) hnil (by omega) (Nat.le_refl _)
        refine ⟨v', W', r1, ⟨cat 0 (fun _ => 0) f, fun i => ?_, ?_, ?_⟩, (bdn' w1 n).trans r3⟩
        · unfold cat; split; exact (by decide : (0 : Nat) < 256); exact hfl2 _
        · rw [← hbo]
          rw [Nat.zero_add] at r2
          exact own_mono r2 HSW.out
        · rw [← hbo, ← hstr]
          exact str_congr fun i _ => by unfold cat; rw [if_neg (by omega), Nat.sub_zero]
      have HK : Hid (∀ n, ∃ v' W', Sem.run Try.prog (Builtin.append_ #[29, 29] 29 #[.slice none 0 0, .slice ba bn bc]) (w1.drewN n) = .ok v' W' ∧ Bts W' w.heap.size v' L[j]!.b ∧ Below w1.heap.size w1 W') := K
      clear K hrow hnil hown hstr hbo hsz hfl2 hbv hA hf hlc HD2 hfl hlt hj ht h1
      go_wp2_with fail
      go_at_call 57
      refine cT.mono ?_
      rintro e w2 ⟨rfl, n2, rfl⟩
      clear cT
      obtain ⟨v', W', hr, hbt, hbl⟩ := HK.out n2
      have HR : Hid (Sem.run Try.prog (Builtin.append_ #[29, 29] 29 #[.slice none 0 0, .slice ba bn bc]) (w1.drewN n2) = .ok v' W') := hr
      have HBT : Hid (Bts W' w.heap.size v' L[j]!.b) := hbt
      have HBL : Hid (Below w1.heap.size w1 W') := hbl
      clear hr hbt hbl HK
      go_wp2_with (at_builtin; refine wpList_append_ran (by rfl) _ _ 29 (by rfl) _ _ _ _ (by rfl) (by rfl) HR.out ?_)
      exact HG.out _ _ _ (by trivial) HTH.out (by rw [HDA.out]; exact HBT.out) rfl (HD1.out.keep HBL.out) (HZ1.out.keep HBL.out) (HU1.out.after HBL.out)
  · have g1 : (e0 == 0) = false := by simpa using g0
    have G0 : Hid (e0 ≠ 0) := g0
    have HD1 : Hid (DX w1 p a c L q s1) := h1
    clear h1
    go_wp2
    exact HT.out _ _ _ _ (.inl ⟨G0.out, rfl⟩) rfl rfl HD1.out HZ1.out HU1.out
end Go.Proofs.Ythkhkijdehbbmaa
