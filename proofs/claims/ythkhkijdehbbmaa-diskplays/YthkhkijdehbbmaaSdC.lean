/-
  Rename of a disk of the document.
-/
import Derived.Test.YthkhkijdehbbmaaSdB
import Derived.Test.YthkhkijdehbbmaaSmZ
set_option maxRecDepth 100000
namespace Go.Proofs.Ythkhkijdehbbmaa
open Go.RowKit
open _root_.Go.Proofs.Ythkhkijdehbbmaa.Nm _root_.Go.Proofs.Ythkhkijdehbbmaa.Dk
attribute [local go_sem ↓] Go.wp_at_zero Go.wp_at_succ
set_option linter.unusedVariables false

theorem DX.fileAt {w : World} {p : Nat} {a : Option Addr} {c : Nat} {L : List Fv} {q : Option Nat} {s : St} (h : DX w p a c L q s) {x : ByteArray} {j : Nat} (hj : place x s.fs = j) (hl : j < L.length) : Go.Proofs.Ythkhkijdehbbmaa.fileAt x s.fs = fl L[j]! := by
  unfold Go.Proofs.Ythkhkijdehbbmaa.fileAt
  rw [hj, h.f, List.getElem?_map, List.getElem?_eq_getElem hl, getElem!_pos L j hl]
  rfl
set_option maxHeartbeats 8000000 in
theorem drename_any (p : Nat) (a : Option Addr) (c : Nat) (L : List Fv) (q : Option Nat) (s : St) (z : Option Fz) (x y : ByteArray) (w : World) (h : DX w p a c L q s) (hz : Zs w q z) (hb : Zb z) (hx : x.size ≤ maxLen) (hy : y.size ≤ maxLen) (hsm : x = y → there x s.fs = true → renS s.fs x y = s.fs) :
    Calls Try.prog 42 #[.pointer (some ⟨p, 0, none⟩), .string x, .string y] w (OpEnd p a L q (renZ z s x y).1 (renZ z s x y).2 (askZ z s [x, y]).2.1 w) := by
  obtain ⟨W, hW⟩ : ∃ W, w.alloc (.cells #[.string x, .string y] 9) = W := ⟨_, rfl⟩
  have bW : Below w.heap.size w W := by rw [← hW]; exact bal _ _
  have hS : Strs W (some ⟨w.heap.size, 0, none⟩) [x, y] := by rw [← hW]; exact strs2 w x y
  have cA := ask_any p a c L q s z (some ⟨w.heap.size, 0, none⟩) 2 [x, y] W (h.keep bW) (hz.keep bW) hb hS (by show 2 ≤ 1000; omega)
  have hfs : (askZ z s [x, y]).2.2.fs = s.fs := askZ_fs z s [x, y]
  obtain ⟨DL, hDL⟩ : ∃ u, renZ z s x y = u := ⟨_, rfl⟩
  have hdl := hDL
  unfold renZ at hdl
  have hok := fun k => askZ_ok2 (z := z) (s := s) (x := x) (y := y) k
  rw [hDL]
  obtain ⟨e0, he0⟩ : ∃ e0, (askZ z s [x, y]).1 = e0 := ⟨_, rfl⟩
  obtain ⟨s1, hs1⟩ : ∃ s1, (askZ z s [x, y]).2.2 = s1 := ⟨_, rfl⟩
  obtain ⟨z1, hz1⟩ : ∃ z1, (askZ z s [x, y]).2.1 = z1 := ⟨_, rfl⟩
  rw [he0, hs1] at hdl
  rw [hs1] at hfs
  rw [he0] at hok
  rw [hz1]
  have HDL : Hid (DL = if e0 ≠ 0 then (e0, s1) else if there x s.fs = true then (0, { s1 with fs := renS s.fs x y }) else (6, s1)) := hdl.symm
  have HBW : Hid (Below w.heap.size w W) := bW
  have cA1 : Calls Try.prog 56 #[.pointer (some ⟨p, 0, none⟩), .slice (some ⟨w.heap.size, 0, none⟩) 2 2] W fun e w' => e = .returned (.int .i64 e0) ∧ DX w' p a c L q s1 ∧ Zs w' q z1 ∧ Upd (Mk p q) W w' := by
    refine cA.mono ?_
    rintro e w' ⟨h1, h2, h3, h4⟩
    rw [he0] at h1
    rw [hs1] at h2
    rw [hz1] at h3
    exact ⟨h1, h2, h3, h4⟩
  have HF : Hid (s1.fs = s.fs) := hfs
  have HOK : Hid (e0 = 0 → x.size ≤ 600 ∧ y.size ≤ 600) := hok
  have HSM : Hid (x = y → there x s.fs = true → renS s.fs x y = s.fs) := hsm
  have HT : Hid (∀ e w', e = .returned (.int .i64 DL.1) → (∃ a' c' L', DX w' p a' c' L' q DL.2 ∧ Zs w' q z1 ∧ Upd (Mg p q a) w w' ∧ (a' = a ∨ ∀ x, a' = some x → w.heap.size ≤ x.block) ∧ Gw w L L') → OpEnd p a L q DL.1 DL.2 z1 w e w') := fun e w' h1 h2 => ⟨h1, h2⟩
  generalize hPP : OpEnd p a L q DL.1 DL.2 z1 w = PP at *
  clear hPP h hz hb bW hS cA he0 hfs hs1 hz1 hdl hDL hok hsm
  go_enter Try.func42, Try.ntmps42
  go_wp2_with fail
  go_at_call 56
  refine cA1.mono ?_
  rintro e w1 ⟨rfl, h1, hz1, u1⟩
  clear cA1 hW
  have HZ1 : Hid (Zs w1 q z1) := hz1
  have HU1 : Hid (Upd (Mg p q a) w w1) := ((Upd.of HBW.out).trans u1).mono fun _ _ k => Mg.of k
  clear hz1 u1
  have HD1 : Hid (DX w1 p a c L q s1) := h1
  by_cases g0 : e0 = 0
  · subst g0
    have cT := at_any p a c L q s1 x w1 h1 hx
    rw [HF.out] at cT
    cases ht : there x s.fs with
    | false =>
      rw [ht] at cT
      have HE : Hid (DL = (6, s1)) := by unfold Hid; rw [HDL.out, if_neg (fun k => k rfl), if_neg (by rw [ht]; decide)]
      clear ht h1
      obtain ⟨j, hj⟩ : ∃ j, place x s.fs = j := ⟨_, rfl⟩
      rw [hj] at cT
      clear hj
      go_wp2_with fail
      go_at_call 57
      refine cT.mono ?_
      rintro e w2 ⟨rfl, n2, rfl⟩
      clear cT
      go_wp2
      exact HT.out _ _ (by rw [HE.out] <;> rfl) ⟨_, c, L, by rw [HE.out]; exact HD1.out.drewN n2, HZ1.out.keep (bdn' _ _), HU1.out.drewN n2, .inl rfl, Gw.refl _ _⟩
    | true =>
      rw [ht] at cT
      have hlt := there_lt ht
      obtain ⟨j, hj⟩ : ∃ j, place x s.fs = j := ⟨_, rfl⟩
      rw [hj] at cT hlt
      have HNL : Hid (s.fs.length = L.length) := by unfold Hid; rw [← HF.out, h1.f, List.length_map]
      have hjL : j < L.length := by have := HNL.out; omega
      by_cases hxy : x = y
      · have x1 : (x.toList == y.toList) = true := by rw [hxy]; simp
        have HE : Hid (DL = (0, s1)) := by
          unfold Hid
          rw [HDL.out, if_neg (fun k => k rfl), if_pos ht, HSM.out hxy ht, ← HF.out]
        clear ht hlt hj hjL h1 hxy
        go_wp2_with fail
        go_at_call 57
        refine cT.mono ?_
        rintro e w2 ⟨rfl, n2, rfl⟩
        clear cT
        go_wp2
        exact HT.out _ _ (by rw [HE.out] <;> rfl) ⟨_, c, L, by rw [HE.out]; exact HD1.out.drewN n2, HZ1.out.keep (bdn' _ _), HU1.out.drewN n2, .inl rfl, Gw.refl _ _⟩
      · have x1 : (x.toList == y.toList) = false := (toList_ne hxy).1
        have HE : Hid (DL = (0, { s1 with fs := renS s.fs x y })) := by
          unfold Hid
          rw [HDL.out, if_neg (fun k => k rfl), if_pos ht]
        have HFA : Hid (fileAt x s.fs = fl L[j]!) := by
          have := h1.fileAt (x := x) (j := j) (by rw [HF.out]; exact hj) hjL
          rw [HF.out] at this
          exact this
        obtain ⟨g, cur, rfl, hg⟩ := h1.block (by omega)
        have ij : (j : Int) < (L.length : Int) := by omega
        obtain ⟨hf, _, hlc, _⟩ := h1.rows
        obtain ⟨b', o', eo, hA⟩ := hf (by omega)
        cases eo
        have k0 := (hA j hjL).c0
        have k1 := (hA j hjL).c1
        have k2 := (hA j hjL).c2
        have hdt := h1.data hjL
        rw [Nat.zero_add] at k0 k1 k2
        obtain ⟨y0, hy0⟩ : ∃ y0, L[j]! = y0 := ⟨_, rfl⟩
        have HY0 : Hid (L[j]! = y0) := hy0
        rw [hy0] at k0 k1 k2 hdt
        obtain ⟨yp, ⟨ya, yn, yc⟩, ys, yb⟩ := y0
        dsimp only at k0 k1 k2 hdt
        have HDT : Hid (yb.size ≤ 262144 ∧ BO w1 ⟨yp, (ya, yn, yc), ys, yb⟩) := hdt
        have HJ : Hid (place x s.fs = j ∧ j < L.length) := ⟨hj, hjL⟩
        have c0 := h1.c0
        have HY : Hid (y.size ≤ maxLen ∧ y.size ≤ 600) := ⟨hy, (HOK.out rfl).2⟩
        clear ht hlt hj h1 hf hA hlc hy0 hdt hg hxy hx hy hjL
        go_wp2_with fail
        go_at_call 57
        refine cT.mono ?_
        rintro e w2 ⟨rfl, n2, rfl⟩
        clear cT
        have m0 : (w1.drewN n2).cell? ⟨p, 0, none⟩ = _ := c0
        have m1 : (w1.drewN n2).cell? ⟨g, j * 3, none⟩ = _ := k0
        have m2 : (w1.drewN n2).cell? ⟨g, j * 3 + 1, none⟩ = _ := k1
        have m3 : (w1.drewN n2).cell? ⟨g, j * 3 + 2, none⟩ = _ := k2
        have b2 : Below w1.heap.size w1 (w1.drewN n2) := bdn' _ _
        clear c0 k0 k1 k2
        generalize w1.drewN n2 = E at *
        go_wp2_with fail
        have HM : Hid (E.cell? ⟨p, 0, none⟩ = some (.slice (some ⟨g, 0, none⟩) L.length c)) := m0
        obtain ⟨W6, hW6⟩ : ∃ W6, E.alloc (.cells #[.string y, .slice ya yn yc, .bool ys] 95) = W6 := ⟨_, rfl⟩
        have b6 : Below w1.heap.size w1 W6 := by rw [← hW6]; exact b2.trans ((bal E _).mono b2.size)
        have hgx6 : W6.heap[E.heap.size]? = some (.cells #[.string y, .slice ya yn yc, .bool ys] 95) := by rw [← hW6]; exact heap_alloc_new _ _
        have hgl : w1.heap.size ≤ E.heap.size := b2.size
        have hd6 := HD1.out.keep b6
        have hz6 := HZ1.out.keep b6
        have hu6 := HU1.out.after b6
        have hbo6 : BO W6 ⟨y, (ya, yn, yc), ys, yb⟩ := BO.keep (x := ⟨y, (ya, yn, yc), ys, yb⟩) (show BO w1 ⟨y, (ya, yn, yc), ys, yb⟩ from HDT.out.2) b6
        have cR := remove_any p _ c L q s1 j W6 hd6 HJ.out.2
        have hszw : w.heap.size ≤ W6.heap.size := hu6.size
        obtain ⟨gx, hgxe⟩ : ∃ gx, E.heap.size = gx := ⟨_, rfl⟩
        have hpx : p ≠ gx := fun e => by have := HD1.out.lt; omega
        rw [hgxe] at hgx6
        clear m0 m1 m2 m3 b2
        clear hgl ij
        rw [hW6, hgxe]
        refine cR.mono ?_
        rintro e w7 ⟨rfl, a2, c2, h7, u7, o7⟩
        clear cR
        obtain ⟨L2, hL2⟩ : ∃ L2, L.take j ++ L.drop (j + 1) = L2 := ⟨_, rfl⟩
        obtain ⟨s2, hs2⟩ : ∃ s2 : St, { s1 with fs := Dk.cut s1.fs j } = s2 := ⟨_, rfl⟩
        rw [hL2, hs2] at h7
        have hx7 : w7.heap[gx]? = some (.cells #[.string y, .slice ya yn yc, .bool ys] 95) := (u7.block _ (Array.getElem?_eq_some_iff.1 hgx6).1 (fun k => by
          rcases k with k | k
          · exact hpx k.symm
          · cases k)).trans hgx6
        have hbo7 : BO w7 ⟨y, (ya, yn, yc), ys, yb⟩ := hbo6.upd u7 fun g' cur' e k => (p_types hd6 k e).2 rfl
        have hz7 : Zs w7 q z1 := hz6.beside u7 (fun k e k2 => by
          rcases k2 with k2 | k2
          · exact zs_off hd6 hz6 e k2.symm
          · cases k2)
        have hu7 : Upd (Mg p q (some ⟨g, 0, none⟩)) w w7 := hu6.trans (u7.mono fun _ _ k => Mg.of0 k)
        have HRN : Hid (renS s.fs x y = Dk.put s2.fs (fl ⟨y, (ya, yn, yc), ys, yb⟩)) := by
          unfold Hid renS
          rw [HJ.out.1, HFA.out, HY0.out, ← hs2, HF.out]
          rfl
        have HS2 : Hid (∀ l, ({ s1 with fs := l } : St) = { s2 with fs := l }) := fun l => by rw [← hs2]
        have HN2 : Hid (s2.fs.length = L2.length ∧ s2.fs.length < 4096) := by
          have e1 : s2.fs.length = L2.length := by rw [h7.f, List.length_map]
          refine ⟨e1, ?_⟩
          rw [e1, ← hL2, List.length_append, List.length_take, List.length_drop]
          have := HD1.out.n
          have := HJ.out.2
          omega
        have HSUB : Hid (∀ u ∈ L2, u ∈ L) := fun u hu => mem_rem (by rw [hL2]; exact hu)
        have HYB : Hid (0 < yb.size → ∀ ad : Addr, ya = some ad → w.heap.size ≤ ad.block ∨ ∃ y0 ∈ L, 0 < y0.b.size ∧ y0.bv.1 = some ad) := fun k ad e => .inr ⟨L[j]!, by rw [getElem!_pos L j HJ.out.2]; exact List.getElem_mem _, by rw [HY0.out]; exact k, by rw [HY0.out]; exact e⟩
        have HO7 : Hid (∀ x, a2 = some x → W6.heap.size ≤ x.block) := o7
        have HSZ : Hid (w.heap.size ≤ W6.heap.size) := hszw
        have cT := at_any p a2 c2 L2 q s2 y w7 h7 HY.out.1
        have HD7 : Hid (DX w7 p a2 c2 L2 q s2) := h7
        have HX7 : Hid (w7.heap[gx]? = some (.cells #[.string y, .slice ya yn yc, .bool ys] 95)) := hx7
        have HB7 : Hid (BO w7 ⟨y, (ya, yn, yc), ys, yb⟩) := hbo7
        have HZ7 : Hid (Zs w7 q z1) := hz7
        have HU7 : Hid (Upd (Mg p q (some ⟨g, 0, none⟩)) w w7) := hu7
        clear hL2 hs2 h7 u7 o7 hx7 hbo7 hz7 hu7 b6 hgx6 hd6 hz6 hu6 hbo6 hszw hgxe hpx hW6
        cases ht2 : there y s2.fs with
        | true =>
          rw [ht2] at cT
          have hlt2 := there_lt ht2
          obtain ⟨j2, hj2⟩ : ∃ j2, place y s2.fs = j2 := ⟨_, rfl⟩
          rw [hj2] at cT hlt2
          have hjL2 : j2 < L2.length := by have := HN2.out.1; omega
          obtain ⟨g2, cur2, ea2, hg2⟩ := HD7.out.block (by omega)
          subst ea2
          have hpg2 : p ≠ g2 := fun e => by
            subst e
            have := HD7.out.o
            rw [hg2] at this
            injection this with this
            injection this with _ this _
            exact absurd this (by decide)
          have HPG : Hid (p ≠ g2 ∧ j2 < L2.length) := ⟨hpg2, hjL2⟩
          have HQG : Hid (∀ k, q = some k → ¬ k = g2) := fun k hk e => by
            subst hk; subst e
            obtain ⟨cs, hz⟩ := HZ7.out.type
            rw [hg2] at hz
            injection hz with hz
            injection hz with _ hz _
            exact absurd hz (by decide)
          have HPT : Hid (renS s.fs x y = s2.fs.set j2 (fl ⟨y, (ya, yn, yc), ys, yb⟩)) := by
            unfold Hid
            rw [HRN.out]
            unfold Dk.put
            rw [if_pos (c := there (fl ⟨y, (ya, yn, yc), ys, yb⟩).path s2.fs = true) ht2]
            show s2.fs.set (place y s2.fs) _ = _
            rw [hj2]
          have ij2 : (j2 : Int) < (L2.length : Int) := by omega
          obtain ⟨hf, _, hlc, _⟩ := HD7.out.rows
          obtain ⟨b', o', eo, hA⟩ := hf (by omega)
          cases eo
          have k0 := (hA j2 hjL2).c0
          have k1 := (hA j2 hjL2).c1
          have k2 := (hA j2 hjL2).c2
          rw [Nat.zero_add] at k0 k1 k2
          obtain ⟨y0, hy0⟩ : ∃ y0, L2[j2]! = y0 := ⟨_, rfl⟩
          rw [hy0] at k0 k1 k2
          obtain ⟨yp', ⟨ya', yn', yc'⟩, ys', yb'⟩ := y0
          dsimp only at k0 k1 k2
          have c0 := HD7.out.c0
          have HK0 : Hid (∀ Y, Below w7.heap.size w7 Y → (Y.cell? ⟨g2, j2 * 3, none⟩ = some (.string yp') ∧ Y.cell? ⟨g2, j2 * 3 + 1, none⟩ = some (.slice ya' yn' yc') ∧ Y.cell? ⟨g2, j2 * 3 + 2, none⟩ = some (.bool ys') ∧ Y.cell? ⟨p, 0, none⟩ = some (.slice (some ⟨g2, 0, none⟩) L2.length c2)) ∧ (∀ i, Y.frozen? ⟨g2, i, none⟩ = false) ∧ (Y.cell? ⟨gx, 0, none⟩ = some (.string y) ∧ Y.cell? ⟨gx, 1, none⟩ = some (.slice ya yn yc) ∧ Y.cell? ⟨gx, 2, none⟩ = some (.bool ys))) := fun Y hb =>
            have hxY : Y.heap[gx]? = some (.cells #[.string y, .slice ya yn yc, .bool ys] 95) := (hb.block gx (Array.getElem?_eq_some_iff.1 HX7.out).1).trans HX7.out
            ⟨⟨(hb.cell (p := ⟨g2, j2 * 3, none⟩) (block_lt_of_cell k0)).trans k0, (hb.cell (p := ⟨g2, j2 * 3 + 1, none⟩) (block_lt_of_cell k1)).trans k1, (hb.cell (p := ⟨g2, j2 * 3 + 2, none⟩) (block_lt_of_cell k2)).trans k2, (hb.cell (p := ⟨p, 0, none⟩) (block_lt_of_cell c0)).trans c0⟩, fun i => frozen_of_row Y g2 i _ _ ((hb.block g2 (Array.getElem?_eq_some_iff.1 hg2).1).trans hg2), cell_of_row Y gx 0 _ _ _ hxY, cell_of_row Y gx 1 _ _ _ hxY, cell_of_row Y gx 2 _ _ _ hxY⟩
          clear ht2 hj2 hlt2 hjL2 hg2 hpg2 hf hA hlc hy0 k0 k1 k2 c0
          go_wp2_with fail
          go_at_call 57
          refine cT.mono ?_
          rintro e w8 ⟨rfl, n8, rfl⟩
          clear cT
          have b8 : Below w7.heap.size w7 (w7.drewN n8) := bdn' _ _
          obtain ⟨⟨l0, l1, l2, l3⟩, l4, q0, q1, q2⟩ := HK0.out _ b8
          have HN : Hid (∃ a' c' L', DX (putF (w7.drewN n8) g2 (j2 * 3) ⟨y, (ya, yn, yc), ys, yb⟩) p a' c' L' q DL.2 ∧ Zs (putF (w7.drewN n8) g2 (j2 * 3) ⟨y, (ya, yn, yc), ys, yb⟩) q z1 ∧ Upd (Mg p q (some ⟨g, 0, none⟩)) w (putF (w7.drewN n8) g2 (j2 * 3) ⟨y, (ya, yn, yc), ys, yb⟩) ∧ (a' = some ⟨g, 0, none⟩ ∨ ∀ x, a' = some x → w.heap.size ≤ x.block) ∧ Gw w L L') := by
            have hd := (HD7.out.keep b8).put HPG.out.2 HPG.out.1 ⟨y, (ya, yn, yc), ys, yb⟩ (HB7.out.keep b8) HDT.out.1 HY.out.2
            have hgn : w.heap.size ≤ g2 := Nat.le_trans HSZ.out (HO7.out _ rfl)
            refine ⟨_, c2, L2.set j2 ⟨y, (ya, yn, yc), ys, yb⟩, ?_, (HZ7.out.keep b8).beside (putF_upd _ _ _ _) HQG.out, (HU7.out.after b8).then (putF_upd _ _ _ _) (fun i hi k => by subst k; omega), .inr (fun x e => Nat.le_trans HSZ.out (HO7.out x e)), Gw.put HSUB.out HYB.out⟩
            rw [HE.out]
            show DX _ p _ c2 _ q { s1 with fs := renS s.fs x y }
            rw [HS2.out, HPT.out]
            exact hd
          clear b8 HK0
          generalize w7.drewN n8 = W5 at *
          unfold putF at HN
          dsimp only at HN
          go_wp2_with fail
          go_region
          all_goals
            go_wp2
            exact HT.out _ _ (by rw [HE.out] <;> rfl) (opd HN.out)
        | false =>
          rw [ht2] at cT
          have hple : place y s2.fs ≤ L2.length := by have := place_le y s2.fs; have := HN2.out.1; omega
          obtain ⟨j2, hj2⟩ : ∃ j2, place y s2.fs = j2 := ⟨_, rfl⟩
          rw [hj2] at cT hple
          have HPT : Hid (renS s.fs x y = s2.fs.take j2 ++ fl ⟨y, (ya, yn, yc), ys, yb⟩ :: s2.fs.drop j2) := by
            unfold Hid
            rw [HRN.out]
            unfold Dk.put
            rw [if_neg (c := there (fl ⟨y, (ya, yn, yc), ys, yb⟩).path s2.fs = true) (by show ¬ there y s2.fs = true; rw [ht2]; decide)]
            show s2.fs.take (place y s2.fs) ++ _ :: s2.fs.drop (place y s2.fs) = _
            rw [hj2]
          have HPL : Hid (j2 ≤ L2.length) := hple
          clear ht2 hj2 hple
          go_wp2_with fail
          go_at_call 57
          refine cT.mono ?_
          rintro e w8 ⟨rfl, n8, rfl⟩
          clear cT
          have b8 : Below w7.heap.size w7 (w7.drewN n8) := bdn' _ _
          have hd5 := HD7.out.keep b8
          have hbo5 := HB7.out.keep b8
          have hz5 := HZ7.out.keep b8
          have hu5 := HU7.out.after b8
          have hx5 : (w7.drewN n8).heap[gx]? = some (.cells #[.string y, .slice ya yn yc, .bool ys] 95) := HX7.out
          clear b8
          generalize w7.drewN n8 = W5 at *
          go_wp2_with fail
          have hins := ins_any (i := j2) (y := ⟨y, (ya, yn, yc), ys, yb⟩) hd5 HPL.out hbo5 HDT.out.1 HY.out.2 HN2.out.2
          obtain ⟨A1, A2, s1', s2', ⟨va1, Wa1, va2, Wa2, aa, Na, ca, Wa3, ra1, ra2, ra3, ka1, ka2, ka3, ia⟩, ⟨vb1, Wb1, vb2, Wb2, ab, Nb, cb, Wb3, rb1, rb2, rb3, kb1, kb2, kb3, ib⟩⟩ := hins
          clear HPL
          have hfin : ∀ W9, InsEnd W5 p L2 q s2 j2 ⟨y, (ya, yn, yc), ys, yb⟩ W9 → Hid (PP (.returned (.int .i64 0)) W9) := fun W9 hi9 => by
            obtain ⟨a', c', hd, hu, ho⟩ := hi9
            have hE := HE.out
            have := HT.out (.returned (.int .i64 0)) W9 (by rw [hE]) ⟨a', c', _, by
              rw [hE]
              show DX _ p _ c' _ q { s1 with fs := renS s.fs x y }
              rw [HS2.out, HPT.out]
              exact hd, hz5.beside hu (fun k e k2 => by
                rcases k2 with k2 | k2
                · exact zs_off hd5 hz5 e k2.symm
                · cases k2), hu5.trans (hu.mono fun _ _ k => Mg.of0 k), .inr (fun y e => Nat.le_trans hu5.size (ho y e)), Gw.ins HSUB.out HYB.out⟩
            exact this
          have FA := hfin _ ia
          have FB := hfin _ ib
          have KS : Hid (∀ Y, Below W5.heap.size W5 Y → Y.cell? ⟨p, 0, none⟩ = some (.slice a2 L2.length c2) ∧ Y.cell? ⟨gx, 0, none⟩ = some (.string y) ∧ Y.cell? ⟨gx, 1, none⟩ = some (.slice ya yn yc) ∧ Y.cell? ⟨gx, 2, none⟩ = some (.bool ys)) := fun Y hb9 =>
            have hxY : Y.heap[gx]? = some (.cells #[.string y, .slice ya yn yc, .bool ys] 95) := (hb9.block gx (Array.getElem?_eq_some_iff.1 hx5).1).trans hx5
            ⟨(hd5.keep hb9).c0, cell_of_row Y gx 0 _ _ _ hxY, cell_of_row Y gx 1 _ _ _ hxY, cell_of_row Y gx 2 _ _ _ hxY⟩
          have sE : Hid _ := KS.out _ (Below.refl _ W5).drew
          have sA1 : Hid _ := KS.out _ ka1
          have sA2 : Hid _ := KS.out _ (ka1.trans ((bal Wa1 (.cells #[.string y, .slice ya yn yc, .bool ys] 95)).mono ka1.size))
          have sA3 : Hid _ := KS.out _ ka2
          have sA4 : Hid _ := KS.out _ ka3
          have sB0 : Hid _ := KS.out _ ((bal W5 (.cells #[.string y, .slice ya yn yc, .bool ys] 95)).drew)
          have sB1 : Hid _ := KS.out _ kb1
          have sB2 : Hid _ := KS.out _ kb2
          have sB3 : Hid _ := KS.out _ kb3
          have fA : Hid _ := (hd5.keep ka3).soft 0
          have fB : Hid _ := (hd5.keep kb3).soft 0
          have RA1 : Hid (Sem.run Try.prog (Builtin.append_ #[82, 82] 82 #[.slice none 0 0, .slice A1 j2 c2]) W5.drew = .ok va1 Wa1) := ra1
          have RA2 : Hid (Sem.run Try.prog (Builtin.append_ #[82, 82] 82 #[va1, .slice (some ⟨Wa1.heap.size, 0, none⟩) 1 1]) (Wa1.alloc (.cells #[.string y, .slice ya yn yc, .bool ys] 95)) = .ok va2 Wa2) := ra2
          have RA3 : Hid (Sem.run Try.prog (Builtin.append_ #[82, 82] 82 #[va2, .slice A2 (L2.length - j2) (c2 - j2)]) Wa2 = .ok (.slice aa Na ca) Wa3) := ra3
          have RB1 : Hid (Sem.run Try.prog (Builtin.append_ #[82, 82] 82 #[.slice none 0 0, .slice A1 j2 c2]) (W5.alloc (.cells #[.string y, .slice ya yn yc, .bool ys] 95)).drew = .ok vb1 Wb1) := rb1
          have RB2 : Hid (Sem.run Try.prog (Builtin.append_ #[82, 82] 82 #[vb1, .slice (some ⟨W5.heap.size, 0, none⟩) 1 1]) Wb1 = .ok vb2 Wb2) := rb2
          have RB3 : Hid (Sem.run Try.prog (Builtin.append_ #[82, 82] 82 #[vb2, .slice A2 (L2.length - j2) (c2 - j2)]) Wb2 = .ok (.slice ab Nb cb) Wb3) := rb3
          clear hfin ia ib ra1 ra2 ra3 rb1 rb2 rb3 ka1 ka2 ka3 kb1 kb2 kb3 KS hd5 hbo5 hz5 hu5 hx5
          refine region_L (fun Y => Y.cell? ⟨p, 0, none⟩ = some (.slice a2 L2.length c2) ∧ Y.cell? ⟨gx, 0, none⟩ = some (.string y) ∧ Y.cell? ⟨gx, 1, none⟩ = some (.slice ya yn yc) ∧ Y.cell? ⟨gx, 2, none⟩ = some (.bool ys)) 20 (by kernel_rfl) sE.out (fun hHeld => ?_)
          refine anyL_take 0 (oi := ?o1) (v := ?v1) ?hi1 (by kernel_rfl) (by kernel_rfl) (by kernel_rfl) (by kernel_rfl) ?hQ1 ?hy1 hHeld ?_
          case hi1 => (simp only [List.getElem?_toArray, List.getElem?_cons_zero]; rfl)
          case hQ1 => exact fun _ _ _ h => h
          case hy1 => (refine Or.inl ⟨by rfl, ?_⟩; intro w hSw; (try dsimp only at hSw); go_simp <;> with_reducible rfl)
          try simp only [Act.put, List.setIfInBounds_toArray, List.set_cons_zero, List.set_cons_succ]
          refine anyL_take 1 (oi := ?o2) (v := ?v2) ?hi2 (by kernel_rfl) (by kernel_rfl) (by kernel_rfl) (by kernel_rfl) ?hQ2 ?hy2 hHeld ?_
          case hi2 => (simp only [List.getElem?_toArray, List.getElem?_cons_zero, List.getElem?_cons_succ]; rfl)
          case hQ2 => exact fun _ _ _ h => h
          case hy2 => (refine Or.inl ⟨by rfl, ?_⟩; intro w hSw; (try dsimp only at hSw); go_simp <;> with_reducible rfl)
          try simp only [Act.put, List.setIfInBounds_toArray, List.set_cons_zero, List.set_cons_succ]
          refine anyL_take 2 (oi := ?o3) (v := ?v3) ?hi3 (by kernel_rfl) (by kernel_rfl) (by kernel_rfl) (by kernel_rfl) ?hQ3 ?hy3 hHeld ?_
          case hi3 => (simp only [List.getElem?_toArray, List.getElem?_cons_zero, List.getElem?_cons_succ]; rfl)
          case hQ3 => exact fun _ _ _ h => h
          case hy3 => (refine Or.inl ⟨by rfl, ?_⟩; intro w hSw; (try dsimp only at hSw); go_simp <;> with_reducible rfl)
          try simp only [Act.put, List.setIfInBounds_toArray, List.set_cons_zero, List.set_cons_succ]
          refine anyL_take 3 (oi := ?o4) (v := ?v4) ?hi4 (by kernel_rfl) (by kernel_rfl) (by kernel_rfl) (by kernel_rfl) ?hQ4 ?hy4 hHeld ?_
          case hi4 => (simp only [List.getElem?_toArray, List.getElem?_cons_zero, List.getElem?_cons_succ]; rfl)
          case hQ4 => exact fun _ _ _ h => h
          case hy4 => (refine Or.inl ⟨by rfl, ?_⟩; intro w hSw; (try dsimp only at hSw); go_simp <;> with_reducible rfl)
          try simp only [Act.put, List.setIfInBounds_toArray, List.set_cons_zero, List.set_cons_succ]
          refine anyL_take 4 (oi := ?o5) (v := ?v5) ?hi5 (by kernel_rfl) (by kernel_rfl) (by kernel_rfl) (by kernel_rfl) ?hQ5 ?hy5 hHeld ?_
          case hi5 => (simp only [List.getElem?_toArray, List.getElem?_cons_zero, List.getElem?_cons_succ]; rfl)
          case hQ5 => exact fun _ _ _ h => h
          case hy5 => (refine Or.inl ⟨by rfl, ?_⟩; intro w hSw; (try dsimp only at hSw); go_simp <;> with_reducible rfl)
          try simp only [Act.put, List.setIfInBounds_toArray, List.set_cons_zero, List.set_cons_succ]
          refine anyL_take 5 (oi := ?o6) (v := ?v6) ?hi6 (by kernel_rfl) (by kernel_rfl) (by kernel_rfl) (by kernel_rfl) ?hQ6 ?hy6 hHeld ?_
          case hi6 => (simp only [List.getElem?_toArray, List.getElem?_cons_zero, List.getElem?_cons_succ]; rfl)
          case hQ6 => exact fun _ _ _ h => h
          case hy6 => (refine Or.inl ⟨by rfl, ?_⟩; intro w hSw; (try dsimp only at hSw); go_simp <;> with_reducible rfl)
          try simp only [Act.put, List.setIfInBounds_toArray, List.set_cons_zero, List.set_cons_succ]
          refine anyL_take 6 (oi := ?o7) (v := ?v7) ?hi7 (by kernel_rfl) (by kernel_rfl) (by kernel_rfl) (by kernel_rfl) ?hQ7 ?hy7 hHeld ?_
          case hi7 => (simp only [List.getElem?_toArray, List.getElem?_cons_zero, List.getElem?_cons_succ]; rfl)
          case hQ7 => exact fun _ _ _ h => h
          case hy7 => (refine Or.inl ⟨by rfl, ?_⟩; intro w hSw; (try dsimp only at hSw); go_simp <;> with_reducible rfl)
          try simp only [Act.put, List.setIfInBounds_toArray, List.set_cons_zero, List.set_cons_succ]
          refine anyL_take 8 (oi := ?o8) (v := ?v8) ?hi8 (by kernel_rfl) (by kernel_rfl) (by kernel_rfl) (by kernel_rfl) ?hQ8 ?hy8 hHeld ?_
          case hi8 => (simp only [List.getElem?_toArray, List.getElem?_cons_zero, List.getElem?_cons_succ]; rfl)
          case hQ8 => exact fun _ _ _ h => h
          case hy8 => (refine Or.inl ⟨by rfl, ?_⟩; intro w hSw; (try dsimp only at hSw); go_simp <;> with_reducible rfl)
          try simp only [Act.put, List.setIfInBounds_toArray, List.set_cons_zero, List.set_cons_succ]
          refine anyL_take 11 (oi := ?o9) (v := ?v9) ?hi9 (by kernel_rfl) (by kernel_rfl) (by kernel_rfl) (by kernel_rfl) ?hQ9 ?hy9 hHeld ?_
          case hi9 => (simp only [List.getElem?_toArray, List.getElem?_cons_zero, List.getElem?_cons_succ]; rfl)
          case hQ9 => exact fun _ _ _ h => h
          case hy9 => (refine Or.inl ⟨by rfl, ?_⟩; intro w hSw; (try dsimp only at hSw); go_simp <;> with_reducible rfl)
          try simp only [Act.put, List.setIfInBounds_toArray, List.set_cons_zero, List.set_cons_succ]
          refine anyL_take 12 (oi := ?o10) (v := ?v10) ?hi10 (by kernel_rfl) (by kernel_rfl) (by kernel_rfl) (by kernel_rfl) ?hQ10 ?hy10 hHeld ?_
          case hi10 => (simp only [List.getElem?_toArray, List.getElem?_cons_zero, List.getElem?_cons_succ]; rfl)
          case hQ10 => exact fun _ _ _ h => h
          case hy10 => (refine Or.inl ⟨by rfl, ?_⟩; intro w hSw; (try dsimp only at hSw); go_simp <;> with_reducible rfl)
          try simp only [Act.put, List.setIfInBounds_toArray, List.set_cons_zero, List.set_cons_succ]
          refine anyL_take 13 (oi := ?o11) (v := ?v11) ?hi11 (by kernel_rfl) (by kernel_rfl) (by kernel_rfl) (by kernel_rfl) ?hQ11 ?hy11 hHeld ?_
          case hi11 => (simp only [List.getElem?_toArray, List.getElem?_cons_zero, List.getElem?_cons_succ]; rfl)
          case hQ11 => exact fun _ _ _ h => h
          case hy11 => (refine Or.inl ⟨by rfl, ?_⟩; intro w hSw; (try dsimp only at hSw); go_simp <;> with_reducible rfl)
          try simp only [Act.put, List.setIfInBounds_toArray, List.set_cons_zero, List.set_cons_succ]
          refine anyL_take 14 (oi := ?o12) (v := ?v12) ?hi12 (by kernel_rfl) (by kernel_rfl) (by kernel_rfl) (by kernel_rfl) ?hQ12 ?hy12 hHeld ?_
          case hi12 => (simp only [List.getElem?_toArray, List.getElem?_cons_zero, List.getElem?_cons_succ]; rfl)
          case hQ12 => exact fun _ _ _ h => h
          case hy12 => (refine Or.inl ⟨by rfl, ?_⟩; intro w hSw; (try dsimp only at hSw); go_simp <;> with_reducible rfl)
          try simp only [Act.put, List.setIfInBounds_toArray, List.set_cons_zero, List.set_cons_succ]
          refine anyL_take 15 (oi := ?o13) (v := ?v13) ?hi13 (by kernel_rfl) (by kernel_rfl) (by kernel_rfl) (by kernel_rfl) ?hQ13 ?hy13 hHeld ?_
          case hi13 => (simp only [List.getElem?_toArray, List.getElem?_cons_zero, List.getElem?_cons_succ]; rfl)
          case hQ13 => exact fun _ _ _ h => h
          case hy13 => (refine Or.inl ⟨by rfl, ?_⟩; intro w hSw; (try dsimp only at hSw); go_simp <;> with_reducible rfl)
          try simp only [Act.put, List.setIfInBounds_toArray, List.set_cons_zero, List.set_cons_succ]
          refine anyL_take 16 (oi := ?o14) (v := ?v14) ?hi14 (by kernel_rfl) (by kernel_rfl) (by kernel_rfl) (by kernel_rfl) ?hQ14 ?hy14 hHeld ?_
          case hi14 => (simp only [List.getElem?_toArray, List.getElem?_cons_zero, List.getElem?_cons_succ]; rfl)
          case hQ14 => exact fun _ _ _ h => h
          case hy14 => (refine Or.inl ⟨by rfl, ?_⟩; intro w hSw; (try dsimp only at hSw); go_simp <;> with_reducible rfl)
          try simp only [Act.put, List.setIfInBounds_toArray, List.set_cons_zero, List.set_cons_succ]
          clear hHeld
          refine anyL_two 7 9 (o := ?o) (o' := ?o') ?hi ?hj (by kernel_rfl) (fun K hK => ?_) (fun K hK => ?_)
          case hi => (simp only [List.getElem?_toArray, List.getElem?_cons_zero, List.getElem?_cons_succ]; rfl)
          case hj => (simp only [List.getElem?_toArray, List.getElem?_cons_zero, List.getElem?_cons_succ]; rfl)
          · refine step_append_ran (by rfl) _ _ 82 (by rfl) (.slice none 0 0) (.slice A1 j2 c2) va1 Wa1 (by rfl) (by rfl) (by dsimp only; with_reducible exact RA1.out) ?_
            refine hK.out _ _ sA1.out ?_
            clear hK
            try simp only [Act.put, List.setIfInBounds_toArray, List.set_cons_zero, List.set_cons_succ]
            refine anyL_one 9 (o := ?o15) ?hi15 (by kernel_rfl) (fun K hK => ?_)
            case hi15 => (simp only [List.getElem?_toArray, List.getElem?_cons_zero, List.getElem?_cons_succ]; rfl)
            go_simp
            refine hK.out _ _ sA2.out ?_
            clear hK
            try simp only [Act.put, List.setIfInBounds_toArray, List.set_cons_zero, List.set_cons_succ]
            refine anyL_one 10 (o := ?o16) ?hi16 (by kernel_rfl) (fun K hK => ?_)
            case hi16 => (simp only [List.getElem?_toArray, List.getElem?_cons_zero, List.getElem?_cons_succ]; rfl)
            refine step_append_ran (by rfl) _ _ 82 (by rfl) va1 (.slice (some ⟨Wa1.heap.size, 0, none⟩) 1 1) va2 Wa2 (by rfl) (by rfl) (by dsimp only; with_reducible exact RA2.out) ?_
            refine hK.out _ _ sA3.out ?_
            clear hK
            try simp only [Act.put, List.setIfInBounds_toArray, List.set_cons_zero, List.set_cons_succ]
            refine anyL_one 17 (o := ?o17) ?hi17 (by kernel_rfl) (fun K hK => ?_)
            case hi17 => (simp only [List.getElem?_toArray, List.getElem?_cons_zero, List.getElem?_cons_succ]; rfl)
            refine step_append_ran (by rfl) _ _ 82 (by rfl) va2 (.slice A2 (L2.length - j2) (c2 - j2)) (.slice aa Na ca) Wa3 (by rfl) (by rfl) (by dsimp only; with_reducible exact RA3.out) ?_
            refine hK.out _ _ sA4.out ?_
            clear hK
            try simp only [Act.put, List.setIfInBounds_toArray, List.set_cons_zero, List.set_cons_succ]
            refine anyL_one 18 (o := ?o18) ?hi18 (by kernel_rfl) (fun K hK => ?_)
            case hi18 => (simp only [List.getElem?_toArray, List.getElem?_cons_zero, List.getElem?_cons_succ]; rfl)
            go_simp
            refine hK.out _ _ sA4.out ?_
            clear hK
            try simp only [Act.put, List.setIfInBounds_toArray, List.set_cons_zero, List.set_cons_succ]
            refine anyL_one 19 (o := ?o19) ?hi19 (by kernel_rfl) (fun K hK => ?_)
            case hi19 => (simp only [List.getElem?_toArray, List.getElem?_cons_zero, List.getElem?_cons_succ]; rfl)
            go_simp
            refine hK.out _ _ sA4.out ?_
            clear hK
            try simp only [Act.put, List.setIfInBounds_toArray, List.set_cons_zero, List.set_cons_succ]
            refine anyL_last (o := ?o20) ?hi20 (by kernel_rfl) (fun K hK => ?_)
            case hi20 => (simp only [List.getElem?_toArray, List.getElem?_cons_zero, List.getElem?_cons_succ]; rfl)
            have hst := sA4.out
            have hfr := fA.out
            go_simp
            refine hK.out _ _ ?_
            clear hK
            refine anyL_done (by kernel_rfl) ?_ _
            go_wp2
            exact FA.out
          · go_simp
            refine hK.out _ _ sB0.out ?_
            clear hK
            try simp only [Act.put, List.setIfInBounds_toArray, List.set_cons_zero, List.set_cons_succ]
            refine anyL_one 7 (o := ?o21) ?hi21 (by kernel_rfl) (fun K hK => ?_)
            case hi21 => (simp only [List.getElem?_toArray, List.getElem?_cons_zero, List.getElem?_cons_succ]; rfl)
            refine step_append_ran (by rfl) _ _ 82 (by rfl) (.slice none 0 0) (.slice A1 j2 c2) vb1 Wb1 (by rfl) (by rfl) (by dsimp only; with_reducible exact RB1.out) ?_
            refine hK.out _ _ sB1.out ?_
            clear hK
            try simp only [Act.put, List.setIfInBounds_toArray, List.set_cons_zero, List.set_cons_succ]
            refine anyL_one 10 (o := ?o22) ?hi22 (by kernel_rfl) (fun K hK => ?_)
            case hi22 => (simp only [List.getElem?_toArray, List.getElem?_cons_zero, List.getElem?_cons_succ]; rfl)
            refine step_append_ran (by rfl) _ _ 82 (by rfl) vb1 (.slice (some ⟨W5.heap.size, 0, none⟩) 1 1) vb2 Wb2 (by rfl) (by rfl) (by dsimp only; with_reducible exact RB2.out) ?_
            refine hK.out _ _ sB2.out ?_
            clear hK
            try simp only [Act.put, List.setIfInBounds_toArray, List.set_cons_zero, List.set_cons_succ]
            refine anyL_one 17 (o := ?o23) ?hi23 (by kernel_rfl) (fun K hK => ?_)
            case hi23 => (simp only [List.getElem?_toArray, List.getElem?_cons_zero, List.getElem?_cons_succ]; rfl)
            refine step_append_ran (by rfl) _ _ 82 (by rfl) vb2 (.slice A2 (L2.length - j2) (c2 - j2)) (.slice ab Nb cb) Wb3 (by rfl) (by rfl) (by dsimp only; with_reducible exact RB3.out) ?_
            refine hK.out _ _ sB3.out ?_
            clear hK
            try simp only [Act.put, List.setIfInBounds_toArray, List.set_cons_zero, List.set_cons_succ]
            refine anyL_one 18 (o := ?o24) ?hi24 (by kernel_rfl) (fun K hK => ?_)
            case hi24 => (simp only [List.getElem?_toArray, List.getElem?_cons_zero, List.getElem?_cons_succ]; rfl)
            go_simp
            refine hK.out _ _ sB3.out ?_
            clear hK
            try simp only [Act.put, List.setIfInBounds_toArray, List.set_cons_zero, List.set_cons_succ]
            refine anyL_one 19 (o := ?o25) ?hi25 (by kernel_rfl) (fun K hK => ?_)
            case hi25 => (simp only [List.getElem?_toArray, List.getElem?_cons_zero, List.getElem?_cons_succ]; rfl)
            go_simp
            refine hK.out _ _ sB3.out ?_
            clear hK
            try simp only [Act.put, List.setIfInBounds_toArray, List.set_cons_zero, List.set_cons_succ]
            refine anyL_last (o := ?o26) ?hi26 (by kernel_rfl) (fun K hK => ?_)
            case hi26 => (simp only [List.getElem?_toArray, List.getElem?_cons_zero, List.getElem?_cons_succ]; rfl)
            have hst := sB3.out
            have hfr := fB.out
            go_simp
            refine hK.out _ _ ?_
            clear hK
            refine anyL_done (by kernel_rfl) ?_ _
            go_wp2
            exact FB.out
  · have g1 : (e0 == 0) = false := by simpa using g0
    have HE : Hid (DL = (e0, s1)) := by unfold Hid; rw [HDL.out, if_pos g0]
    clear h1
    go_wp2
    exact HT.out _ _ (by rw [HE.out] <;> rfl) ⟨a, c, L, by rw [HE.out]; exact HD1.out, HZ1.out, HU1.out, .inl rfl, Gw.refl _ _⟩
end Go.Proofs.Ythkhkijdehbbmaa
