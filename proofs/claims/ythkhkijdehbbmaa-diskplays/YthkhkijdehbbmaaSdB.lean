/-
  Write of a disk of the document.
-/
import Derived.Test.YthkhkijdehbbmaaSdA
import Derived.Test.YthkhkijdehbbmaaSdL
import Derived.Test.YthkhkijdehbbmaaSmK
set_option maxRecDepth 100000
namespace Go.Proofs.Ythkhkijdehbbmaa
open Go.RowKit
open _root_.Go.Proofs.Ythkhkijdehbbmaa.Nm _root_.Go.Proofs.Ythkhkijdehbbmaa.Dk
attribute [local go_sem ↓] Go.wp_at_zero Go.wp_at_succ
set_option linter.unusedVariables false

theorem opd {w W : World} {p : Nat} {a : Option Addr} {L : List Fv} {q : Option Nat} {s : St} {z : Option Fz} (h : ∃ a' c' L', DX W p a' c' L' q s ∧ Zs W q z ∧ Upd (Mg p q a) w W ∧ (a' = a ∨ ∀ x, a' = some x → w.heap.size ≤ x.block) ∧ Gw w L L') :
    ∃ a' c' L', DX W.drew p a' c' L' q s ∧ Zs W.drew q z ∧ Upd (Mg p q a) w W.drew ∧ (a' = a ∨ ∀ x, a' = some x → w.heap.size ≤ x.block) ∧ Gw w L L' := by
  obtain ⟨a', c', L', h1, h2, h3, h4⟩ := h
  exact ⟨a', c', L', h1.keep (Below.refl _ _).drew, h2.keep (Below.refl _ _).drew, h3.drew, h4⟩
set_option maxHeartbeats 8000000 in
theorem dwrite_any (p : Nat) (a : Option Addr) (c : Nat) (L : List Fv) (q : Option Nat) (s : St) (z : Option Fz) (x : ByteArray) (va : Option Addr) (vn vc : Nat) (b : ByteArray) (w : World) (h : DX w p a c L q s) (hz : Zs w q z) (hb : Zb z) (hx : x.size ≤ maxLen) (hi : Inp w va vn vc b) (hvn : vn ≤ maxLen) :
    Calls Try.prog 40 #[.pointer (some ⟨p, 0, none⟩), .string x, .slice va vn vc] w (OpEnd p a L q (wriZ z s x b).1 (wriZ z s x b).2 (askZ z s [x]).2.1 w) := by
  obtain ⟨W, hW⟩ : ∃ W, w.alloc (.cells #[.string x] 9) = W := ⟨_, rfl⟩
  have bW : Below w.heap.size w W := by rw [← hW]; exact (Below.refl _ _).alloc (Nat.le_refl _) _
  have hS : Strs W (some ⟨w.heap.size, 0, none⟩) [x] := by rw [← hW]; exact lit_str w x
  have cA := ask_any p a c L q s z (some ⟨w.heap.size, 0, none⟩) 1 [x] W (h.keep bW) (hz.keep bW) hb hS (by simp)
  have hfs := askZ_fs z s [x]
  have hms := askZ_most z s [x]
  have hlen := hi.len
  have hokp : (askZ z s [x]).1 = 0 → x.size ≤ 600 := fun e => by
    have hD : ∀ s, (askD s [x]).1 = 0 → okPath x = true := fun s h => by
      unfold askD at h
      split at h
      · cases h
      · split at h
        · cases h
        · split at h
          · next e => simpa using e
          · cases h
    have : okPath x = true := by
      cases z with
      | none => exact hD s e
      | some z =>
        unfold askZ at e
        dsimp only at e
        split at e
        · cases e
        · exact hD s e
    exact (okPath_iff.1 this).2
  have hdl : wriZ z s x b = wriZ z s x b := rfl
  conv at hdl => rhs; unfold wriZ
  obtain ⟨e0, he0⟩ : ∃ e0, (askZ z s [x]).1 = e0 := ⟨_, rfl⟩
  obtain ⟨s1, hs1⟩ : ∃ s1, (askZ z s [x]).2.2 = s1 := ⟨_, rfl⟩
  obtain ⟨z1, hz1⟩ : ∃ z1, (askZ z s [x]).2.1 = z1 := ⟨_, rfl⟩
  rw [he0, hs1] at hdl
  rw [hs1] at hfs hms
  rw [he0] at hokp
  rw [hz1]
  obtain ⟨DL, hDL⟩ : ∃ y, wriZ z s x b = y := ⟨_, rfl⟩
  rw [hDL] at hdl ⊢
  have HDL : Hid (DL = if e0 ≠ 0 then (e0, s1) else if 262144 < b.size then (3, s1) else if full s x b = true then (8, s1) else (0, { s1 with fs := Dk.put s.fs ⟨x, b, false⟩ })) := hdl
  have HBW : Hid (Below w.heap.size w W) := bW
  have cA1 : Calls Try.prog 56 #[.pointer (some ⟨p, 0, none⟩), .slice (some ⟨w.heap.size, 0, none⟩) 1 1] W fun e w' => e = .returned (.int .i64 e0) ∧ DX w' p a c L q s1 ∧ Zs w' q z1 ∧ Upd (Mk p q) W w' := by
    refine cA.mono ?_
    rintro e w' ⟨h1, h2, h3, h4⟩
    rw [he0] at h1
    rw [hs1] at h2
    rw [hz1] at h3
    exact ⟨h1, h2, h3, h4⟩
  have HF : Hid (s1.fs = s.fs) := hfs
  have HMS : Hid (s1.most = s.most) := hms
  have HOK : Hid (e0 = 0 → x.size ≤ 600) := hokp
  have HT : Hid (∀ e w', e = .returned (.int .i64 DL.1) → (∃ a' c' L', DX w' p a' c' L' q DL.2 ∧ Zs w' q z1 ∧ Upd (Mg p q a) w w' ∧ (a' = a ∨ ∀ x, a' = some x → w.heap.size ≤ x.block) ∧ Gw w L L') → OpEnd p a L q DL.1 DL.2 z1 w e w') := fun e w' h1 h2 => ⟨h1, h2⟩
  -- the bytes that came in stay
  have HI : Hid (∀ w', Upd (Mk p q) W w' → Inp w' va vn vc b) := fun w' u => (hi.keep bW).upd u fun k o v hk => by
    have hk0 := h.keep bW
    rcases hk with hk | hk
    · subst hk
      intro e
      rw [cell_of_row W k o _ _ _ hk0.o] at e
      match o, e with
      | 0, e => simp at e
      | 1, e => simp at e
      | 2, e => simp at e
      | 3, e => simp at e
      | 4, e => simp at e
      | o + 5, e => simp at e
    · subst hk
      have hz0 := hz.keep bW
      cases z with
      | none => exact absurd hz0 (by unfold Zs; exact id)
      | some y =>
        unfold Zs at hz0
        intro e
        rw [cell_of_row W k o _ _ _ hz0] at e
        match o, e with
        | 0, e => simp at e
        | 1, e => simp at e
        | 2, e => simp at e
        | o + 3, e => simp at e
  generalize hPP : OpEnd p a L q DL.1 DL.2 z1 w = PP at *
  have HLN : Hid (vn = b.size) := hlen
  clear hPP h hz hb bW hS cA he0 hfs hms hs1 hz1 hdl hDL hokp hi hlen
  go_enter Try.func40, Try.ntmps40
  go_wp2_with fail
  go_at_call 56
  refine cA1.mono ?_
  rintro e w1 ⟨rfl, h1, hz1, u1⟩
  clear cA1 hW
  have hi1 := HI.out w1 u1
  have HI1 : Hid (Inp w1 va vn vc b) := hi1
  have HZ1 : Hid (Zs w1 q z1) := hz1
  have HU1 : Hid (Upd (Mg p q a) w w1) := ((Upd.of HBW.out).trans u1).mono fun _ _ k => Mg.of k
  clear hz1 u1 hi1 HI
  have HD1 : Hid (DX w1 p a c L q s1) := h1
  by_cases g0 : e0 = 0
  · subst g0
    by_cases g3 : 262144 < vn
    · have i3 : (262144 : Int) < (vn : Int) := by omega
      have HE : Hid (DL = (3, s1)) := by unfold Hid; rw [HDL.out, if_neg (fun k => k rfl), if_pos (by have := HLN.out; omega)]
      clear h1
      go_wp2
      exact HT.out _ _ (by rw [HE.out] <;> rfl) ⟨a, c, L, by rw [HE.out]; exact HD1.out, HZ1.out, HU1.out, .inl rfl, Gw.refl _ _⟩
    have i3 : decide ((262144 : Int) < (vn : Int)) = false := decide_eq_false (by omega)
    have HV : Hid (vn ≤ 262144) := by unfold Hid; omega
    have hvz : vn ≤ 262144 := by omega
    clear g3 hvn
    have cT := at_any p a c L q s1 x w1 h1 hx
    have cU : ∀ n, Calls Try.prog 50 #[.pointer (some ⟨p, 0, none⟩)] (w1.drewN n) fun e w' => e = .returned (.int .i64 ((used s1.fs : Nat) : Int)) ∧ w' = w1.drewN n := fun n => used_any p a c L q s1 (w1.drewN n) (h1.drewN n)
    have hus := used_le h1.wf.b
    have hnn := h1.wf.n
    have hfl := h1.f
    have c0 := h1.c0
    have c1 := h1.c1
    have hm0 := h1.wf.m0
    have hm1 := h1.wf.m1
    rw [HF.out] at cT hus hnn cU hfl
    rw [HMS.out] at c1 hm0 hm1
    have HNL : Hid (s.fs.length = L.length) := by unfold Hid; rw [hfl, List.length_map]
    have hnl : L.length ≤ 4096 := by have := HNL.out; omega
    obtain ⟨U, hU⟩ : ∃ U, used s.fs = U := ⟨_, rfl⟩
    rw [hU] at cU hus
    have hU30 : U ≤ 1073741824 := by omega
    obtain ⟨mo, hmo⟩ : ∃ mo, s.most = mo := ⟨_, rfl⟩
    rw [hmo] at c1 hm0 hm1
    -- the size behind
    obtain ⟨old, hold⟩ : ∃ old, oldN s x = old := ⟨_, rfl⟩
    have HFULL : Hid (full s x b = (decide (mo < (U : Int) + (vn : Int) - (old : Int)) || (!there x s.fs && decide (4096 ≤ L.length)))) := by
      unfold Hid full
      rw [hmo, hU, hold, HNL.out, HLN.out]
    have HOLD : Hid (oldN s x = old) := hold
    have hD1 : Hid (full s x b = true → DL = (8, s1)) := fun e => by rw [HDL.out, if_neg (fun k => k rfl), if_neg (by have := HLN.out; have := HV.out; omega), if_pos e]
    have hD2 : Hid (full s x b = false → DL = (0, { s1 with fs := Dk.put s.fs ⟨x, b, false⟩ })) := fun e => by rw [HDL.out, if_neg (fun k => k rfl), if_neg (by have := HLN.out; have := HV.out; omega), if_neg (by rw [e]; decide)]
    clear hU hmo hold hfl hnn
    -- the box
    have HK : Hid (∀ n, ∃ a9 c9 W', Sem.run Try.prog (Builtin.append_ #[29, 29] 29 #[.slice none 0 0, .slice va vn vc]) (w1.drewN n) = .ok (.slice a9 vn c9) W' ∧ BO W' ⟨x, (a9, vn, c9), false, b⟩ ∧ Below w1.heap.size w1 W' ∧ ∀ ad : Addr, a9 = some ad → w1.heap.size ≤ ad.block) := fun n => by
      obtain ⟨f, hf1, hrow, hstr⟩ := HI1.out.r
      obtain ⟨v', W', r1, r2, r3⟩ := appendA (c := vc) (Own.start (w1.drewN n) w1.heap.size (fun _ => 0)) (hrow.keep (bdn' w1 n)) HI1.out.z (by omega) (Nat.le_refl _)
      rw [Nat.zero_add] at r2
      obtain ⟨a9, c9, ev⟩ : ∃ a9 c9, v' = .slice a9 vn c9 := by
        rcases r2.2 with ⟨e1, e2⟩ | ⟨g, cap, cur, e1, _⟩
        · exact ⟨none, 0, by rw [e1, show vn = 0 from e2]⟩
        · exact ⟨_, _, e1⟩
      subst ev
      have hnew : ∀ ad : Addr, a9 = some ad → w1.heap.size ≤ ad.block := fun ad e => by
        subst e
        rcases r2.2 with ⟨e1, _⟩ | ⟨g, cap, cur, e1, hg, _⟩
        · injection e1 with e1 _ _
          cases e1
        · injection e1 with e1 _ _
          injection e1 with e1
          subst e1
          exact hg
      refine ⟨a9, c9, W', r1, ⟨HLN.out, cat 0 (fun _ => 0) f, fun i => ?_, ?_, ?_⟩, (bdn' w1 n).trans r3, hnew⟩
      · unfold cat; split; exact (by decide : (0 : Nat) < 256); exact hf1 _
      · rw [← HLN.out]
        exact own_mono r2 (Nat.zero_le _)
      · rw [← HLN.out, ← hstr]
        exact str_congr fun i _ => by unfold cat; rw [if_neg (by omega), Nat.sub_zero]
    obtain ⟨UV, hUV⟩ : ∃ UV, U + vn = UV := ⟨_, rfl⟩
    have wz : IntKind.i64.wrap ((U : Int) + (vn : Int)) = (UV : Int) := by rw [IntKind.wrap_i64]; omega
    obtain ⟨n1, hn1⟩ : ∃ n1, L.length + 1 = n1 := ⟨_, rfl⟩
    have wn : IntKind.i64.wrap ((L.length : Int) + 1) = (n1 : Int) := by rw [IntKind.wrap_i64]; omega
    have wm : IntKind.i64.wrap ((n1 : Int) - 1) = (L.length : Int) := by rw [IntKind.wrap_i64]; omega
    have HUVN : Hid (U + vn = UV ∧ L.length + 1 = n1) := ⟨hUV, hn1⟩
    have HPX : Hid (x.size ≤ 600) := HOK.out rfl
    cases ht : there x s.fs with
    | true =>
      rw [ht] at cT HFULL
      have hlt := there_lt ht
      obtain ⟨j, hj⟩ : ∃ j, place x s.fs = j := ⟨_, rfl⟩
      rw [hj] at cT hlt
      have hjL : j < L.length := by have := HNL.out; omega
      obtain ⟨g, cur, rfl, hg⟩ := h1.block (by omega)
      have hpg : p ≠ g := fun e => by
        subst e
        have := h1.o
        rw [hg] at this
        injection this with this
        injection this with _ this _
        exact absurd this (by decide)
      have HPG : Hid (p ≠ g) := hpg
      have HJL : Hid (j < L.length) := hjL
      have HGB : Hid (∃ cur, w1.heap[g]? = some (.cells cur 95 (0, 0))) := ⟨_, hg⟩
      have HQG : Hid (∀ k, q = some k → ¬ k = g) := fun k hk e => by
        subst hk; subst e
        obtain ⟨cs, hz⟩ := HZ1.out.type
        rw [hg] at hz
        injection hz with hz
        injection hz with _ hz _
        exact absurd hz (by decide)
      have HPT : Hid (Dk.put s.fs ⟨x, b, false⟩ = s.fs.set j ⟨x, b, false⟩) := by
        unfold Hid Dk.put
        rw [if_pos ht, hj]
      have ij : (j : Int) < (L.length : Int) := by omega
      obtain ⟨hf, _, hlc, _⟩ := h1.rows
      obtain ⟨b', o', eo, hA⟩ := hf (by omega)
      cases eo
      have k0 := (hA j hjL).c0
      have k1 := (hA j hjL).c1
      have k2 := (hA j hjL).c2
      have hbo := (h1.data hjL).2.1
      have hob : old = L[j]!.b.size := by
        rw [← HOLD.out]
        unfold oldN
        rw [if_pos ht]
        unfold dataAt
        rw [hj, ← HF.out, h1.f, List.getElem?_map, List.getElem?_eq_getElem hjL, getElem!_pos L j hjL]
        rfl
      have hob9 := (h1.data hjL).1
      rw [Nat.zero_add] at k0 k1 k2
      obtain ⟨y0, hy0⟩ : ∃ y0, L[j]! = y0 := ⟨_, rfl⟩
      rw [hy0] at k0 k1 k2 hbo hob hob9
      obtain ⟨yp, ⟨ya, yn, yc⟩, ys, yb⟩ := y0
      dsimp only at k0 k1 k2 hbo hob hob9
      rw [← hbo] at hob hob9
      subst hob
      obtain ⟨ZZ, hZZ⟩ : ∃ ZZ : Int, (UV : Int) - (old : Int) = ZZ := ⟨_, rfl⟩
      have wo : IntKind.i64.wrap ((UV : Int) - (old : Int)) = ZZ := by rw [IntKind.wrap_i64]; omega
      have hZ2 : (U : Int) + (vn : Int) - (old : Int) = ZZ := by omega
      rw [hZ2] at HFULL
      have i9 : decide ((4096 : Int) < (L.length : Int)) = false := decide_eq_false (by omega)
      have K0 : Hid (∀ Y, Below w1.heap.size w1 Y → Y.cell? ⟨g, j * 3, none⟩ = some (.string yp) ∧ Y.cell? ⟨g, j * 3 + 1, none⟩ = some (.slice ya old yc) ∧ Y.cell? ⟨g, j * 3 + 2, none⟩ = some (.bool ys) ∧ Y.cell? ⟨p, 0, none⟩ = some (.slice (some ⟨g, 0, none⟩) L.length c) ∧ (∀ i, Y.frozen? ⟨g, i, none⟩ = false)) := fun Y hb =>
        ⟨(hb.cell (p := ⟨g, j * 3, none⟩) (block_lt_of_cell k0)).trans k0, (hb.cell (p := ⟨g, j * 3 + 1, none⟩) (block_lt_of_cell k1)).trans k1, (hb.cell (p := ⟨g, j * 3 + 2, none⟩) (block_lt_of_cell k2)).trans k2, (hb.cell (p := ⟨p, 0, none⟩) (block_lt_of_cell c0)).trans c0, fun i => frozen_of_row Y g i _ _ ((hb.block g (Array.getElem?_eq_some_iff.1 hg).1).trans hg)⟩
      clear ht h1 hj hlt hg hpg hf hA hlc hy0 hbo hZ2 hUV hn1 hZZ k0 k2 hob9
      go_wp2_with fail
      go_at_call 57
      refine cT.mono ?_
      rintro e w2 ⟨rfl, n2, rfl⟩
      clear cT
      go_wp2_with fail
      go_quiet ((go_at_call 50; refine (cU _).mono ?_; rintro e w9 ⟨rfl, rfl⟩; exact ⟨rfl, _, rfl⟩))
      have e3 : (w1.drewN n2).drewN nq = w1.drewN (n2 + nq) := drewN_two _ _ _
      rw [e3]
      obtain ⟨N3, hN3⟩ : ∃ N3, n2 + nq = N3 := ⟨_, rfl⟩
      rw [hN3]
      clear e3 hN3 cU
      have b3 : Below w1.heap.size w1 (w1.drewN N3) := bdn' _ _
      obtain ⟨a9, c9, W', hr, hbo, hbl, hnw⟩ := HK.out N3
      have HNW : Hid (∀ ad : Addr, a9 = some ad → w.heap.size ≤ ad.block) := fun ad e => Nat.le_trans HU1.out.size (hnw ad e)
      have HR : Hid (Sem.run Try.prog (Builtin.append_ #[29, 29] 29 #[.slice none 0 0, .slice va vn vc]) (w1.drewN N3) = .ok (.slice a9 vn c9) W') := hr
      have HBL : Hid (Below w1.heap.size w1 W') := hbl
      have HBO : Hid (BO W' ⟨x, (a9, vn, c9), false, b⟩) := hbo
      clear hr hbo hbl hnw HK
      clear b3
      by_cases qf : mo < ZZ
      · have i4 : decide (mo < ZZ) = true := decide_eq_true qf
        have HE : Hid (DL = (8, s1)) := hD1.out (by rw [HFULL.out, i4]; rfl)
        clear qf
        go_wp2
        exact HT.out _ _ (by rw [HE.out] <;> rfl) ⟨_, c, L, by rw [HE.out]; exact HD1.out.drewN N3, HZ1.out.keep (bdn' _ _), HU1.out.drewN N3, .inl rfl, Gw.refl _ _⟩
      · have i4 : decide (mo < ZZ) = false := decide_eq_false qf
        have HE : Hid (DL = (0, { s1 with fs := Dk.put s.fs ⟨x, b, false⟩ })) := hD2.out (by rw [HFULL.out, i4]; rfl)
        have bx := HBL.out.trans ((bal W' (.cells #[.string x, .slice a9 vn c9, .bool false] 95)).mono HBL.out.size)
        obtain ⟨l0, l1, l2, l3, l4⟩ := K0.out _ bx
        have HN : Hid (∃ a' c' L', DX (putF (W'.alloc (.cells #[.string x, .slice a9 vn c9, .bool false] 95)) g (j * 3) ⟨x, (a9, vn, c9), false, b⟩) p a' c' L' q DL.2 ∧ Zs (putF (W'.alloc (.cells #[.string x, .slice a9 vn c9, .bool false] 95)) g (j * 3) ⟨x, (a9, vn, c9), false, b⟩) q z1 ∧ Upd (Mg p q (some ⟨g, 0, none⟩)) w (putF (W'.alloc (.cells #[.string x, .slice a9 vn c9, .bool false] 95)) g (j * 3) ⟨x, (a9, vn, c9), false, b⟩) ∧ (a' = some ⟨g, 0, none⟩ ∨ ∀ x, a' = some x → w.heap.size ≤ x.block) ∧ Gw w L L') := by
          have hd := (HD1.out.keep bx).put HJL.out HPG.out ⟨x, (a9, vn, c9), false, b⟩ (HBO.out.keep (bal _ _)) (by have := HLN.out; have := HV.out; show b.size ≤ _; omega) HPX.out
          refine ⟨_, c, L.set j ⟨x, (a9, vn, c9), false, b⟩, ?_, (HZ1.out.keep bx).beside (putF_upd _ _ _ _) HQG.out, (HU1.out.after bx).trans ((putF_upd _ _ _ _).mono fun _ _ k => .inr (.inr ⟨0, by rw [k]⟩)), .inl rfl, Gw.put (fun u hu => hu) fun _ ad e => .inl (HNW.out ad e)⟩
          rw [HE.out, HPT.out]
          rw [HF.out] at hd
          exact hd
        clear qf bx
        have q0 : (W'.alloc (.cells #[.string x, .slice a9 vn c9, .bool false] 95)).cell? ⟨W'.heap.size, 0, none⟩ = some (.string x) := by rw [World.cell?_alloc_new]; rfl
        have q1 : (W'.alloc (.cells #[.string x, .slice a9 vn c9, .bool false] 95)).cell? ⟨W'.heap.size, 1, none⟩ = some (.slice a9 vn c9) := by rw [World.cell?_alloc_new]; rfl
        have q2 : (W'.alloc (.cells #[.string x, .slice a9 vn c9, .bool false] 95)).cell? ⟨W'.heap.size, 2, none⟩ = some (.bool false) := by rw [World.cell?_alloc_new]; rfl
        go_wp2_with (at_builtin; refine wpList_append_ran (by rfl) _ _ 29 (by rfl) _ _ _ _ (by rfl) (by rfl) HR.out ?_)
        clear HBO HBL HR K0 c0 c1 k1
        generalize W'.alloc (.cells #[.string x, .slice a9 vn c9, .bool false] 95) = W5 at *
        generalize W'.heap.size = gx at *
        unfold putF at HN
        dsimp only at HN
        go_region
        all_goals
          go_wp2
          exact HT.out _ _ (by rw [HE.out] <;> rfl) (opd HN.out)
    | false =>
      rw [ht] at cT HFULL
      have hple : place x s.fs ≤ L.length := by have := place_le x s.fs; have := HNL.out; omega
      obtain ⟨j, hj⟩ : ∃ j, place x s.fs = j := ⟨_, rfl⟩
      rw [hj] at cT hple
      have HPT : Hid (Dk.put s.fs ⟨x, b, false⟩ = s.fs.take j ++ ⟨x, b, false⟩ :: s.fs.drop j) := by
        unfold Hid Dk.put
        rw [if_neg (by show ¬ there x s.fs = true; rw [ht]; decide)]
        show s.fs.take (place x s.fs) ++ _ :: s.fs.drop (place x s.fs) = _
        rw [hj]
      have hold0 : old = 0 := by
        rw [← HOLD.out]
        unfold oldN
        rw [if_neg (by rw [ht]; decide)]
      subst hold0
      have hZ2 : (U : Int) + (vn : Int) - ((0 : Nat) : Int) = (UV : Int) := by omega
      rw [hZ2] at HFULL
      have HPL : Hid (j ≤ L.length) := hple
      clear ht h1 hj hple hZ2 hUV hn1 wm
      go_wp2_with fail
      go_at_call 57
      refine cT.mono ?_
      rintro e w2 ⟨rfl, n2, rfl⟩
      clear cT
      go_wp2_with fail
      go_quiet ((go_at_call 50; refine (cU _).mono ?_; rintro e w9 ⟨rfl, rfl⟩; exact ⟨rfl, _, rfl⟩))
      have e3 : (w1.drewN n2).drewN nq = w1.drewN (n2 + nq) := drewN_two _ _ _
      rw [e3]
      obtain ⟨N3, hN3⟩ : ∃ N3, n2 + nq = N3 := ⟨_, rfl⟩
      rw [hN3]
      clear e3 hN3 cU
      obtain ⟨a9, c9, W', hr, hbo, hbl, hnw⟩ := HK.out N3
      have HNW : Hid (∀ ad : Addr, a9 = some ad → w.heap.size ≤ ad.block) := fun ad e => Nat.le_trans HU1.out.size (hnw ad e)
      have HR : Hid (Sem.run Try.prog (Builtin.append_ #[29, 29] 29 #[.slice none 0 0, .slice va vn vc]) (w1.drewN N3) = .ok (.slice a9 vn c9) W') := hr
      have HBL : Hid (Below w1.heap.size w1 W') := hbl
      have HBO : Hid (BO W' ⟨x, (a9, vn, c9), false, b⟩) := hbo
      clear hr hbo hbl hnw HK
      have fin : full s x b = true → Hid (PP (.returned (.int .i64 8)) (w1.drewN N3)) := fun e => by
        have HE : DL = (8, s1) := hD1.out e
        exact HT.out _ _ (by rw [HE]) ⟨_, c, L, by rw [HE]; exact HD1.out.drewN N3, HZ1.out.keep (bdn' _ _), HU1.out.drewN N3, .inl rfl, Gw.refl _ _⟩
      by_cases qf : mo < (UV : Int)
      · have i4 : decide (mo < (UV : Int)) = true := decide_eq_true qf
        have FN := fin (by rw [HFULL.out, i4]; rfl)
        clear qf fin
        go_wp2
        exact FN.out
      · have i4 : decide (mo < (UV : Int)) = false := decide_eq_false qf
        by_cases qn : 4096 < n1
        · have i9 : decide ((4096 : Int) < (n1 : Int)) = true := decide_eq_true (by omega)
          have i8 : decide (4096 < n1) = true := decide_eq_true qn
          have FN := fin (by rw [HFULL.out, i4, decide_eq_true (show 4096 ≤ L.length by have := HUVN.out.2; omega)]; rfl)
          clear qf fin qn
          go_wp2
          exact FN.out
        · have i9 : decide ((4096 : Int) < (n1 : Int)) = false := decide_eq_false (by omega)
          have i8 : decide (4096 < n1) = false := decide_eq_false qn
          have HE : Hid (DL = (0, { s1 with fs := Dk.put s.fs ⟨x, b, false⟩ })) := hD2.out (by rw [HFULL.out, i4, decide_eq_false (show ¬ 4096 ≤ L.length by have := HUVN.out.2; omega)]; rfl)
          have bx := HBL.out.trans ((bal W' (.cells #[.string x, .slice a9 vn c9, .bool false] 95)).mono HBL.out.size)
          have q0 : (W'.alloc (.cells #[.string x, .slice a9 vn c9, .bool false] 95)).cell? ⟨W'.heap.size, 0, none⟩ = some (.string x) := by rw [World.cell?_alloc_new]; rfl
          have q1 : (W'.alloc (.cells #[.string x, .slice a9 vn c9, .bool false] 95)).cell? ⟨W'.heap.size, 1, none⟩ = some (.slice a9 vn c9) := by rw [World.cell?_alloc_new]; rfl
          have q2 : (W'.alloc (.cells #[.string x, .slice a9 vn c9, .bool false] 95)).cell? ⟨W'.heap.size, 2, none⟩ = some (.bool false) := by rw [World.cell?_alloc_new]; rfl
          have hd5 := HD1.out.keep bx
          have hbo5 := HBO.out.keep (bal W' (.cells #[.string x, .slice a9 vn c9, .bool false] 95))
          have hz5 := HZ1.out.keep bx
          have hu5 := HU1.out.after bx
          have hqn : n1 ≤ 4096 := by omega
          clear fin qn HBO HBL c0
          go_wp2_with (at_builtin; refine wpList_append_ran (by rfl) _ _ 29 (by rfl) _ _ _ _ (by rfl) (by rfl) HR.out ?_)
          clear HR c1
          generalize W'.alloc (.cells #[.string x, .slice a9 vn c9, .bool false] 95) = W5 at *
          generalize W'.heap.size = gx at *
          have hins := ins_any (i := j) (y := ⟨x, (a9, vn, c9), false, b⟩) hd5 HPL.out hbo5 (by have := HLN.out; have := HV.out; show b.size ≤ _; omega) HPX.out (by have := HNL.out; have := HUVN.out.2; have := HF.out; rw [this]; omega)
          obtain ⟨A1, A2, s1', s2', ⟨va1, Wa1, va2, Wa2, aa, Na, ca, Wa3, ra1, ra2, ra3, ka1, ka2, ka3, ia⟩, ⟨vb1, Wb1, vb2, Wb2, ab, Nb, cb, Wb3, rb1, rb2, rb3, kb1, kb2, kb3, ib⟩⟩ := hins
          clear HPL
          have hfin : ∀ W9, InsEnd W5 p L q s1 j ⟨x, (a9, vn, c9), false, b⟩ W9 → Hid (PP (.returned (.int .i64 0)) W9) := fun W9 hi9 => by
            obtain ⟨a', c', hd, hu, ho⟩ := hi9
            have hE := HE.out
            have := HT.out (.returned (.int .i64 0)) W9 (by rw [hE]) ⟨a', c', _, by
              rw [hE, HPT.out]
              rw [HF.out] at hd
              exact hd, hz5.beside hu (fun k e k2 => by
                rcases k2 with k2 | k2
                · exact zs_off hd5 hz5 e k2.symm
                · cases k2), hu5.trans (hu.mono fun _ _ k => Mg.of0 k), .inr (fun y e => Nat.le_trans hu5.size (ho y e)), Gw.ins (fun u hu => hu) fun _ ad e => .inl (HNW.out ad e)⟩
            exact this
          have FA := hfin _ ia
          have FB := hfin _ ib
          have KS : Hid (∀ Y, Below W5.heap.size W5 Y → Y.cell? ⟨p, 0, none⟩ = some (.slice a L.length c) ∧ Y.cell? ⟨gx, 0, none⟩ = some (.string x) ∧ Y.cell? ⟨gx, 1, none⟩ = some (.slice a9 vn c9) ∧ Y.cell? ⟨gx, 2, none⟩ = some (.bool false)) := fun Y hb9 =>
            ⟨(hd5.keep hb9).c0, (hb9.cell (p := ⟨gx, 0, none⟩) (block_lt_of_cell q0)).trans q0, (hb9.cell (p := ⟨gx, 1, none⟩) (block_lt_of_cell q1)).trans q1, (hb9.cell (p := ⟨gx, 2, none⟩) (block_lt_of_cell q2)).trans q2⟩
          have sE : Hid _ := KS.out _ (Below.refl _ W5).drew
          have sA1 : Hid _ := KS.out _ ka1
          have sA2 : Hid _ := KS.out _ (ka1.trans ((bal Wa1 (.cells #[.string x, .slice a9 vn c9, .bool false] 95)).mono ka1.size))
          have sA3 : Hid _ := KS.out _ ka2
          have sA4 : Hid _ := KS.out _ ka3
          have sB0 : Hid _ := KS.out _ ((bal W5 (.cells #[.string x, .slice a9 vn c9, .bool false] 95)).drew)
          have sB1 : Hid _ := KS.out _ kb1
          have sB2 : Hid _ := KS.out _ kb2
          have sB3 : Hid _ := KS.out _ kb3
          have fA : Hid _ := (hd5.keep ka3).soft 0
          have fB : Hid _ := (hd5.keep kb3).soft 0
          have RA1 : Hid (Sem.run Try.prog (Builtin.append_ #[82, 82] 82 #[.slice none 0 0, .slice A1 j c]) W5.drew = .ok va1 Wa1) := ra1
          have RA2 : Hid (Sem.run Try.prog (Builtin.append_ #[82, 82] 82 #[va1, .slice (some ⟨Wa1.heap.size, 0, none⟩) 1 1]) (Wa1.alloc (.cells #[.string x, .slice a9 vn c9, .bool false] 95)) = .ok va2 Wa2) := ra2
          have RA3 : Hid (Sem.run Try.prog (Builtin.append_ #[82, 82] 82 #[va2, .slice A2 (L.length - j) (c - j)]) Wa2 = .ok (.slice aa Na ca) Wa3) := ra3
          have RB1 : Hid (Sem.run Try.prog (Builtin.append_ #[82, 82] 82 #[.slice none 0 0, .slice A1 j c]) (W5.alloc (.cells #[.string x, .slice a9 vn c9, .bool false] 95)).drew = .ok vb1 Wb1) := rb1
          have RB2 : Hid (Sem.run Try.prog (Builtin.append_ #[82, 82] 82 #[vb1, .slice (some ⟨W5.heap.size, 0, none⟩) 1 1]) Wb1 = .ok vb2 Wb2) := rb2
          have RB3 : Hid (Sem.run Try.prog (Builtin.append_ #[82, 82] 82 #[vb2, .slice A2 (L.length - j) (c - j)]) Wb2 = .ok (.slice ab Nb cb) Wb3) := rb3
          clear hfin ia ib ra1 ra2 ra3 rb1 rb2 rb3 ka1 ka2 ka3 kb1 kb2 kb3 KS hd5 hbo5 hz5 hu5 qf q0 q1 q2
          refine region_L (fun Y => Y.cell? ⟨p, 0, none⟩ = some (.slice a L.length c) ∧ Y.cell? ⟨gx, 0, none⟩ = some (.string x) ∧ Y.cell? ⟨gx, 1, none⟩ = some (.slice a9 vn c9) ∧ Y.cell? ⟨gx, 2, none⟩ = some (.bool false)) 20 (by kernel_rfl) sE.out (fun hHeld => ?_)
          refine anyL_take 0 (oi := ?o1) (v := ?v1) ?hi1 (by kernel_rfl) (by kernel_rfl) (by kernel_rfl) (by kernel_rfl) ?hQ1 ?hy1 hHeld ?_
          case hi1 => (simp only [List.getElem?_toArray, List.getElem?_cons_zero]; rfl)
          case hQ1 => exact fun _ _ _ h => h
          case hy1 => (refine Or.inl ⟨by rfl, ?_⟩; intro w hSw; (try dsimp only at hSw); go_simp <;> with_reducible rfl)
          try simp only [Act.put, List.setIfInBounds_toArray, List.set_cons_zero, List.set_cons_succ]
          refine anyL_take 1 (oi := ?o2) (v := ?v2) ?hi2 (by kernel_rfl) (by kernel_rfl) (by kernel_rfl) (by kernel_rfl) ?hQ2 ?hy2 hHeld ?_
          case hi2 => (simp only [List.getElem?_toArray, List.getElem?_cons_zero, List.getElem?_cons_succ]; rfl)
          case hQ2 => exact fun _ _ _ h => h
          case hy2 => (refine Or.inl ⟨by rfl, ?_⟩; intro w hSw; (try dsimp only at hSw); go_simp <;> with_reducible rfl)
          try simp only [Act.put, List.setIfInBounds_toArray, List.set_cons_zero, List.set_cons_succ]
          refine anyL_take 2 (oi := ?o3) (v := ?v3) ?hi3 (by kernel_rfl) (by kernel_rfl) (by kernel_rfl) (by kernel_rfl) ?hQ3 ?hy3 hHeld ?_
          case hi3 => (simp only [List.getElem?_toArray, List.getElem?_cons_zero, List.getElem?_cons_succ]; rfl)
          case hQ3 => exact fun _ _ _ h => h
          case hy3 => (refine Or.inl ⟨by rfl, ?_⟩; intro w hSw; (try dsimp only at hSw); go_simp <;> with_reducible rfl)
          try simp only [Act.put, List.setIfInBounds_toArray, List.set_cons_zero, List.set_cons_succ]
          refine anyL_take 3 (oi := ?o4) (v := ?v4) ?hi4 (by kernel_rfl) (by kernel_rfl) (by kernel_rfl) (by kernel_rfl) ?hQ4 ?hy4 hHeld ?_
          case hi4 => (simp only [List.getElem?_toArray, List.getElem?_cons_zero, List.getElem?_cons_succ]; rfl)
          case hQ4 => exact fun _ _ _ h => h
          case hy4 => (refine Or.inl ⟨by rfl, ?_⟩; intro w hSw; (try dsimp only at hSw); go_simp <;> with_reducible rfl)
          try simp only [Act.put, List.setIfInBounds_toArray, List.set_cons_zero, List.set_cons_succ]
          refine anyL_take 4 (oi := ?o5) (v := ?v5) ?hi5 (by kernel_rfl) (by kernel_rfl) (by kernel_rfl) (by kernel_rfl) ?hQ5 ?hy5 hHeld ?_
          case hi5 => (simp only [List.getElem?_toArray, List.getElem?_cons_zero, List.getElem?_cons_succ]; rfl)
          case hQ5 => exact fun _ _ _ h => h
          case hy5 => (refine Or.inl ⟨by rfl, ?_⟩; intro w hSw; (try dsimp only at hSw); go_simp <;> with_reducible rfl)
          try simp only [Act.put, List.setIfInBounds_toArray, List.set_cons_zero, List.set_cons_succ]
          refine anyL_take 5 (oi := ?o6) (v := ?v6) ?hi6 (by kernel_rfl) (by kernel_rfl) (by kernel_rfl) (by kernel_rfl) ?hQ6 ?hy6 hHeld ?_
          case hi6 => (simp only [List.getElem?_toArray, List.getElem?_cons_zero, List.getElem?_cons_succ]; rfl)
          case hQ6 => exact fun _ _ _ h => h
          case hy6 => (refine Or.inl ⟨by rfl, ?_⟩; intro w hSw; (try dsimp only at hSw); go_simp <;> with_reducible rfl)
          try simp only [Act.put, List.setIfInBounds_toArray, List.set_cons_zero, List.set_cons_succ]
          refine anyL_take 6 (oi := ?o7) (v := ?v7) ?hi7 (by kernel_rfl) (by kernel_rfl) (by kernel_rfl) (by kernel_rfl) ?hQ7 ?hy7 hHeld ?_
          case hi7 => (simp only [List.getElem?_toArray, List.getElem?_cons_zero, List.getElem?_cons_succ]; rfl)
          case hQ7 => exact fun _ _ _ h => h
          case hy7 => (refine Or.inl ⟨by rfl, ?_⟩; intro w hSw; (try dsimp only at hSw); go_simp <;> with_reducible rfl)
          try simp only [Act.put, List.setIfInBounds_toArray, List.set_cons_zero, List.set_cons_succ]
          refine anyL_take 8 (oi := ?o8) (v := ?v8) ?hi8 (by kernel_rfl) (by kernel_rfl) (by kernel_rfl) (by kernel_rfl) ?hQ8 ?hy8 hHeld ?_
          case hi8 => (simp only [List.getElem?_toArray, List.getElem?_cons_zero, List.getElem?_cons_succ]; rfl)
          case hQ8 => exact fun _ _ _ h => h
          case hy8 => (refine Or.inl ⟨by rfl, ?_⟩; intro w hSw; (try dsimp only at hSw); go_simp <;> with_reducible rfl)
          try simp only [Act.put, List.setIfInBounds_toArray, List.set_cons_zero, List.set_cons_succ]
          refine anyL_take 11 (oi := ?o9) (v := ?v9) ?hi9 (by kernel_rfl) (by kernel_rfl) (by kernel_rfl) (by kernel_rfl) ?hQ9 ?hy9 hHeld ?_
          case hi9 => (simp only [List.getElem?_toArray, List.getElem?_cons_zero, List.getElem?_cons_succ]; rfl)
          case hQ9 => exact fun _ _ _ h => h
          case hy9 => (refine Or.inl ⟨by rfl, ?_⟩; intro w hSw; (try dsimp only at hSw); go_simp <;> with_reducible rfl)
          try simp only [Act.put, List.setIfInBounds_toArray, List.set_cons_zero, List.set_cons_succ]
          refine anyL_take 12 (oi := ?o10) (v := ?v10) ?hi10 (by kernel_rfl) (by kernel_rfl) (by kernel_rfl) (by kernel_rfl) ?hQ10 ?hy10 hHeld ?_
          case hi10 => (simp only [List.getElem?_toArray, List.getElem?_cons_zero, List.getElem?_cons_succ]; rfl)
          case hQ10 => exact fun _ _ _ h => h
          case hy10 => (refine Or.inl ⟨by rfl, ?_⟩; intro w hSw; (try dsimp only at hSw); go_simp <;> with_reducible rfl)
          try simp only [Act.put, List.setIfInBounds_toArray, List.set_cons_zero, List.set_cons_succ]
          refine anyL_take 13 (oi := ?o11) (v := ?v11) ?hi11 (by kernel_rfl) (by kernel_rfl) (by kernel_rfl) (by kernel_rfl) ?hQ11 ?hy11 hHeld ?_
          case hi11 => (simp only [List.getElem?_toArray, List.getElem?_cons_zero, List.getElem?_cons_succ]; rfl)
          case hQ11 => exact fun _ _ _ h => h
          case hy11 => (refine Or.inl ⟨by rfl, ?_⟩; intro w hSw; (try dsimp only at hSw); go_simp <;> with_reducible rfl)
          try simp only [Act.put, List.setIfInBounds_toArray, List.set_cons_zero, List.set_cons_succ]
          refine anyL_take 14 (oi := ?o12) (v := ?v12) ?hi12 (by kernel_rfl) (by kernel_rfl) (by kernel_rfl) (by kernel_rfl) ?hQ12 ?hy12 hHeld ?_
          case hi12 => (simp only [List.getElem?_toArray, List.getElem?_cons_zero, List.getElem?_cons_succ]; rfl)
          case hQ12 => exact fun _ _ _ h => h
          case hy12 => (refine Or.inl ⟨by rfl, ?_⟩; intro w hSw; (try dsimp only at hSw); go_simp <;> with_reducible rfl)
          try simp only [Act.put, List.setIfInBounds_toArray, List.set_cons_zero, List.set_cons_succ]
          refine anyL_take 15 (oi := ?o13) (v := ?v13) ?hi13 (by kernel_rfl) (by kernel_rfl) (by kernel_rfl) (by kernel_rfl) ?hQ13 ?hy13 hHeld ?_
          case hi13 => (simp only [List.getElem?_toArray, List.getElem?_cons_zero, List.getElem?_cons_succ]; rfl)
          case hQ13 => exact fun _ _ _ h => h
          case hy13 => (refine Or.inl ⟨by rfl, ?_⟩; intro w hSw; (try dsimp only at hSw); go_simp <;> with_reducible rfl)
          try simp only [Act.put, List.setIfInBounds_toArray, List.set_cons_zero, List.set_cons_succ]
          refine anyL_take 16 (oi := ?o14) (v := ?v14) ?hi14 (by kernel_rfl) (by kernel_rfl) (by kernel_rfl) (by kernel_rfl) ?hQ14 ?hy14 hHeld ?_
          case hi14 => (simp only [List.getElem?_toArray, List.getElem?_cons_zero, List.getElem?_cons_succ]; rfl)
          case hQ14 => exact fun _ _ _ h => h
          case hy14 => (refine Or.inl ⟨by rfl, ?_⟩; intro w hSw; (try dsimp only at hSw); go_simp <;> with_reducible rfl)
          try simp only [Act.put, List.setIfInBounds_toArray, List.set_cons_zero, List.set_cons_succ]
          clear hHeld
          refine anyL_two 7 9 (o := ?o) (o' := ?o') ?hi ?hj (by kernel_rfl) (fun K hK => ?_) (fun K hK => ?_)
          case hi => (simp only [List.getElem?_toArray, List.getElem?_cons_zero, List.getElem?_cons_succ]; rfl)
          case hj => (simp only [List.getElem?_toArray, List.getElem?_cons_zero, List.getElem?_cons_succ]; rfl)
          · refine step_append_ran (by rfl) _ _ 82 (by rfl) (.slice none 0 0) (.slice A1 j c) va1 Wa1 (by rfl) (by rfl) (by dsimp only; with_reducible exact RA1.out) ?_
            refine hK.out _ _ sA1.out ?_
            clear hK
            try simp only [Act.put, List.setIfInBounds_toArray, List.set_cons_zero, List.set_cons_succ]
            refine anyL_one 9 (o := ?o15) ?hi15 (by kernel_rfl) (fun K hK => ?_)
            case hi15 => (simp only [List.getElem?_toArray, List.getElem?_cons_zero, List.getElem?_cons_succ]; rfl)
            go_simp
            refine hK.out _ _ sA2.out ?_
            clear hK
            try simp only [Act.put, List.setIfInBounds_toArray, List.set_cons_zero, List.set_cons_succ]
            refine anyL_one 10 (o := ?o16) ?hi16 (by kernel_rfl) (fun K hK => ?_)
            case hi16 => (simp only [List.getElem?_toArray, List.getElem?_cons_zero, List.getElem?_cons_succ]; rfl)
            refine step_append_ran (by rfl) _ _ 82 (by rfl) va1 (.slice (some ⟨Wa1.heap.size, 0, none⟩) 1 1) va2 Wa2 (by rfl) (by rfl) (by dsimp only; with_reducible exact RA2.out) ?_
            refine hK.out _ _ sA3.out ?_
            clear hK
            try simp only [Act.put, List.setIfInBounds_toArray, List.set_cons_zero, List.set_cons_succ]
            refine anyL_one 17 (o := ?o17) ?hi17 (by kernel_rfl) (fun K hK => ?_)
            case hi17 => (simp only [List.getElem?_toArray, List.getElem?_cons_zero, List.getElem?_cons_succ]; rfl)
            refine step_append_ran (by rfl) _ _ 82 (by rfl) va2 (.slice A2 (L.length - j) (c - j)) (.slice aa Na ca) Wa3 (by rfl) (by rfl) (by dsimp only; with_reducible exact RA3.out) ?_
            refine hK.out _ _ sA4.out ?_
            clear hK
            try simp only [Act.put, List.setIfInBounds_toArray, List.set_cons_zero, List.set_cons_succ]
            refine anyL_one 18 (o := ?o18) ?hi18 (by kernel_rfl) (fun K hK => ?_)
            case hi18 => (simp only [List.getElem?_toArray, List.getElem?_cons_zero, List.getElem?_cons_succ]; rfl)
            go_simp
            refine hK.out _ _ sA4.out ?_
            clear hK
            try simp only [Act.put, List.setIfInBounds_toArray, List.set_cons_zero, List.set_cons_succ]
            refine anyL_one 19 (o := ?o19) ?hi19 (by kernel_rfl) (fun K hK => ?_)
            case hi19 => (simp only [List.getElem?_toArray, List.getElem?_cons_zero, List.getElem?_cons_succ]; rfl)
            go_simp
            refine hK.out _ _ sA4.out ?_
            clear hK
            try simp only [Act.put, List.setIfInBounds_toArray, List.set_cons_zero, List.set_cons_succ]
            refine anyL_last (o := ?o20) ?hi20 (by kernel_rfl) (fun K hK => ?_)
            case hi20 => (simp only [List.getElem?_toArray, List.getElem?_cons_zero, List.getElem?_cons_succ]; rfl)
            have hst := sA4.out
            have hfr := fA.out
            go_simp
            refine hK.out _ _ ?_
            clear hK
            refine anyL_done (by kernel_rfl) ?_ _
            go_wp2
            exact FA.out
          · go_simp
            refine hK.out _ _ sB0.out ?_
            clear hK
            try simp only [Act.put, List.setIfInBounds_toArray, List.set_cons_zero, List.set_cons_succ]
            refine anyL_one 7 (o := ?o21) ?hi21 (by kernel_rfl) (fun K hK => ?_)
            case hi21 => (simp only [List.getElem?_toArray, List.getElem?_cons_zero, List.getElem?_cons_succ]; rfl)
            refine step_append_ran (by rfl) _ _ 82 (by rfl) (.slice none 0 0) (.slice A1 j c) vb1 Wb1 (by rfl) (by rfl) (by dsimp only; with_reducible exact RB1.out) ?_
            refine hK.out _ _ sB1.out ?_
            clear hK
            try simp only [Act.put, List.setIfInBounds_toArray, List.set_cons_zero, List.set_cons_succ]
            refine anyL_one 10 (o := ?o22) ?hi22 (by kernel_rfl) (fun K hK => ?_)
            case hi22 => (simp only [List.getElem?_toArray, List.getElem?_cons_zero, List.getElem?_cons_succ]; rfl)
            refine step_append_ran (by rfl) _ _ 82 (by rfl) vb1 (.slice (some ⟨W5.heap.size, 0, none⟩) 1 1) vb2 Wb2 (by rfl) (by rfl) (by dsimp only; with_reducible exact RB2.out) ?_
            refine hK.out _ _ sB2.out ?_
            clear hK
            try simp only [Act.put, List.setIfInBounds_toArray, List.set_cons_zero, List.set_cons_succ]
            refine anyL_one 17 (o := ?o23) ?hi23 (by kernel_rfl) (fun K hK => ?_)
            case hi23 => (simp only [List.getElem?_toArray, List.getElem?_cons_zero, List.getElem?_cons_succ]; rfl)
            refine step_append_ran (by rfl) _ _ 82 (by rfl) vb2 (.slice A2 (L.length - j) (c - j)) (.slice ab Nb cb) Wb3 (by rfl) (by rfl) (by dsimp only; with_reducible exact RB3.out) ?_
            refine hK.out _ _ sB3.out ?_
            clear hK
            try simp only [Act.put, List.setIfInBounds_toArray, List.set_cons_zero, List.set_cons_succ]
            refine anyL_one 18 (o := ?o24) ?hi24 (by kernel_rfl) (fun K hK => ?_)
            case hi24 => (simp only [List.getElem?_toArray, List.getElem?_cons_zero, List.getElem?_cons_succ]; rfl)
            go_simp
            refine hK.out _ _ sB3.out ?_
            clear hK
            try simp only [Act.put, List.setIfInBounds_toArray, List.set_cons_zero, List.set_cons_succ]
            refine anyL_one 19 (o := ?o25) ?hi25 (by kernel_rfl) (fun K hK => ?_)
            case hi25 => (simp only [List.getElem?_toArray, List.getElem?_cons_zero, List.getElem?_cons_succ]; rfl)
            go_simp
            refine hK.out _ _ sB3.out ?_
            clear hK
            try simp only [Act.put, List.setIfInBounds_toArray, List.set_cons_zero, List.set_cons_succ]
            refine anyL_last (o := ?o26) ?hi26 (by kernel_rfl) (fun K hK => ?_)
            case hi26 => (simp only [List.getElem?_toArray, List.getElem?_cons_zero, List.getElem?_cons_succ]; rfl)
            have hst := sB3.out
            have hfr := fB.out
            go_simp
            refine hK.out _ _ ?_
            clear hK
            refine anyL_done (by kernel_rfl) ?_ _
            go_wp2
            exact FB.out
  · have g1 : (e0 == 0) = false := by simpa using g0
    have HE : Hid (DL = (e0, s1)) := by unfold Hid; rw [HDL.out, if_pos g0]
    clear h1
    go_wp2
    exact HT.out _ _ (by rw [HE.out] <;> rfl) ⟨a, c, L, by rw [HE.out]; exact HD1.out, HZ1.out, HU1.out, .inl rfl, Gw.refl _ _⟩
end Go.Proofs.Ythkhkijdehbbmaa
