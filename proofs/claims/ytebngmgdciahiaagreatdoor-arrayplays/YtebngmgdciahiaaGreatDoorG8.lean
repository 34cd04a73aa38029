/-
  Texts of earlier stages, one behind the other: SdB, SdC, SdD.
-/
import Derived.Test.YtebngmgdciahiaaGreatDoorG7
import Derived.Test.YtebngmgdciahiaaGreatDoorG5
import Derived.Test.YtebngmgdciahiaaGreatDoorG6
import Derived.Test.YtebngmgdciahiaaGreatDoorG2
set_option maxRecDepth 100000
namespace Go.Proofs.YtebngmgdciahiaaGreatDoor
open Go.RowKit
open _root_.Go.Proofs.YtebngmgdciahiaaGreatDoor.Nm _root_.Go.Proofs.YtebngmgdciahiaaGreatDoor.Dk
attribute [local go_sem ↓] Go.wp_at_zero Go.wp_at_succ
set_option linter.unusedVariables false

theorem opd {w W : World} {p : Nat} {a : Option Addr} {L : List Fv} {q : Option Nat} {s : St} {z : Option Fz} (h : ∃ a' c' L', DX W p a' c' L' q s ∧ Zs W q z ∧ Upd (Mg p q a) w W ∧ (a' = a ∨ ∀ x, a' = some x → w.heap.size ≤ x.block) ∧ Gw w L L') :
    ∃ a' c' L', DX W.drew p a' c' L' q s ∧ Zs W.drew q z ∧ Upd (Mg p q a) w W.drew ∧ (a' = a ∨ ∀ x, a' = some x → w.heap.size ≤ x.block) ∧ Gw w L L' := by
  obtain ⟨a', c', L', h1, h2, h3, h4⟩ := h
  exact ⟨a', c', L', h1.keep (Below.refl _ _).drew, h2.keep (Below.refl _ _).drew, h3.drew, h4⟩
set_option maxHeartbeats 8000000 in
theorem dwrite_any (p : Nat) (a : Option Addr) (c : Nat) (L : List Fv) (q : Option Nat) (s : St) (z : Option Fz) (x : ByteArray) (va : Option Addr) (vn vc : Nat) (b : ByteArray) (w : World) (h : DX w p a c L q s) (hz : Zs w q z) (hb : Zb z) (hx : x.size ≤ maxLen) (hi : Inp w va vn vc b) (hvn : vn ≤ maxLen) :
    Calls Tryz.prog 36 #[.pointer (some ⟨p, 0, none⟩), .string x, .slice va vn vc] w (OpEnd p a L q (wriZ z s x b).1 (wriZ z s x b).2 (askZ z s [x]).2.1 w) := by
  obtain ⟨W, hW⟩ : ∃ W, w.alloc (.cells #[.string x] 9) = W := ⟨_, rfl⟩
  have bW : Below w.heap.size w W := by rw [← hW]; exact (Below.refl _ _).alloc (Nat.le_refl _) _
  have hS : Strs W (some ⟨w.heap.size, 0, none⟩) [x] := by rw [← hW]; exact lit_str w x
  have cA := ask_any p a c L q s z (some ⟨w.heap.size, 0, none⟩) 1 [x] W (h.keep bW) (hz.keep bW) hb hS (by simp)
  have hfs := askZ_fs z s [x]
  have hms := askZ_most z s [x]
  have hlen := hi.len
  have hokp : (askZ z s [x]).1 = 0 → x.size ≤ 600 := fun e => by
    have hD : ∀ s, (askD s [x]).1 = 0 → okPath x = true := fun s h => by
      unfold askD at h
      split at h
      · cases h
      · split at h
        · cases h
        · split at h
          · next e => simpa using e
          · cases h
    have : okPath x = true := by
      cases z with
      | none => exact hD s e
      | some z =>
        unfold askZ at e
        dsimp only at e
        split at e
        · cases e
        · exact hD s e
    exact (okPath_iff.1 this).2
  have hdl : wriZ z s x b = wriZ z s x b := rfl
  conv at hdl => rhs; unfold wriZ
  obtain ⟨e0, he0⟩ : ∃ e0, (askZ z s [x]).1 = e0 := ⟨_, rfl⟩
  obtain ⟨s1, hs1⟩ : ∃ s1, (askZ z s [x]).2.2 = s1 := ⟨_, rfl⟩
  obtain ⟨z1, hz1⟩ : ∃ z1, (askZ z s [x]).2.1 = z1 := ⟨_, rfl⟩
  rw [he0, hs1] at hdl
  rw [hs1] at hfs hms
  rw [he0] at hokp
  rw [hz1]
  obtain ⟨DL, hDL⟩ : ∃ y, wriZ z s x b = y := ⟨_, rfl⟩
  rw [hDL] at hdl ⊢
  have HDL : Hid (DL = if e0 ≠ 0 then (e0, s1) else if 262144 < b.size then (3, s1) else if full s x b = true then (8, s1) else (0, { s1 with fs := Dk.put s.fs ⟨x, b, false⟩ })) := hdl
  have HBW : Hid (Below w.heap.size w W) := bW
  have cA1 : Calls Tryz.prog 56 #[.pointer (some ⟨p, 0, none⟩), .slice (some ⟨w.heap.size, 0, none⟩) 1 1] W fun e w' => e = .returned (.int .i64 e0) ∧ DX w' p a c L q s1 ∧ Zs w' q z1 ∧ Upd (Mk p q) W w' := by
    refine cA.mono ?_
    rintro e w' ⟨h1, h2, h3, h4⟩
    rw [he0] at h1
    rw [hs1] at h2
    rw [hz1] at h3
    exact ⟨h1, h2, h3, h4⟩
  have HF : Hid (s1.fs = s.fs) := hfs
  have HMS : Hid (s1.most = s.most) := hms
  have HOK : Hid (e0 = 0 → x.size ≤ 600) := hokp
  have HT : Hid (∀ e w', e = .returned (.int .i64 DL.1) → (∃ a' c' L', DX w' p a' c' L' q DL.2 ∧ Zs w' q z1 ∧ Upd (Mg p q a) w w' ∧ (a' = a ∨ ∀ x, a' = some x → w.heap.size ≤ x.block) ∧ Gw w L L') → OpEnd p a L q DL.1 DL.2 z1 w e w') := fun e w' h1 h2 => ⟨h1, h2⟩
  -- the bytes that came in stay
  have HI : Hid (∀ w', Upd (Mk p q) W w' → Inp w' va vn vc b) := fun w' u => (hi.keep bW).upd u fun k o v hk => by
    have hk0 := h.keep bW
    rcases hk with hk | hk
    · subst hk
      intro e
      rw [cell_of_row W k o _ _ _ hk0.o] at e
      match o, e with
      | 0, e => simp at e
      | 1, e => simp at e
      | 2, e => simp at e
      | 3, e => simp at e
      | 4, e => simp at e
      | o + 5, e => simp at e
    · subst hk
      have hz0 := hz.keep bW
      cases z with
      | none => exact absurd hz0 (by unfold Zs; exact id)
      | some y =>
        unfold Zs at hz0
        intro e
        rw [cell_of_row W k o _ _ _ hz0] at e
        match o, e with
        | 0, e => simp at e
        | 1, e => simp at e
        | 2, e => simp at e
        | o + 3, e => simp at e
  generalize hPP : OpEnd p a L q DL.1 DL.2 z1 w = PP at *
  have HLN : Hid (vn = b.size) := hlen
  clear hPP h hz hb bW hS cA he0 hfs hms hs1 hz1 hdl hDL hokp hi hlen
  go_enter Tryz.func36, Tryz.ntmps36
  go_wp2_with fail
  go_at_call 56
  refine cA1.mono ?_
  rintro e w1 ⟨rfl, h1, hz1, u1⟩
  clear cA1 hW
  have hi1 := HI.out w1 u1
  have HI1 : Hid (Inp w1 va vn vc b) := hi1
  have HZ1 : Hid (Zs w1 q z1) := hz1
  have HU1 : Hid (Upd (Mg p q a) w w1) := ((Upd.of HBW.out).trans u1).mono fun _ _ k => Mg.of k
  clear hz1 u1 hi1 HI
  have HD1 : Hid (DX w1 p a c L q s1) := h1
  by_cases g0 : e0 = 0
  · subst g0
    by_cases g3 : 262144 < vn
    · have i3 : (262144 : Int) < (vn : Int) := by omega
      have HE : Hid (DL = (3, s1)) := by unfold Hid; rw [HDL.out, if_neg (fun k => k rfl), if_pos (by have := HLN.out; omega)]
      clear h1
      go_wp2
      exact HT.out _ _ (by rw [HE.out] <;> rfl) ⟨a, c, L, by rw [HE.out]; exact HD1.out, HZ1.out, HU1.out, .inl rfl, Gw.refl _ _⟩
    have i3 : decide ((262144 : Int) < (vn : Int)) = false := decide_eq_false (by omega)
    have HV : Hid (vn ≤ 262144) := by unfold Hid; omega
    have hvz : vn ≤ 262144 := by omega
    clear g3 hvn
    have cT := at_any p a c L q s1 x w1 h1 hx
    have cU : ∀ n, Calls Tryz.prog 58 #[.pointer (some ⟨p, 0, none⟩)] (w1.drewN n) fun e w' => e = .returned (.int .i64 ((used s1.fs : Nat) : Int)) ∧ w' = w1.drewN n := fun n => used_any p a c L q s1 (w1.drewN n) (h1.drewN n)
    have hus := used_le h1.wf.b
    have hnn := h1.wf.n
    have hfl := h1.f
    have c0 := h1.c0
    have c1 := h1.c1
    have hm0 := h1.wf.m0
    have hm1 := h1.wf.m1
    rw [HF.out] at cT hus hnn cU hfl
    rw [HMS.out] at c1 hm0 hm1
    have HNL : Hid (s.fs.length = L.length) := by unfold Hid; rw [hfl, List.length_map]
    have hnl : L.length ≤ 4096 := by have := HNL.out; omega
    obtain ⟨U, hU⟩ : ∃ U, used s.fs = U := ⟨_, rfl⟩
    rw [hU] at cU hus
    have hU30 : U ≤ 1073741824 := by omega
    obtain ⟨mo, hmo⟩ : ∃ mo, s.most = mo := ⟨_, rfl⟩
    rw [hmo] at c1 hm0 hm1
    -- the size behind
    obtain ⟨old, hold⟩ : ∃ old, oldN s x = old := ⟨_, rfl⟩
    have HFULL : Hid (full s x b = (decide (mo < (U : Int) + (vn : Int) - (old : Int)) || (!there x s.fs && decide (4096 ≤ L.length)))) := by
      unfold Hid full
      rw [hmo, hU, hold, HNL.out, HLN.out]
    have HOLD : Hid (oldN s x = old) := hold
    have hD1 : Hid (full s x b = true → DL = (8, s1)) := fun e => by rw [HDL.out, if_neg (fun k => k rfl), if_neg (by have := HLN.out; have := HV.out; omega), if_pos e]
    have hD2 : Hid (full s x b = false → DL = (0, { s1 with fs := Dk.put s.fs ⟨x, b, false⟩ })) := fun e => by rw [HDL.out, if_neg (fun k => k rfl), if_neg (by have := HLN.out; have := HV.out; omega), if_neg (by rw [e]; decide)]
    clear hU hmo hold hfl hnn
    -- the box
    have HK : Hid (∀ n, ∃ a9 c9 W', Sem.run Tryz.prog (Builtin.append_ #[27, 27] 27 #[.slice none 0 0, .slice va vn vc]) (w1.drewN n) = .ok (.slice a9 vn c9) W' ∧ BO W' ⟨x, (a9, vn, c9), false, b⟩ ∧ Below w1.heap.size w1 W' ∧ ∀ ad : Addr, a9 = some ad → w1.heap.size ≤ ad.block) := fun n => by
      obtain ⟨f, hf1, hrow, hstr⟩ := HI1.out.r
      obtain ⟨v', W', r1, r2, r3⟩ := appendA (c := vc) (Own.start (w1.drewN n) w1.heap.size (fun _ => 0)) (hrow.keep (bdn' w1 n)) HI1.out.z (by omega) (Nat.le_refl _)
      rw [Nat.zero_add] at r2
      obtain ⟨a9, c9, ev⟩ : ∃ a9 c9, v' = .slice a9 vn c9 := by
        rcases r2.2 with ⟨e1, e2⟩ | ⟨g, cap, cur, e1, _⟩
        · exact ⟨none, 0, by rw [e1, show vn = 0 from e2]⟩
        · exact ⟨_, _, e1⟩
      subst ev
      have hnew : ∀ ad : Addr, a9 = some ad → w1.heap.size ≤ ad.block := fun ad e => by
        subst e
        rcases r2.2 with ⟨e1, _⟩ | ⟨g, cap, cur, e1, hg, _⟩
        · injection e1 with e1 _ _
          cases e1
        · injection e1 with e1 _ _
          injection e1 with e1
          subst e1
          exact hg
      refine ⟨a9, c9, W', r1, ⟨HLN.out, cat 0 (fun _ => 0) f, fun i => ?_, ?_, ?_⟩, (bdn' w1 n).trans r3, hnew⟩
      · unfold cat; split; exact (by decide : (0 : Nat) < 256); exact hf1 _
      · rw [← HLN.out]
        exact own_mono r2 (Nat.zero_le _)
      · rw [← HLN.out, ← hstr]
        exact str_congr fun i _ => by unfold cat; rw [if_neg (by omega), Nat.sub_zero]
    obtain ⟨UV, hUV⟩ : ∃ UV, U + vn = UV := ⟨_, rfl⟩
    have wz : IntKind.i64.wrap ((U : Int) + (vn : Int)) = (UV : Int) := by rw [IntKind.wrap_i64]; omega
    obtain ⟨n1, hn1⟩ : ∃ n1, L.length + 1 = n1 := ⟨_, rfl⟩
    have wn : IntKind.i64.wrap ((L.length : Int) + 1) = (n1 : Int) := by rw [IntKind.wrap_i64]; omega
    have wm : IntKind.i64.wrap ((n1 : Int) - 1) = (L.length : Int) := by rw [IntKind.wrap_i64]; omega
    have HUVN : Hid (U + vn = UV ∧ L.length + 1 = n1) := ⟨hUV, hn1⟩
    have HPX : Hid (x.size ≤ 600) := HOK.out rfl
    cases ht : there x s.fs with
    | true =>
      rw [ht] at cT HFULL
      have hlt := there_lt ht
      obtain ⟨j, hj⟩ : ∃ j, place x s.fs = j := ⟨_, rfl⟩
      rw [hj] at cT hlt
      have hjL : j < L.length := by have := HNL.out; omega
      obtain ⟨g, cur, rfl, hg⟩ := h1.block (by omega)
      have hpg : p ≠ g := fun e => by
        subst e
        have := h1.o
        rw [hg] at this
        injection this with this
        injection this with _ this _
        exact absurd this (by decide)
      have HPG : Hid (p ≠ g) := hpg
      have HJL : Hid (j < L.length) := hjL
      have HGB : Hid (∃ cur, w1.heap[g]? = some (.cells cur 130 (0, 0))) := ⟨_, hg⟩
      have HQG : Hid (∀ k, q = some k → ¬ k = g) := fun k hk e => by
        subst hk; subst e
        obtain ⟨cs, hz⟩ := HZ1.out.type
        rw [hg] at hz
        injection hz with hz
        injection hz with _ hz _
        exact absurd hz (by decide)
      have HPT : Hid (Dk.put s.fs ⟨x, b, false⟩ = s.fs.set j ⟨x, b, false⟩) := by
        unfold Hid Dk.put
        rw [if_pos ht, hj]
      have ij : (j : Int) < (L.length : Int) := by omega
      obtain ⟨hf, _, hlc, _⟩ := h1.rows
      obtain ⟨b', o', eo, hA⟩ := hf (by omega)
      cases eo
      have k0 := (hA j hjL).c0
      have k1 := (hA j hjL).c1
      have k2 := (hA j hjL).c2
      have hbo := (h1.data hjL).2.1
      have hob : old = L[j]!.b.size := by
        rw [← HOLD.out]
        unfold oldN
        rw [if_pos ht]
        unfold dataAt
        rw [hj, ← HF.out, h1.f, List.getElem?_map, List.getElem?_eq_getElem hjL, getElem!_pos L j hjL]
        rfl
      have hob9 := (h1.data hjL).1
      rw [Nat.zero_add] at k0 k1 k2
      obtain ⟨y0, hy0⟩ : ∃ y0, L[j]! = y0 := ⟨_, rfl⟩
      rw [hy0] at k0 k1 k2 hbo hob hob9
      obtain ⟨yp, ⟨ya, yn, yc⟩, ys, yb⟩ := y0
      dsimp only at k0 k1 k2 hbo hob hob9
      rw [← hbo] at hob hob9
      subst hob
      obtain ⟨ZZ, hZZ⟩ : ∃ ZZ : Int, (UV : Int) - (old : Int) = ZZ := ⟨_, rfl⟩
      have wo : IntKind.i64.wrap ((UV : Int) - (old : Int)) = ZZ := by rw [IntKind.wrap_i64]; omega
      have hZ2 : (U : Int) + (vn : Int) - (old : Int) = ZZ := by omega
      rw [hZ2] at HFULL
      have i9 : decide ((4096 : Int) < (L.length : Int)) = false := decide_eq_false (by omega)
      have K0 : Hid (∀ Y, Below w1.heap.size w1 Y → Y.cell? ⟨g, j * 3, none⟩ = some (.string yp) ∧ Y.cell? ⟨g, j * 3 + 1, none⟩ = some (.slice ya old yc) ∧ Y.cell? ⟨g, j * 3 + 2, none⟩ = some (.bool ys) ∧ Y.cell? ⟨p, 0, none⟩ = some (.slice (some ⟨g, 0, none⟩) L.length c) ∧ (∀ i, Y.frozen? ⟨g, i, none⟩ = false)) := fun Y hb =>
        ⟨(hb.cell (p := ⟨g, j * 3, none⟩) (block_lt_of_cell k0)).trans k0, (hb.cell (p := ⟨g, j * 3 + 1, none⟩) (block_lt_of_cell k1)).trans k1, (hb.cell (p := ⟨g, j * 3 + 2, none⟩) (block_lt_of_cell k2)).trans k2, (hb.cell (p := ⟨p, 0, none⟩) (block_lt_of_cell c0)).trans c0, fun i => frozen_of_row Y g i _ _ ((hb.block g (Array.getElem?_eq_some_iff.1 hg).1).trans hg)⟩
      clear ht h1 hj hlt hg hpg hf hA hlc hy0 hbo hZ2 hUV hn1 hZZ k0 k2 hob9
      go_wp2_with fail
      go_at_call 57
      refine cT.mono ?_
      rintro e w2 ⟨rfl, n2, rfl⟩
      clear cT
      go_wp2_with fail
      go_quiet ((go_at_call 58; refine (cU _).mono ?_; rintro e w9 ⟨rfl, rfl⟩; exact ⟨rfl, _, rfl⟩))
      have e3 : (w1.drewN n2).drewN nq = w1.drewN (n2 + nq) := drewN_two _ _ _
      rw [e3]
      obtain ⟨N3, hN3⟩ : ∃ N3, n2 + nq = N3 := ⟨_, rfl⟩
      rw [hN3]
      clear e3 hN3 cU
      have b3 : Below w1.heap.size w1 (w1.drewN N3) := bdn' _ _
      obtain ⟨a9, c9, W', hr, hbo, hbl, hnw⟩ := HK.out N3
      have HNW : Hid (∀ ad : Addr, a9 = some ad → w.heap.size ≤ ad.block) := fun ad e => Nat.le_trans HU1.out.size (hnw ad e)
      have HR : Hid (Sem.run Tryz.prog (Builtin.append_ #[27, 27] 27 #[.slice none 0 0, .slice va vn vc]) (w1.drewN N3) = .ok (.slice a9 vn c9) W') := hr
      have HBL : Hid (Below w1.heap.size w1 W') := hbl
      have HBO : Hid (BO W' ⟨x, (a9, vn, c9), false, b⟩) := hbo
      clear hr hbo hbl hnw HK
      clear b3
      by_cases qf : mo < ZZ
      · have i4 : decide (mo < ZZ) = true := decide_eq_true qf
        have HE : Hid (DL = (8, s1)) := hD1.out (by rw [HFULL.out, i4]; rfl)
        clear qf
        go_wp2
        exact HT.out _ _ (by rw [HE.out] <;> rfl) ⟨_, c, L, by rw [HE.out]; exact HD1.out.drewN N3, HZ1.out.keep (bdn' _ _), HU1.out.drewN N3, .inl rfl, Gw.refl _ _⟩
      · have i4 : decide (mo < ZZ) = false := decide_eq_false qf
        have HE : Hid (DL = (0, { s1 with fs := Dk.put s.fs ⟨x, b, false⟩ })) := hD2.out (by rw [HFULL.out, i4]; rfl)
        have bx := HBL.out.trans ((bal W' (.cells #[.string x, .slice a9 vn c9, .bool false] 130)).mono HBL.out.size)
        obtain ⟨l0, l1, l2, l3, l4⟩ := K0.out _ bx
        have HN : Hid (∃ a' c' L', DX (putF (W'.alloc (.cells #[.string x, .slice a9 vn c9, .bool false] 130)) g (j * 3) ⟨x, (a9, vn, c9), false, b⟩) p a' c' L' q DL.2 ∧ Zs (putF (W'.alloc (.cells #[.string x, .slice a9 vn c9, .bool false] 130)) g (j * 3) ⟨x, (a9, vn, c9), false, b⟩) q z1 ∧ Upd (Mg p q (some ⟨g, 0, none⟩)) w (putF (W'.alloc (.cells #[.string x, .slice a9 vn c9, .bool false] 130)) g (j * 3) ⟨x, (a9, vn, c9), false, b⟩) ∧ (a' = some ⟨g, 0, none⟩ ∨ ∀ x, a' = some x → w.heap.size ≤ x.block) ∧ Gw w L L') := by
          have hd := (HD1.out.keep bx).put HJL.out HPG.out ⟨x, (a9, vn, c9), false, b⟩ (HBO.out.keep (bal _ _)) (by have := HLN.out; have := HV.out; show b.size ≤ _; omega) HPX.out
          refine ⟨_, c, L.set j ⟨x, (a9, vn, c9), false, b⟩, ?_, (HZ1.out.keep bx).beside (putF_upd _ _ _ _) HQG.out, (HU1.out.after bx).trans ((putF_upd _ _ _ _).mono fun _ _ k => .inr (.inr ⟨0, by rw [k]⟩)), .inl rfl, Gw.put (fun u hu => hu) fun _ ad e => .inl (HNW.out ad e)⟩
          rw [HE.out, HPT.out]
          rw [HF.out] at hd
          exact hd
        clear qf bx
        have q0 : (W'.alloc (.cells #[.string x, .slice a9 vn c9, .bool false] 130)).cell? ⟨W'.heap.size, 0, none⟩ = some (.string x) := by rw [World.cell?_alloc_new]; rfl
        have q1 : (W'.alloc (.cells #[.string x, .slice a9 vn c9, .bool false] 130)).cell? ⟨W'.heap.size, 1, none⟩ = some (.slice a9 vn c9) := by rw [World.cell?_alloc_new]; rfl
        have q2 : (W'.alloc (.cells #[.string x, .slice a9 vn c9, .bool false] 130)).cell? ⟨W'.heap.size, 2, none⟩ = some (.bool false) := by rw [World.cell?_alloc_new]; rfl
        go_wp2_with (at_builtin; refine wpList_append_ran (by rfl) _ _ 27 (by rfl) _ _ _ _ (by rfl) (by rfl) HR.out ?_)
        clear HBO HBL HR K0 c0 c1 k1
        generalize W'.alloc (.cells #[.string x, .slice a9 vn c9, .bool false] 130) = W5 at *
        generalize W'.heap.size = gx at *
        unfold putF at HN
        dsimp only at HN
        go_region
        all_goals
          go_wp2
          exact HT.out _ _ (by rw [HE.out] <;> rfl) (opd HN.out)
    | false =>
      rw [ht] at cT HFULL
      have hple : place x s.fs ≤ L.length := by have := place_le x s.fs; have := HNL.out; omega
      obtain ⟨j, hj⟩ : ∃ j, place x s.fs = j := ⟨_, rfl⟩
      rw [hj] at cT hple
      have HPT : Hid (Dk.put s.fs ⟨x, b, false⟩ = s.fs.take j ++ ⟨x, b, false⟩ :: s.fs.drop j) := by
        unfold Hid Dk.put
        rw [if_neg (by show ¬ there x s.fs = true; rw [ht]; decide)]
        show s.fs.take (place x s.fs) ++ _ :: s.fs.drop (place x s.fs) = _
        rw [hj]
      have hold0 : old = 0 := by
        rw [← HOLD.out]
        unfold oldN
        rw [if_neg (by rw [ht]; decide)]
      subst hold0
      have hZ2 : (U : Int) + (vn : Int) - ((0 : Nat) : Int) = (UV : Int) := by omega
      rw [hZ2] at HFULL
      have HPL : Hid (j ≤ L.length) := hple
      clear ht h1 hj hple hZ2 hUV hn1 wm
      go_wp2_with fail
      go_at_call 57
      refine cT.mono ?_
      rintro e w2 ⟨rfl, n2, rfl⟩
      clear cT
      go_wp2_with fail
      go_quiet ((go_at_call 58; refine (cU _).mono ?_; rintro e w9 ⟨rfl, rfl⟩; exact ⟨rfl, _, rfl⟩))
      have e3 : (w1.drewN n2).drewN nq = w1.drewN (n2 + nq) := drewN_two _ _ _
      rw [e3]
      obtain ⟨N3, hN3⟩ : ∃ N3, n2 + nq = N3 := ⟨_, rfl⟩
      rw [hN3]
      clear e3 hN3 cU
      obtain ⟨a9, c9, W', hr, hbo, hbl, hnw⟩ := HK.out N3
      have HNW : Hid (∀ ad : Addr, a9 = some ad → w.heap.size ≤ ad.block) := fun ad e => Nat.le_trans HU1.out.size (hnw ad e)
      have HR : Hid (Sem.run Tryz.prog (Builtin.append_ #[27, 27] 27 #[.slice none 0 0, .slice va vn vc]) (w1.drewN N3) = .ok (.slice a9 vn c9) W') := hr
      have HBL : Hid (Below w1.heap.size w1 W') := hbl
      have HBO : Hid (BO W' ⟨x, (a9, vn, c9), false, b⟩) := hbo
      clear hr hbo hbl hnw HK
      have fin : full s x b = true → Hid (PP (.returned (.int .i64 8)) (w1.drewN N3)) := fun e => by
        have HE : DL = (8, s1) := hD1.out e
        exact HT.out _ _ (by rw [HE]) ⟨_, c, L, by rw [HE]; exact HD1.out.drewN N3, HZ1.out.keep (bdn' _ _), HU1.out.drewN N3, .inl rfl, Gw.refl _ _⟩
      by_cases qf : mo < (UV : Int)
      · have i4 : decide (mo < (UV : Int)) = true := decide_eq_true qf
        have FN := fin (by rw [HFULL.out, i4]; rfl)
        clear qf fin
        go_wp2
        exact FN.out
      · have i4 : decide (mo < (UV : Int)) = false := decide_eq_false qf
        by_cases qn : 4096 < n1
        · have i9 : decide ((4096 : Int) < (n1 : Int)) = true := decide_eq_true (by omega)
          have i8 : decide (4096 < n1) = true := decide_eq_true qn
          have FN := fin (by rw [HFULL.out, i4, decide_eq_true (show 4096 ≤ L.length by have := HUVN.out.2; omega)]; rfl)
          clear qf fin qn
          go_wp2
          exact FN.out
        · have i9 : decide ((4096 : Int) < (n1 : Int)) = false := decide_eq_false (by omega)
          have i8 : decide (4096 < n1) = false := decide_eq_false qn
          have HE : Hid (DL = (0, { s1 with fs := Dk.put s.fs ⟨x, b, false⟩ })) := hD2.out (by rw [HFULL.out, i4, decide_eq_false (show ¬ 4096 ≤ L.length by have := HUVN.out.2; omega)]; rfl)
          have bx := HBL.out.trans ((bal W' (.cells #[.string x, .slice a9 vn c9, .bool false] 130)).mono HBL.out.size)
          have q0 : (W'.alloc (.cells #[.string x, .slice a9 vn c9, .bool false] 130)).cell? ⟨W'.heap.size, 0, none⟩ = some (.string x) := by rw [World.cell?_alloc_new]; rfl
          have q1 : (W'.alloc (.cells #[.string x, .slice a9 vn c9, .bool false] 130)).cell? ⟨W'.heap.size, 1, none⟩ = some (.slice a9 vn c9) := by rw [World.cell?_alloc_new]; rfl
          have q2 : (W'.alloc (.cells #[.string x, .slice a9 vn c9, .bool false] 130)).cell? ⟨W'.heap.size, 2, none⟩ = some (.bool false) := by rw [World.cell?_alloc_new]; rfl
          have hd5 := HD1.out.keep bx
          have hbo5 := HBO.out.keep (bal W' (.cells #[.string x, .slice a9 vn c9, .bool false] 130))
          have hz5 := HZ1.out.keep bx
          have hu5 := HU1.out.after bx
          have hqn : n1 ≤ 4096 := by omega
          clear fin qn HBO HBL c0
          go_wp2_with (at_builtin; refine wpList_append_ran (by rfl) _ _ 27 (by rfl) _ _ _ _ (by rfl) (by rfl) HR.out ?_)
          clear HR c1
          generalize W'.alloc (.cells #[.string x, .slice a9 vn c9, .bool false] 130) = W5 at *
          generalize W'.heap.size = gx at *
          have hins := ins_any (i := j) (y := ⟨x, (a9, vn, c9), false, b⟩) hd5 HPL.out hbo5 (by have := HLN.out; have := HV.out; show b.size ≤ _; omega) HPX.out (by have := HNL.out; have := HUVN.out.2; have := HF.out; rw [this]; omega)
          obtain ⟨A1, A2, s1', s2', ⟨va1, Wa1, va2, Wa2, aa, Na, ca, Wa3, ra1, ra2, ra3, ka1, ka2, ka3, ia⟩, ⟨vb1, Wb1, vb2, Wb2, ab, Nb, cb, Wb3, rb1, rb2, rb3, kb1, kb2, kb3, ib⟩⟩ := hins
          clear HPL
          have hfin : ∀ W9, InsEnd W5 p L q s1 j ⟨x, (a9, vn, c9), false, b⟩ W9 → Hid (PP (.returned (.int .i64 0)) W9) := fun W9 hi9 => by
            obtain ⟨a', c', hd, hu, ho⟩ := hi9
            have hE := HE.out
            have := HT.out (.returned (.int .i64 0)) W9 (by rw [hE]) ⟨a', c', _, by
              rw [hE, HPT.out]
              rw [HF.out] at hd
              exact hd, hz5.beside hu (fun k e k2 => by
                rcases k2 with k2 | k2
                · exact zs_off hd5 hz5 e k2.symm
                · cases k2), hu5.trans (hu.mono fun _ _ k => Mg.of0 k), .inr (fun y e => Nat.le_trans hu5.size (ho y e)), Gw.ins (fun u hu => hu) fun _ ad e => .inl (HNW.out ad e)⟩
            exact this
          have FA := hfin _ ia
          have FB := hfin _ ib
          have KS : Hid (∀ Y, Below W5.heap.size W5 Y → Y.cell? ⟨p, 0, none⟩ = some (.slice a L.length c) ∧ Y.cell? ⟨gx, 0, none⟩ = some (.string x) ∧ Y.cell? ⟨gx, 1, none⟩ = some (.slice a9 vn c9) ∧ Y.cell? ⟨gx, 2, none⟩ = some (.bool false)) := fun Y hb9 =>
            ⟨(hd5.keep hb9).c0, (hb9.cell (p := ⟨gx, 0, none⟩) (block_lt_of_cell q0)).trans q0, (hb9.cell (p := ⟨gx, 1, none⟩) (block_lt_of_cell q1)).trans q1, (hb9.cell (p := ⟨gx, 2, none⟩) (block_lt_of_cell q2)).trans q2⟩
          have sE : Hid _ := KS.out _ (Below.refl _ W5).drew
          have sA1 : Hid _ := KS.out _ ka1
          have sA2 : Hid _ := KS.out _ (ka1.trans ((bal Wa1 (.cells #[.string x, .slice a9 vn c9, .bool false] 130)).mono ka1.size))
          have sA3 : Hid _ := KS.out _ ka2
          have sA4 : Hid _ := KS.out _ ka3
          have sB0 : Hid _ := KS.out _ ((bal W5 (.cells #[.string x, .slice a9 vn c9, .bool false] 130)).drew)
          have sB1 : Hid _ := KS.out _ kb1
          have sB2 : Hid _ := KS.out _ kb2
          have sB3 : Hid _ := KS.out _ kb3
          have fA : Hid _ := (hd5.keep ka3).soft 0
          have fB : Hid _ := (hd5.keep kb3).soft 0
          have RA1 : Hid (Sem.run Tryz.prog (Builtin.append_ #[113, 113] 113 #[.slice none 0 0, .slice A1 j c]) W5.drew = .ok va1 Wa1) := ra1
          have RA2 : Hid (Sem.run Tryz.prog (Builtin.append_ #[113, 113] 113 #[va1, .slice (some ⟨Wa1.heap.size, 0, none⟩) 1 1]) (Wa1.alloc (.cells #[.string x, .slice a9 vn c9, .bool false] 130)) = .ok va2 Wa2) := ra2
          have RA3 : Hid (Sem.run Tryz.prog (Builtin.append_ #[113, 113] 113 #[va2, .slice A2 (L.length - j) (c - j)]) Wa2 = .ok (.slice aa Na ca) Wa3) := ra3
          have RB1 : Hid (Sem.run Tryz.prog (Builtin.append_ #[113, 113] 113 #[.slice none 0 0, .slice A1 j c]) (W5.alloc (.cells #[.string x, .slice a9 vn c9, .bool false] 130)).drew = .ok vb1 Wb1) := rb1
          have RB2 : Hid (Sem.run Tryz.prog (Builtin.append_ #[113, 113] 113 #[vb1, .slice (some ⟨W5.heap.size, 0, none⟩) 1 1]) Wb1 = .ok vb2 Wb2) := rb2
          have RB3 : Hid (Sem.run Tryz.prog (Builtin.append_ #[113, 113] 113 #[vb2, .slice A2 (L.length - j) (c - j)]) Wb2 = .ok (.slice ab Nb cb) Wb3) := rb3
          clear hfin ia ib ra1 ra2 ra3 rb1 rb2 rb3 ka1 ka2 ka3 kb1 kb2 kb3 KS hd5 hbo5 hz5 hu5 qf q0 q1 q2
          refine region_L (fun Y => Y.cell? ⟨p, 0, none⟩ = some (.slice a L.length c) ∧ Y.cell? ⟨gx, 0, none⟩ = some (.string x) ∧ Y.cell? ⟨gx, 1, none⟩ = some (.slice a9 vn c9) ∧ Y.cell? ⟨gx, 2, none⟩ = some (.bool false)) 20 (by kernel_rfl) sE.out (fun hHeld => ?_)
          refine anyL_take 0 (oi := ?o1) (v := ?v1) ?hi1 (by kernel_rfl) (by kernel_rfl) (by kernel_rfl) (by kernel_rfl) ?hQ1 ?hy1 hHeld ?_
          case hi1 => (simp only [List.getElem?_toArray, List.getElem?_cons_zero]; rfl)
          case hQ1 => exact fun _ _ _ h => h
          case hy1 => (refine Or.inl ⟨by rfl, ?_⟩; intro w hSw; (try dsimp only at hSw); go_simp <;> with_reducible rfl)
          try simp only [Act.put, List.setIfInBounds_toArray, List.set_cons_zero, List.set_cons_succ]
          refine anyL_take 1 (oi := ?o2) (v := ?v2) ?hi2 (by kernel_rfl) (by kernel_rfl) (by kernel_rfl) (by kernel_rfl) ?hQ2 ?hy2 hHeld ?_
          case hi2 => (simp only [List.getElem?_toArray, List.getElem?_cons_zero, List.getElem?_cons_succ]; rfl)
          case hQ2 => exact fun _ _ _ h => h
          case hy2 => (refine Or.inl ⟨by rfl, ?_⟩; intro w hSw; (try dsimp only at hSw); go_simp <;> with_reducible rfl)
          try simp only [Act.put, List.setIfInBounds_toArray, List.set_cons_zero, List.set_cons_succ]
          refine anyL_take 2 (oi := ?o3) (v := ?v3) ?hi3 (by kernel_rfl) (by kernel_rfl) (by kernel_rfl) (by kernel_rfl) ?hQ3 ?hy3 hHeld ?_
          case hi3 => (simp only [List.getElem?_toArray, List.getElem?_cons_zero, List.getElem?_cons_succ]; rfl)
          case hQ3 => exact fun _ _ _ h => h
          case hy3 => (refine Or.inl ⟨by rfl, ?_⟩; intro w hSw; (try dsimp only at hSw); go_simp <;> with_reducible rfl)
          try simp only [Act.put, List.setIfInBounds_toArray, List.set_cons_zero, List.set_cons_succ]
          refine anyL_take 3 (oi := ?o4) (v := ?v4) ?hi4 (by kernel_rfl) (by kernel_rfl) (by kernel_rfl) (by kernel_rfl) ?hQ4 ?hy4 hHeld ?_
          case hi4 => (simp only [List.getElem?_toArray, List.getElem?_cons_zero, List.getElem?_cons_succ]; rfl)
          case hQ4 => exact fun _ _ _ h => h
          case hy4 => (refine Or.inl ⟨by rfl, ?_⟩; intro w hSw; (try dsimp only at hSw); go_simp <;> with_reducible rfl)
          try simp only [Act.put, List.setIfInBounds_toArray, List.set_cons_zero, List.set_cons_succ]
          refine anyL_take 4 (oi := ?o5) (v := ?v5) ?hi5 (by kernel_rfl) (by kernel_rfl) (by kernel_rfl) (by kernel_rfl) ?hQ5 ?hy5 hHeld ?_
          case hi5 => (simp only [List.getElem?_toArray, List.getElem?_cons_zero, List.getElem?_cons_succ]; rfl)
          case hQ5 => exact fun _ _ _ h => h
          case hy5 => (refine Or.inl ⟨by rfl, ?_⟩; intro w hSw; (try dsimp only at hSw); go_simp <;> with_reducible rfl)
          try simp only [Act.put, List.setIfInBounds_toArray, List.set_cons_zero, List.set_cons_succ]
          refine anyL_take 5 (oi := ?o6) (v := ?v6) ?hi6 (by kernel_rfl) (by kernel_rfl) (by kernel_rfl) (by kernel_rfl) ?hQ6 ?hy6 hHeld ?_
          case hi6 => (simp only [List.getElem?_toArray, List.getElem?_cons_zero, List.getElem?_cons_succ]; rfl)
          case hQ6 => exact fun _ _ _ h => h
          case hy6 => (refine Or.inl ⟨by rfl, ?_⟩; intro w hSw; (try dsimp only at hSw); go_simp <;> with_reducible rfl)
          try simp only [Act.put, List.setIfInBounds_toArray, List.set_cons_zero, List.set_cons_succ]
          refine anyL_take 6 (oi := ?o7) (v := ?v7) ?hi7 (by kernel_rfl) (by kernel_rfl) (by kernel_rfl) (by kernel_rfl) ?hQ7 ?hy7 hHeld ?_
          case hi7 => (simp only [List.getElem?_toArray, List.getElem?_cons_zero, List.getElem?_cons_succ]; rfl)
          case hQ7 => exact fun _ _ _ h => h
          case hy7 => (refine Or.inl ⟨by rfl, ?_⟩; intro w hSw; (try dsimp only at hSw); go_simp <;> with_reducible rfl)
          try simp only [Act.put, List.setIfInBounds_toArray, List.set_cons_zero, List.set_cons_succ]
          refine anyL_take 8 (oi := ?o8) (v := ?v8) ?hi8 (by kernel_rfl) (by kernel_rfl) (by kernel_rfl) (by kernel_rfl) ?hQ8 ?hy8 hHeld ?_
          case hi8 => (simp only [List.getElem?_toArray, List.getElem?_cons_zero, List.getElem?_cons_succ]; rfl)
          case hQ8 => exact fun _ _ _ h => h
          case hy8 => (refine Or.inl ⟨by rfl, ?_⟩; intro w hSw; (try dsimp only at hSw); go_simp <;> with_reducible rfl)
          try simp only [Act.put, List.setIfInBounds_toArray, List.set_cons_zero, List.set_cons_succ]
          refine anyL_take 11 (oi := ?o9) (v := ?v9) ?hi9 (by kernel_rfl) (by kernel_rfl) (by kernel_rfl) (by kernel_rfl) ?hQ9 ?hy9 hHeld ?_
          case hi9 => (simp only [List.getElem?_toArray, List.getElem?_cons_zero, List.getElem?_cons_succ]; rfl)
          case hQ9 => exact fun _ _ _ h => h
          case hy9 => (refine Or.inl ⟨by rfl, ?_⟩; intro w hSw; (try dsimp only at hSw); go_simp <;> with_reducible rfl)
          try simp only [Act.put, List.setIfInBounds_toArray, List.set_cons_zero, List.set_cons_succ]
          refine anyL_take 12 (oi := ?o10) (v := ?v10) ?hi10 (by kernel_rfl) (by kernel_rfl) (by kernel_rfl) (by kernel_rfl) ?hQ10 ?hy10 hHeld ?_
          case hi10 => (simp only [List.getElem?_toArray, List.getElem?_cons_zero, List.getElem?_cons_succ]; rfl)
          case hQ10 => exact fun _ _ _ h => h
          case hy10 => (refine Or.inl ⟨by rfl, ?_⟩; intro w hSw; (try dsimp only at hSw); go_simp <;> with_reducible rfl)
          try simp only [Act.put, List.setIfInBounds_toArray, List.set_cons_zero, List.set_cons_succ]
          refine anyL_take 13 (oi := ?o11) (v := ?v11) ?hi11 (by kernel_rfl) (by kernel_rfl) (by kernel_rfl) (by kernel_rfl) ?hQ11 ?hy11 hHeld ?_
          case hi11 => (simp only [List.getElem?_toArray, List.getElem?_cons_zero, List.getElem?_cons_succ]; rfl)
          case hQ11 => exact fun _ _ _ h => h
          case hy11 => (refine Or.inl ⟨by rfl, ?_⟩; intro w hSw; (try dsimp only at hSw); go_simp <;> with_reducible rfl)
          try simp only [Act.put, List.setIfInBounds_toArray, List.set_cons_zero, List.set_cons_succ]
          refine anyL_take 14 (oi := ?o12) (v := ?v12) ?hi12 (by kernel_rfl) (by kernel_rfl) (by kernel_rfl) (by kernel_rfl) ?hQ12 ?hy12 hHeld ?_
          case hi12 => (simp only [List.getElem?_toArray, List.getElem?_cons_zero, List.getElem?_cons_succ]; rfl)
          case hQ12 => exact fun _ _ _ h => h
          case hy12 => (refine Or.inl ⟨by rfl, ?_⟩; intro w hSw; (try dsimp only at hSw); go_simp <;> with_reducible rfl)
          try simp only [Act.put, List.setIfInBounds_toArray, List.set_cons_zero, List.set_cons_succ]
          refine anyL_take 15 (oi := ?o13) (v := ?v13) ?hi13 (by kernel_rfl) (by kernel_rfl) (by kernel_rfl) (by kernel_rfl) ?hQ13 ?hy13 hHeld ?_
          case hi13 => (simp only [List.getElem?_toArray, List.getElem?_cons_zero, List.getElem?_cons_succ]; rfl)
          case hQ13 => exact fun _ _ _ h => h
          case hy13 => (refine Or.inl ⟨by rfl, ?_⟩; intro w hSw; (try dsimp only at hSw); go_simp <;> with_reducible rfl)
          try simp only [Act.put, List.setIfInBounds_toArray, List.set_cons_zero, List.set_cons_succ]
          refine anyL_take 16 (oi := ?o14) (v := ?v14) ?hi14 (by kernel_rfl) (by kernel_rfl) (by kernel_rfl) (by kernel_rfl) ?hQ14 ?hy14 hHeld ?_
          case hi14 => (simp only [List.getElem?_toArray, List.getElem?_cons_zero, List.getElem?_cons_succ]; rfl)
          case hQ14 => exact fun _ _ _ h => h
          case hy14 => (refine Or.inl ⟨by rfl, ?_⟩; intro w hSw; (try dsimp only at hSw); go_simp <;> with_reducible rfl)
          try simp only [Act.put, List.setIfInBounds_toArray, List.set_cons_zero, List.set_cons_succ]
          clear hHeld
          refine anyL_two 7 9 (o := ?o) (o' := ?o') ?hi ?hj (by kernel_rfl) (fun K hK => ?_) (fun K hK => ?_)
          case hi => (simp only [List.getElem?_toArray, List.getElem?_cons_zero, List.getElem?_cons_succ]; rfl)
          case hj => (simp only [List.getElem?_toArray, List.getElem?_cons_zero, List.getElem?_cons_succ]; rfl)
          · refine step_append_ran (by rfl) _ _ 113 (by rfl) (.slice none 0 0) (.slice A1 j c) va1 Wa1 (by rfl) (by rfl) (by dsimp only; with_reducible exact RA1.out) ?_
            refine hK.out _ _ sA1.out ?_
            clear hK
            try simp only [Act.put, List.setIfInBounds_toArray, List.set_cons_zero, List.set_cons_succ]
            refine anyL_one 9 (o := ?o15) ?hi15 (by kernel_rfl) (fun K hK => ?_)
            case hi15 => (simp only [List.getElem?_toArray, List.getElem?_cons_zero, List.getElem?_cons_succ]; rfl)
            go_simp
            refine hK.out _ _ sA2.out ?_
            clear hK
            try simp only [Act.put, List.setIfInBounds_toArray, List.set_cons_zero, List.set_cons_succ]
            refine anyL_one 10 (o := ?o16) ?hi16 (by kernel_rfl) (fun K hK => ?_)
            case hi16 => (simp only [List.getElem?_toArray, List.getElem?_cons_zero, List.getElem?_cons_succ]; rfl)
            refine step_append_ran (by rfl) _ _ 113 (by rfl) va1 (.slice (some ⟨Wa1.heap.size, 0, none⟩) 1 1) va2 Wa2 (by rfl) (by rfl) (by dsimp only; with_reducible exact RA2.out) ?_
            refine hK.out _ _ sA3.out ?_
            clear hK
            try simp only [Act.put, List.setIfInBounds_toArray, List.set_cons_zero, List.set_cons_succ]
            refine anyL_one 17 (o := ?o17) ?hi17 (by kernel_rfl) (fun K hK => ?_)
            case hi17 => (simp only [List.getElem?_toArray, List.getElem?_cons_zero, List.getElem?_cons_succ]; rfl)
            refine step_append_ran (by rfl) _ _ 113 (by rfl) va2 (.slice A2 (L.length - j) (c - j)) (.slice aa Na ca) Wa3 (by rfl) (by rfl) (by dsimp only; with_reducible exact RA3.out) ?_
            refine hK.out _ _ sA4.out ?_
            clear hK
            try simp only [Act.put, List.setIfInBounds_toArray, List.set_cons_zero, List.set_cons_succ]
            refine anyL_one 18 (o := ?o18) ?hi18 (by kernel_rfl) (fun K hK => ?_)
            case hi18 => (simp only [List.getElem?_toArray, List.getElem?_cons_zero, List.getElem?_cons_succ]; rfl)
            go_simp
            refine hK.out _ _ sA4.out ?_
            clear hK
            try simp only [Act.put, List.setIfInBounds_toArray, List.set_cons_zero, List.set_cons_succ]
            refine anyL_one 19 (o := ?o19) ?hi19 (by kernel_rfl) (fun K hK => ?_)
            case hi19 => (simp only [List.getElem?_toArray, List.getElem?_cons_zero, List.getElem?_cons_succ]; rfl)
            go_simp
            refine hK.out _ _ sA4.out ?_
            clear hK
            try simp only [Act.put, List.setIfInBounds_toArray, List.set_cons_zero, List.set_cons_succ]
            refine anyL_last (o := ?o20) ?hi20 (by kernel_rfl) (fun K hK => ?_)
            case hi20 => (simp only [List.getElem?_toArray, List.getElem?_cons_zero, List.getElem?_cons_succ]; rfl)
            have hst := sA4.out
            have hfr := fA.out
            go_simp
            refine hK.out _ _ ?_
            clear hK
            refine anyL_done (by kernel_rfl) ?_ _
            go_wp2
            exact FA.out
          · go_simp
            refine hK.out _ _ sB0.out ?_
            clear hK
            try simp only [Act.put, List.setIfInBounds_toArray, List.set_cons_zero, List.set_cons_succ]
            refine anyL_one 7 (o := ?o21) ?hi21 (by kernel_rfl) (fun K hK => ?_)
            case hi21 => (simp only [List.getElem?_toArray, List.getElem?_cons_zero, List.getElem?_cons_succ]; rfl)
            refine step_append_ran (by rfl) _ _ 113 (by rfl) (.slice none 0 0) (.slice A1 j c) vb1 Wb1 (by rfl) (by rfl) (by dsimp only; with_reducible exact RB1.out) ?_
            refine hK.out _ _ sB1.out ?_
            clear hK
            try simp only [Act.put, List.setIfInBounds_toArray, List.set_cons_zero, List.set_cons_succ]
            refine anyL_one 10 (o := ?o22) ?hi22 (by kernel_rfl) (fun K hK => ?_)
            case hi22 => (simp only [List.getElem?_toArray, List.getElem?_cons_zero, List.getElem?_cons_succ]; rfl)
            refine step_append_ran (by rfl) _ _ 113 (by rfl) vb1 (.slice (some ⟨W5.heap.size, 0, none⟩) 1 1) vb2 Wb2 (by rfl) (by rfl) (by dsimp only; with_reducible exact RB2.out) ?_
            refine hK.out _ _ sB2.out ?_
            clear hK
            try simp only [Act.put, List.setIfInBounds_toArray, List.set_cons_zero, List.set_cons_succ]
            refine anyL_one 17 (o := ?o23) ?hi23 (by kernel_rfl) (fun K hK => ?_)
            case hi23 => (simp only [List.getElem?_toArray, List.getElem?_cons_zero, List.getElem?_cons_succ]; rfl)
            refine step_append_ran (by rfl) _ _ 113 (by rfl) vb2 (.slice A2 (L.length - j) (c - j)) (.slice ab Nb cb) Wb3 (by rfl) (by rfl) (by dsimp only; with_reducible exact RB3.out) ?_
            refine hK.out _ _ sB3.out ?_
            clear hK
            try simp only [Act.put, List.setIfInBounds_toArray, List.set_cons_zero, List.set_cons_succ]
            refine anyL_one 18 (o := ?o24) ?hi24 (by kernel_rfl) (fun K hK => ?_)
            case hi24 => (simp only [List.getElem?_toArray, List.getElem?_cons_zero, List.getElem?_cons_succ]; rfl)
            go_simp
            refine hK.out _ _ sB3.out ?_
            clear hK
            try simp only [Act.put, List.setIfInBounds_toArray, List.set_cons_zero, List.set_cons_succ]
            refine anyL_one 19 (o := ?o25) ?hi25 (by kernel_rfl) (fun K hK => ?_)
            case hi25 => (simp only [List.getElem?_toArray, List.getElem?_cons_zero, List.getElem?_cons_succ]; rfl)
            go_simp
            refine hK.out _ _ sB3.out ?_
            clear hK
            try simp only [Act.put, List.setIfInBounds_toArray, List.set_cons_zero, List.set_cons_succ]
            refine anyL_last (o := ?o26) ?hi26 (by kernel_rfl) (fun K hK => ?_)
            case hi26 => (simp only [List.getElem?_toArray, List.getElem?_cons_zero, List.getElem?_cons_succ]; rfl)
            have hst := sB3.out
            have hfr := fB.out
            go_simp
            refine hK.out _ _ ?_
            clear hK
            refine anyL_done (by kernel_rfl) ?_ _
            go_wp2
            exact FB.out
  · have g1 : (e0 == 0) = false := by simpa using g0
    have HE : Hid (DL = (e0, s1)) := by unfold Hid; rw [HDL.out, if_pos g0]
    clear h1
    go_wp2
    exact HT.out _ _ (by rw [HE.out] <;> rfl) ⟨a, c, L, by rw [HE.out]; exact HD1.out, HZ1.out, HU1.out, .inl rfl, Gw.refl _ _⟩
end Go.Proofs.YtebngmgdciahiaaGreatDoor

namespace Go.Proofs.YtebngmgdciahiaaGreatDoor
open Go.RowKit
open _root_.Go.Proofs.YtebngmgdciahiaaGreatDoor.Nm _root_.Go.Proofs.YtebngmgdciahiaaGreatDoor.Dk
attribute [local go_sem ↓] Go.wp_at_zero Go.wp_at_succ
set_option linter.unusedVariables false

theorem DX.fileAt {w : World} {p : Nat} {a : Option Addr} {c : Nat} {L : List Fv} {q : Option Nat} {s : St} (h : DX w p a c L q s) {x : ByteArray} {j : Nat} (hj : place x s.fs = j) (hl : j < L.length) : Go.Proofs.YtebngmgdciahiaaGreatDoor.fileAt x s.fs = fl L[j]! := by
  unfold Go.Proofs.YtebngmgdciahiaaGreatDoor.fileAt
  rw [hj, h.f, List.getElem?_map, List.getElem?_eq_getElem hl, getElem!_pos L j hl]
  rfl
set_option maxHeartbeats 8000000 in
theorem drename_any (p : Nat) (a : Option Addr) (c : Nat) (L : List Fv) (q : Option Nat) (s : St) (z : Option Fz) (x y : ByteArray) (w : World) (h : DX w p a c L q s) (hz : Zs w q z) (hb : Zb z) (hx : x.size ≤ maxLen) (hy : y.size ≤ maxLen) (hsm : x = y → there x s.fs = true → renS s.fs x y = s.fs) :
    Calls Tryz.prog 38 #[.pointer (some ⟨p, 0, none⟩), .string x, .string y] w (OpEnd p a L q (renZ z s x y).1 (renZ z s x y).2 (askZ z s [x, y]).2.1 w) := by
  obtain ⟨W, hW⟩ : ∃ W, w.alloc (.cells #[.string x, .string y] 9) = W := ⟨_, rfl⟩
  have bW : Below w.heap.size w W := by rw [← hW]; exact bal _ _
  have hS : Strs W (some ⟨w.heap.size, 0, none⟩) [x, y] := by rw [← hW]; exact strs2 w x y
  have cA := ask_any p a c L q s z (some ⟨w.heap.size, 0, none⟩) 2 [x, y] W (h.keep bW) (hz.keep bW) hb hS (by show 2 ≤ 1000; omega)
  have hfs : (askZ z s [x, y]).2.2.fs = s.fs := askZ_fs z s [x, y]
  obtain ⟨DL, hDL⟩ : ∃ u, renZ z s x y = u := ⟨_, rfl⟩
  have hdl := hDL
  unfold renZ at hdl
  have hok := fun k => askZ_ok2 (z := z) (s := s) (x := x) (y := y) k
  rw [hDL]
  obtain ⟨e0, he0⟩ : ∃ e0, (askZ z s [x, y]).1 = e0 := ⟨_, rfl⟩
  obtain ⟨s1, hs1⟩ : ∃ s1, (askZ z s [x, y]).2.2 = s1 := ⟨_, rfl⟩
  obtain ⟨z1, hz1⟩ : ∃ z1, (askZ z s [x, y]).2.1 = z1 := ⟨_, rfl⟩
  rw [he0, hs1] at hdl
  rw [hs1] at hfs
  rw [he0] at hok
  rw [hz1]
  have HDL : Hid (DL = if e0 ≠ 0 then (e0, s1) else if there x s.fs = true then (0, { s1 with fs := renS s.fs x y }) else (6, s1)) := hdl.symm
  have HBW : Hid (Below w.heap.size w W) := bW
  have cA1 : Calls Tryz.prog 56 #[.pointer (some ⟨p, 0, none⟩), .slice (some ⟨w.heap.size, 0, none⟩) 2 2] W fun e w' => e = .returned (.int .i64 e0) ∧ DX w' p a c L q s1 ∧ Zs w' q z1 ∧ Upd (Mk p q) W w' := by
    refine cA.mono ?_
    rintro e w' ⟨h1, h2, h3, h4⟩
    rw [he0] at h1
    rw [hs1] at h2
    rw [hz1] at h3
    exact ⟨h1, h2, h3, h4⟩
  have HF : Hid (s1.fs = s.fs) := hfs
  have HOK : Hid (e0 = 0 → x.size ≤ 600 ∧ y.size ≤ 600) := hok
  have HSM : Hid (x = y → there x s.fs = true → renS s.fs x y = s.fs) := hsm
  have HT : Hid (∀ e w', e = .returned (.int .i64 DL.1) → (∃ a' c' L', DX w' p a' c' L' q DL.2 ∧ Zs w' q z1 ∧ Upd (Mg p q a) w w' ∧ (a' = a ∨ ∀ x, a' = some x → w.heap.size ≤ x.block) ∧ Gw w L L') → OpEnd p a L q DL.1 DL.2 z1 w e w') := fun e w' h1 h2 => ⟨h1, h2⟩
  generalize hPP : OpEnd p a L q DL.1 DL.2 z1 w = PP at *
  clear hPP h hz hb bW hS cA he0 hfs hs1 hz1 hdl hDL hok hsm
  go_enter Tryz.func38, Tryz.ntmps38
  go_wp2_with fail
  go_at_call 56
  refine cA1.mono ?_
  rintro e w1 ⟨rfl, h1, hz1, u1⟩
  clear cA1 hW
  have HZ1 : Hid (Zs w1 q z1) := hz1
  have HU1 : Hid (Upd (Mg p q a) w w1) := ((Upd.of HBW.out).trans u1).mono fun _ _ k => Mg.of k
  clear hz1 u1
  have HD1 : Hid (DX w1 p a c L q s1) := h1
  by_cases g0 : e0 = 0
  · subst g0
    have cT := at_any p a c L q s1 x w1 h1 hx
    rw [HF.out] at cT
    cases ht : there x s.fs with
    | false =>
      rw [ht] at cT
      have HE : Hid (DL = (6, s1)) := by unfold Hid; rw [HDL.out, if_neg (fun k => k rfl), if_neg (by rw [ht]; decide)]
      clear ht h1
      obtain ⟨j, hj⟩ : ∃ j, place x s.fs = j := ⟨_, rfl⟩
      rw [hj] at cT
      clear hj
      go_wp2_with fail
      go_at_call 57
      refine cT.mono ?_
      rintro e w2 ⟨rfl, n2, rfl⟩
      clear cT
      go_wp2
      exact HT.out _ _ (by rw [HE.out] <;> rfl) ⟨_, c, L, by rw [HE.out]; exact HD1.out.drewN n2, HZ1.out.keep (bdn' _ _), HU1.out.drewN n2, .inl rfl, Gw.refl _ _⟩
    | true =>
      rw [ht] at cT
      have hlt := there_lt ht
      obtain ⟨j, hj⟩ : ∃ j, place x s.fs = j := ⟨_, rfl⟩
      rw [hj] at cT hlt
      have HNL : Hid (s.fs.length = L.length) := by unfold Hid; rw [← HF.out, h1.f, List.length_map]
      have hjL : j < L.length := by have := HNL.out; omega
      by_cases hxy : x = y
      · have x1 : (x.toList == y.toList) = true := by rw [hxy]; simp
        have HE : Hid (DL = (0, s1)) := by
          unfold Hid
          rw [HDL.out, if_neg (fun k => k rfl), if_pos ht, HSM.out hxy ht, ← HF.out]
        clear ht hlt hj hjL h1 hxy
        go_wp2_with fail
        go_at_call 57
        refine cT.mono ?_
        rintro e w2 ⟨rfl, n2, rfl⟩
        clear cT
        go_wp2
        exact HT.out _ _ (by rw [HE.out] <;> rfl) ⟨_, c, L, by rw [HE.out]; exact HD1.out.drewN n2, HZ1.out.keep (bdn' _ _), HU1.out.drewN n2, .inl rfl, Gw.refl _ _⟩
      · have x1 : (x.toList == y.toList) = false := (toList_ne hxy).1
        have HE : Hid (DL = (0, { s1 with fs := renS s.fs x y })) := by
          unfold Hid
          rw [HDL.out, if_neg (fun k => k rfl), if_pos ht]
        have HFA : Hid (fileAt x s.fs = fl L[j]!) := by
          have := h1.fileAt (x := x) (j := j) (by rw [HF.out]; exact hj) hjL
          rw [HF.out] at this
          exact this
        obtain ⟨g, cur, rfl, hg⟩ := h1.block (by omega)
        have ij : (j : Int) < (L.length : Int) := by omega
        obtain ⟨hf, _, hlc, _⟩ := h1.rows
        obtain ⟨b', o', eo, hA⟩ := hf (by omega)
        cases eo
        have k0 := (hA j hjL).c0
        have k1 := (hA j hjL).c1
        have k2 := (hA j hjL).c2
        have hdt := h1.data hjL
        rw [Nat.zero_add] at k0 k1 k2
        obtain ⟨y0, hy0⟩ : ∃ y0, L[j]! = y0 := ⟨_, rfl⟩
        have HY0 : Hid (L[j]! = y0) := hy0
        rw [hy0] at k0 k1 k2 hdt
        obtain ⟨yp, ⟨ya, yn, yc⟩, ys, yb⟩ := y0
        dsimp only at k0 k1 k2 hdt
        have HDT : Hid (yb.size ≤ 262144 ∧ BO w1 ⟨yp, (ya, yn, yc), ys, yb⟩) := hdt
        have HJ : Hid (place x s.fs = j ∧ j < L.length) := ⟨hj, hjL⟩
        have c0 := h1.c0
        have HY : Hid (y.size ≤ maxLen ∧ y.size ≤ 600) := ⟨hy, (HOK.out rfl).2⟩
        clear ht hlt hj h1 hf hA hlc hy0 hdt hg hxy hx hy hjL
        go_wp2_with fail
        go_at_call 57
        refine cT.mono ?_
        rintro e w2 ⟨rfl, n2, rfl⟩
        clear cT
        have m0 : (w1.drewN n2).cell? ⟨p, 0, none⟩ = _ := c0
        have m1 : (w1.drewN n2).cell? ⟨g, j * 3, none⟩ = _ := k0
        have m2 : (w1.drewN n2).cell? ⟨g, j * 3 + 1, none⟩ = _ := k1
        have m3 : (w1.drewN n2).cell? ⟨g, j * 3 + 2, none⟩ = _ := k2
        have b2 : Below w1.heap.size w1 (w1.drewN n2) := bdn' _ _
        clear c0 k0 k1 k2
        generalize w1.drewN n2 = E at *
        go_wp2_with fail
        have HM : Hid (E.cell? ⟨p, 0, none⟩ = some (.slice (some ⟨g, 0, none⟩) L.length c)) := m0
        obtain ⟨W6, hW6⟩ : ∃ W6, E.alloc (.cells #[.string y, .slice ya yn yc, .bool ys] 130) = W6 := ⟨_, rfl⟩
        have b6 : Below w1.heap.size w1 W6 := by rw [← hW6]; exact b2.trans ((bal E _).mono b2.size)
        have hgx6 : W6.heap[E.heap.size]? = some (.cells #[.string y, .slice ya yn yc, .bool ys] 130) := by rw [← hW6]; exact heap_alloc_new _ _
        have hgl : w1.heap.size ≤ E.heap.size := b2.size
        have hd6 := HD1.out.keep b6
        have hz6 := HZ1.out.keep b6
        have hu6 := HU1.out.after b6
        have hbo6 : BO W6 ⟨y, (ya, yn, yc), ys, yb⟩ := BO.keep (x := ⟨y, (ya, yn, yc), ys, yb⟩) (show BO w1 ⟨y, (ya, yn, yc), ys, yb⟩ from HDT.out.2) b6
        have cR := remove_any p _ c L q s1 j W6 hd6 HJ.out.2
        have hszw : w.heap.size ≤ W6.heap.size := hu6.size
        obtain ⟨gx, hgxe⟩ : ∃ gx, E.heap.size = gx := ⟨_, rfl⟩
        have hpx : p ≠ gx := fun e => by have := HD1.out.lt; omega
        rw [hgxe] at hgx6
        clear m0 m1 m2 m3 b2
        clear hgl ij
        rw [hW6, hgxe]
        refine cR.mono ?_
        rintro e w7 ⟨rfl, a2, c2, h7, u7, o7⟩
        clear cR
        obtain ⟨L2, hL2⟩ : ∃ L2, L.take j ++ L.drop (j + 1) = L2 := ⟨_, rfl⟩
        obtain ⟨s2, hs2⟩ : ∃ s2 : St, { s1 with fs := Dk.cut s1.fs j } = s2 := ⟨_, rfl⟩
        rw [hL2, hs2] at h7
        have hx7 : w7.heap[gx]? = some (.cells #[.string y, .slice ya yn yc, .bool ys] 130) := (u7.block _ (Array.getElem?_eq_some_iff.1 hgx6).1 (fun k => by
          rcases k with k | k
          · exact hpx k.symm
          · cases k)).trans hgx6
        have hbo7 : BO w7 ⟨y, (ya, yn, yc), ys, yb⟩ := hbo6.upd u7 fun g' cur' e k => (p_types hd6 k e).2 rfl
        have hz7 : Zs w7 q z1 := hz6.beside u7 (fun k e k2 => by
          rcases k2 with k2 | k2
          · exact zs_off hd6 hz6 e k2.symm
          · cases k2)
        have hu7 : Upd (Mg p q (some ⟨g, 0, none⟩)) w w7 := hu6.trans (u7.mono fun _ _ k => Mg.of0 k)
        have HRN : Hid (renS s.fs x y = Dk.put s2.fs (fl ⟨y, (ya, yn, yc), ys, yb⟩)) := by
          unfold Hid renS
          rw [HJ.out.1, HFA.out, HY0.out, ← hs2, HF.out]
          rfl
        have HS2 : Hid (∀ l, ({ s1 with fs := l } : St) = { s2 with fs := l }) := fun l => by rw [← hs2]
        have HN2 : Hid (s2.fs.length = L2.length ∧ s2.fs.length < 4096) := by
          have e1 : s2.fs.length = L2.length := by rw [h7.f, List.length_map]
          refine ⟨e1, ?_⟩
          rw [e1, ← hL2, List.length_append, List.length_take, List.length_drop]
          have := HD1.out.n
          have := HJ.out.2
          omega
        have HSUB : Hid (∀ u ∈ L2, u ∈ L) := fun u hu => mem_rem (by rw [hL2]; exact hu)
        have HYB : Hid (0 < yb.size → ∀ ad : Addr, ya = some ad → w.heap.size ≤ ad.block ∨ ∃ y0 ∈ L, 0 < y0.b.size ∧ y0.bv.1 = some ad) := fun k ad e => .inr ⟨L[j]!, by rw [getElem!_pos L j HJ.out.2]; exact List.getElem_mem _, by rw [HY0.out]; exact k, by rw [HY0.out]; exact e⟩
        have HO7 : Hid (∀ x, a2 = some x → W6.heap.size ≤ x.block) := o7
        have HSZ : Hid (w.heap.size ≤ W6.heap.size) := hszw
        have cT := at_any p a2 c2 L2 q s2 y w7 h7 HY.out.1
        have HD7 : Hid (DX w7 p a2 c2 L2 q s2) := h7
        have HX7 : Hid (w7.heap[gx]? = some (.cells #[.string y, .slice ya yn yc, .bool ys] 130)) := hx7
        have HB7 : Hid (BO w7 ⟨y, (ya, yn, yc), ys, yb⟩) := hbo7
        have HZ7 : Hid (Zs w7 q z1) := hz7
        have HU7 : Hid (Upd (Mg p q (some ⟨g, 0, none⟩)) w w7) := hu7
        clear hL2 hs2 h7 u7 o7 hx7 hbo7 hz7 hu7 b6 hgx6 hd6 hz6 hu6 hbo6 hszw hgxe hpx hW6
        cases ht2 : there y s2.fs with
        | true =>
          rw [ht2] at cT
          have hlt2 := there_lt ht2
          obtain ⟨j2, hj2⟩ : ∃ j2, place y s2.fs = j2 := ⟨_, rfl⟩
          rw [hj2] at cT hlt2
          have hjL2 : j2 < L2.length := by have := HN2.out.1; omega
          obtain ⟨g2, cur2, ea2, hg2⟩ := HD7.out.block (by omega)
          subst ea2
          have hpg2 : p ≠ g2 := fun e => by
            subst e
            have := HD7.out.o
            rw [hg2] at this
            injection this with this
            injection this with _ this _
            exact absurd this (by decide)
          have HPG : Hid (p ≠ g2 ∧ j2 < L2.length) := ⟨hpg2, hjL2⟩
          have HQG : Hid (∀ k, q = some k → ¬ k = g2) := fun k hk e => by
            subst hk; subst e
            obtain ⟨cs, hz⟩ := HZ7.out.type
            rw [hg2] at hz
            injection hz with hz
            injection hz with _ hz _
            exact absurd hz (by decide)
          have HPT : Hid (renS s.fs x y = s2.fs.set j2 (fl ⟨y, (ya, yn, yc), ys, yb⟩)) := by
            unfold Hid
            rw [HRN.out]
            unfold Dk.put
            rw [if_pos (c := there (fl ⟨y, (ya, yn, yc), ys, yb⟩).path s2.fs = true) ht2]
            show s2.fs.set (place y s2.fs) _ = _
            rw [hj2]
          have ij2 : (j2 : Int) < (L2.length : Int) := by omega
          obtain ⟨hf, _, hlc, _⟩ := HD7.out.rows
          obtain ⟨b', o', eo, hA⟩ := hf (by omega)
          cases eo
          have k0 := (hA j2 hjL2).c0
          have k1 := (hA j2 hjL2).c1
          have k2 := (hA j2 hjL2).c2
          rw [Nat.zero_add] at k0 k1 k2
          obtain ⟨y0, hy0⟩ : ∃ y0, L2[j2]! = y0 := ⟨_, rfl⟩
          rw [hy0] at k0 k1 k2
          obtain ⟨yp', ⟨ya', yn', yc'⟩, ys', yb'⟩ := y0
          dsimp only at k0 k1 k2
          have c0 := HD7.out.c0
          have HK0 : Hid (∀ Y, Below w7.heap.size w7 Y → (Y.cell? ⟨g2, j2 * 3, none⟩ = some (.string yp') ∧ Y.cell? ⟨g2, j2 * 3 + 1, none⟩ = some (.slice ya' yn' yc') ∧ Y.cell? ⟨g2, j2 * 3 + 2, none⟩ = some (.bool ys') ∧ Y.cell? ⟨p, 0, none⟩ = some (.slice (some ⟨g2, 0, none⟩) L2.length c2)) ∧ (∀ i, Y.frozen? ⟨g2, i, none⟩ = false) ∧ (Y.cell? ⟨gx, 0, none⟩ = some (.string y) ∧ Y.cell? ⟨gx, 1, none⟩ = some (.slice ya yn yc) ∧ Y.cell? ⟨gx, 2, none⟩ = some (.bool ys))) := fun Y hb =>
            have hxY : Y.heap[gx]? = some (.cells #[.string y, .slice ya yn yc, .bool ys] 130) := (hb.block gx (Array.getElem?_eq_some_iff.1 HX7.out).1).trans HX7.out
            ⟨⟨(hb.cell (p := ⟨g2, j2 * 3, none⟩) (block_lt_of_cell k0)).trans k0, (hb.cell (p := ⟨g2, j2 * 3 + 1, none⟩) (block_lt_of_cell k1)).trans k1, (hb.cell (p := ⟨g2, j2 * 3 + 2, none⟩) (block_lt_of_cell k2)).trans k2, (hb.cell (p := ⟨p, 0, none⟩) (block_lt_of_cell c0)).trans c0⟩, fun i => frozen_of_row Y g2 i _ _ ((hb.block g2 (Array.getElem?_eq_some_iff.1 hg2).1).trans hg2), cell_of_row Y gx 0 _ _ _ hxY, cell_of_row Y gx 1 _ _ _ hxY, cell_of_row Y gx 2 _ _ _ hxY⟩
          clear ht2 hj2 hlt2 hjL2 hg2 hpg2 hf hA hlc hy0 k0 k1 k2 c0
          go_wp2_with fail
          go_at_call 57
          refine cT.mono ?_
          rintro e w8 ⟨rfl, n8, rfl⟩
          clear cT
          have b8 : Below w7.heap.size w7 (w7.drewN n8) := bdn' _ _
          obtain ⟨⟨l0, l1, l2, l3⟩, l4, q0, q1, q2⟩ := HK0.out _ b8
          have HN : Hid (∃ a' c' L', DX (putF (w7.drewN n8) g2 (j2 * 3) ⟨y, (ya, yn, yc), ys, yb⟩) p a' c' L' q DL.2 ∧ Zs (putF (w7.drewN n8) g2 (j2 * 3) ⟨y, (ya, yn, yc), ys, yb⟩) q z1 ∧ Upd (Mg p q (some ⟨g, 0, none⟩)) w (putF (w7.drewN n8) g2 (j2 * 3) ⟨y, (ya, yn, yc), ys, yb⟩) ∧ (a' = some ⟨g, 0, none⟩ ∨ ∀ x, a' = some x → w.heap.size ≤ x.block) ∧ Gw w L L') := by
            have hd := (HD7.out.keep b8).put HPG.out.2 HPG.out.1 ⟨y, (ya, yn, yc), ys, yb⟩ (HB7.out.keep b8) HDT.out.1 HY.out.2
            have hgn : w.heap.size ≤ g2 := Nat.le_trans HSZ.out (HO7.out _ rfl)
            refine ⟨_, c2, L2.set j2 ⟨y, (ya, yn, yc), ys, yb⟩, ?_, (HZ7.out.keep b8).beside (putF_upd _ _ _ _) HQG.out, (HU7.out.after b8).then (putF_upd _ _ _ _) (fun i hi k => by subst k; omega), .inr (fun x e => Nat.le_trans HSZ.out (HO7.out x e)), Gw.put HSUB.out HYB.out⟩
            rw [HE.out]
            show DX _ p _ c2 _ q { s1 with fs := renS s.fs x y }
            rw [HS2.out, HPT.out]
            exact hd
          clear b8 HK0
          generalize w7.drewN n8 = W5 at *
          unfold putF at HN
          dsimp only at HN
          go_wp2_with fail
          go_region
          all_goals
            go_wp2
            exact HT.out _ _ (by rw [HE.out] <;> rfl) (opd HN.out)
        | false =>
          rw [ht2] at cT
          have hple : place y s2.fs ≤ L2.length := by have := place_le y s2.fs; have := HN2.out.1; omega
          obtain ⟨j2, hj2⟩ : ∃ j2, place y s2.fs = j2 := ⟨_, rfl⟩
          rw [hj2] at cT hple
          have HPT : Hid (renS s.fs x y = s2.fs.take j2 ++ fl ⟨y, (ya, yn, yc), ys, yb⟩ :: s2.fs.drop j2) := by
            unfold Hid
            rw [HRN.out]
            unfold Dk.put
            rw [if_neg (c := there (fl ⟨y, (ya, yn, yc), ys, yb⟩).path s2.fs = true) (by show ¬ there y s2.fs = true; rw [ht2]; decide)]
            show s2.fs.take (place y s2.fs) ++ _ :: s2.fs.drop (place y s2.fs) = _
            rw [hj2]
          have HPL : Hid (j2 ≤ L2.length) := hple
          clear ht2 hj2 hple
          go_wp2_with fail
          go_at_call 57
          refine cT.mono ?_
          rintro e w8 ⟨rfl, n8, rfl⟩
          clear cT
          have b8 : Below w7.heap.size w7 (w7.drewN n8) := bdn' _ _
          have hd5 := HD7.out.keep b8
          have hbo5 := HB7.out.keep b8
          have hz5 := HZ7.out.keep b8
          have hu5 := HU7.out.after b8
          have hx5 : (w7.drewN n8).heap[gx]? = some (.cells #[.string y, .slice ya yn yc, .bool ys] 130) := HX7.out
          clear b8
          generalize w7.drewN n8 = W5 at *
          go_wp2_with fail
          have hins := ins_any (i := j2) (y := ⟨y, (ya, yn, yc), ys, yb⟩) hd5 HPL.out hbo5 HDT.out.1 HY.out.2 HN2.out.2
          obtain ⟨A1, A2, s1', s2', ⟨va1, Wa1, va2, Wa2, aa, Na, ca, Wa3, ra1, ra2, ra3, ka1, ka2, ka3, ia⟩, ⟨vb1, Wb1, vb2, Wb2, ab, Nb, cb, Wb3, rb1, rb2, rb3, kb1, kb2, kb3, ib⟩⟩ := hins
          clear HPL
          have hfin : ∀ W9, InsEnd W5 p L2 q s2 j2 ⟨y, (ya, yn, yc), ys, yb⟩ W9 → Hid (PP (.returned (.int .i64 0)) W9) := fun W9 hi9 => by
            obtain ⟨a', c', hd, hu, ho⟩ := hi9
            have hE := HE.out
            have := HT.out (.returned (.int .i64 0)) W9 (by rw [hE]) ⟨a', c', _, by
              rw [hE]
              show DX _ p _ c' _ q { s1 with fs := renS s.fs x y }
              rw [HS2.out, HPT.out]
              exact hd, hz5.beside hu (fun k e k2 => by
                rcases k2 with k2 | k2
                · exact zs_off hd5 hz5 e k2.symm
                · cases k2), hu5.trans (hu.mono fun _ _ k => Mg.of0 k), .inr (fun y e => Nat.le_trans hu5.size (ho y e)), Gw.ins HSUB.out HYB.out⟩
            exact this
          have FA := hfin _ ia
          have FB := hfin _ ib
          have KS : Hid (∀ Y, Below W5.heap.size W5 Y → Y.cell? ⟨p, 0, none⟩ = some (.slice a2 L2.length c2) ∧ Y.cell? ⟨gx, 0, none⟩ = some (.string y) ∧ Y.cell? ⟨gx, 1, none⟩ = some (.slice ya yn yc) ∧ Y.cell? ⟨gx, 2, none⟩ = some (.bool ys)) := fun Y hb9 =>
            have hxY : Y.heap[gx]? = some (.cells #[.string y, .slice ya yn yc, .bool ys] 130) := (hb9.block gx (Array.getElem?_eq_some_iff.1 hx5).1).trans hx5
            ⟨(hd5.keep hb9).c0, cell_of_row Y gx 0 _ _ _ hxY, cell_of_row Y gx 1 _ _ _ hxY, cell_of_row Y gx 2 _ _ _ hxY⟩
          have sE : Hid _ := KS.out _ (Below.refl _ W5).drew
          have sA1 : Hid _ := KS.out _ ka1
          have sA2 : Hid _ := KS.out _ (ka1.trans ((bal Wa1 (.cells #[.string y, .slice ya yn yc, .bool ys] 130)).mono ka1.size))
          have sA3 : Hid _ := KS.out _ ka2
          have sA4 : Hid _ := KS.out _ ka3
          have sB0 : Hid _ := KS.out _ ((bal W5 (.cells #[.string y, .slice ya yn yc, .bool ys] 130)).drew)
          have sB1 : Hid _ := KS.out _ kb1
          have sB2 : Hid _ := KS.out _ kb2
          have sB3 : Hid _ := KS.out _ kb3
          have fA : Hid _ := (hd5.keep ka3).soft 0
          have fB : Hid _ := (hd5.keep kb3).soft 0
          have RA1 : Hid (Sem.run Tryz.prog (Builtin.append_ #[113, 113] 113 #[.slice none 0 0, .slice A1 j2 c2]) W5.drew = .ok va1 Wa1) := ra1
          have RA2 : Hid (Sem.run Tryz.prog (Builtin.append_ #[113, 113] 113 #[va1, .slice (some ⟨Wa1.heap.size, 0, none⟩) 1 1]) (Wa1.alloc (.cells #[.string y, .slice ya yn yc, .bool ys] 130)) = .ok va2 Wa2) := ra2
          have RA3 : Hid (Sem.run Tryz.prog (Builtin.append_ #[113, 113] 113 #[va2, .slice A2 (L2.length - j2) (c2 - j2)]) Wa2 = .ok (.slice aa Na ca) Wa3) := ra3
          have RB1 : Hid (Sem.run Tryz.prog (Builtin.append_ #[113, 113] 113 #[.slice none 0 0, .slice A1 j2 c2]) (W5.alloc (.cells #[.string y, .slice ya yn yc, .bool ys] 130)).drew = .ok vb1 Wb1) := rb1
          have RB2 : Hid (Sem.run Tryz.prog (Builtin.append_ #[113, 113] 113 #[vb1, .slice (some ⟨W5.heap.size, 0, none⟩) 1 1]) Wb1 = .ok vb2 Wb2) := rb2
          have RB3 : Hid (Sem.run Tryz.prog (Builtin.append_ #[113, 113] 113 #[vb2, .slice A2 (L2.length - j2) (c2 - j2)]) Wb2 = .ok (.slice ab Nb cb) Wb3) := rb3
          clear hfin ia ib ra1 ra2 ra3 rb1 rb2 rb3 ka1 ka2 ka3 kb1 kb2 kb3 KS hd5 hbo5 hz5 hu5 hx5
          refine region_L (fun Y => Y.cell? ⟨p, 0, none⟩ = some (.slice a2 L2.length c2) ∧ Y.cell? ⟨gx, 0, none⟩ = some (.string y) ∧ Y.cell? ⟨gx, 1, none⟩ = some (.slice ya yn yc) ∧ Y.cell? ⟨gx, 2, none⟩ = some (.bool ys)) 20 (by kernel_rfl) sE.out (fun hHeld => ?_)
          refine anyL_take 0 (oi := ?o1) (v := ?v1) ?hi1 (by kernel_rfl) (by kernel_rfl) (by kernel_rfl) (by kernel_rfl) ?hQ1 ?hy1 hHeld ?_
          case hi1 => (simp only [List.getElem?_toArray, List.getElem?_cons_zero]; rfl)
          case hQ1 => exact fun _ _ _ h => h
          case hy1 => (refine Or.inl ⟨by rfl, ?_⟩; intro w hSw; (try dsimp only at hSw); go_simp <;> with_reducible rfl)
          try simp only [Act.put, List.setIfInBounds_toArray, List.set_cons_zero, List.set_cons_succ]
          refine anyL_take 1 (oi := ?o2) (v := ?v2) ?hi2 (by kernel_rfl) (by kernel_rfl) (by kernel_rfl) (by kernel_rfl) ?hQ2 ?hy2 hHeld ?_
          case hi2 => (simp only [List.getElem?_toArray, List.getElem?_cons_zero, List.getElem?_cons_succ]; rfl)
          case hQ2 => exact fun _ _ _ h => h
          case hy2 => (refine Or.inl ⟨by rfl, ?_⟩; intro w hSw; (try dsimp only at hSw); go_simp <;> with_reducible rfl)
          try simp only [Act.put, List.setIfInBounds_toArray, List.set_cons_zero, List.set_cons_succ]
          refine anyL_take 2 (oi := ?o3) (v := ?v3) ?hi3 (by kernel_rfl) (by kernel_rfl) (by kernel_rfl) (by kernel_rfl) ?hQ3 ?hy3 hHeld ?_
          case hi3 => (simp only [List.getElem?_toArray, List.getElem?_cons_zero, List.getElem?_cons_succ]; rfl)
          case hQ3 => exact fun _ _ _ h => h
          case hy3 => (refine Or.inl ⟨by rfl, ?_⟩; intro w hSw; (try dsimp only at hSw); go_simp <;> with_reducible rfl)
          try simp only [Act.put, List.setIfInBounds_toArray, List.set_cons_zero, List.set_cons_succ]
          refine anyL_take 3 (oi := ?o4) (v := ?v4) ?hi4 (by kernel_rfl) (by kernel_rfl) (by kernel_rfl) (by kernel_rfl) ?hQ4 ?hy4 hHeld ?_
          case hi4 => (simp only [List.getElem?_toArray, List.getElem?_cons_zero, List.getElem?_cons_succ]; rfl)
          case hQ4 => exact fun _ _ _ h => h
          case hy4 => (refine Or.inl ⟨by rfl, ?_⟩; intro w hSw; (try dsimp only at hSw); go_simp <;> with_reducible rfl)
          try simp only [Act.put, List.setIfInBounds_toArray, List.set_cons_zero, List.set_cons_succ]
          refine anyL_take 4 (oi := ?o5) (v := ?v5) ?hi5 (by kernel_rfl) (by kernel_rfl) (by kernel_rfl) (by kernel_rfl) ?hQ5 ?hy5 hHeld ?_
          case hi5 => (simp only [List.getElem?_toArray, List.getElem?_cons_zero, List.getElem?_cons_succ]; rfl)
          case hQ5 => exact fun _ _ _ h => h
          case hy5 => (refine Or.inl ⟨by rfl, ?_⟩; intro w hSw; (try dsimp only at hSw); go_simp <;> with_reducible rfl)
          try simp only [Act.put, List.setIfInBounds_toArray, List.set_cons_zero, List.set_cons_succ]
          refine anyL_take 5 (oi := ?o6) (v := ?v6) ?hi6 (by kernel_rfl) (by kernel_rfl) (by kernel_rfl) (by kernel_rfl) ?hQ6 ?hy6 hHeld ?_
          case hi6 => (simp only [List.getElem?_toArray, List.getElem?_cons_zero, List.getElem?_cons_succ]; rfl)
          case hQ6 => exact fun _ _ _ h => h
          case hy6 => (refine Or.inl ⟨by rfl, ?_⟩; intro w hSw; (try dsimp only at hSw); go_simp <;> with_reducible rfl)
          try simp only [Act.put, List.setIfInBounds_toArray, List.set_cons_zero, List.set_cons_succ]
          refine anyL_take 6 (oi := ?o7) (v := ?v7) ?hi7 (by kernel_rfl) (by kernel_rfl) (by kernel_rfl) (by kernel_rfl) ?hQ7 ?hy7 hHeld ?_
          case hi7 => (simp only [List.getElem?_toArray, List.getElem?_cons_zero, List.getElem?_cons_succ]; rfl)
          case hQ7 => exact fun _ _ _ h => h
          case hy7 => (refine Or.inl ⟨by rfl, ?_⟩; intro w hSw; (try dsimp only at hSw); go_simp <;> with_reducible rfl)
          try simp only [Act.put, List.setIfInBounds_toArray, List.set_cons_zero, List.set_cons_succ]
          refine anyL_take 8 (oi := ?o8) (v := ?v8) ?hi8 (by kernel_rfl) (by kernel_rfl) (by kernel_rfl) (by kernel_rfl) ?hQ8 ?hy8 hHeld ?_
          case hi8 => (simp only [List.getElem?_toArray, List.getElem?_cons_zero, List.getElem?_cons_succ]; rfl)
          case hQ8 => exact fun _ _ _ h => h
          case hy8 => (refine Or.inl ⟨by rfl, ?_⟩; intro w hSw; (try dsimp only at hSw); go_simp <;> with_reducible rfl)
          try simp only [Act.put, List.setIfInBounds_toArray, List.set_cons_zero, List.set_cons_succ]
          refine anyL_take 11 (oi := ?o9) (v := ?v9) ?hi9 (by kernel_rfl) (by kernel_rfl) (by kernel_rfl) (by kernel_rfl) ?hQ9 ?hy9 hHeld ?_
          case hi9 => (simp only [List.getElem?_toArray, List.getElem?_cons_zero, List.getElem?_cons_succ]; rfl)
          case hQ9 => exact fun _ _ _ h => h
          case hy9 => (refine Or.inl ⟨by rfl, ?_⟩; intro w hSw; (try dsimp only at hSw); go_simp <;> with_reducible rfl)
          try simp only [Act.put, List.setIfInBounds_toArray, List.set_cons_zero, List.set_cons_succ]
          refine anyL_take 12 (oi := ?o10) (v := ?v10) ?hi10 (by kernel_rfl) (by kernel_rfl) (by kernel_rfl) (by kernel_rfl) ?hQ10 ?hy10 hHeld ?_
          case hi10 => (simp only [List.getElem?_toArray, List.getElem?_cons_zero, List.getElem?_cons_succ]; rfl)
          case hQ10 => exact fun _ _ _ h => h
          case hy10 => (refine Or.inl ⟨by rfl, ?_⟩; intro w hSw; (try dsimp only at hSw); go_simp <;> with_reducible rfl)
          try simp only [Act.put, List.setIfInBounds_toArray, List.set_cons_zero, List.set_cons_succ]
          refine anyL_take 13 (oi := ?o11) (v := ?v11) ?hi11 (by kernel_rfl) (by kernel_rfl) (by kernel_rfl) (by kernel_rfl) ?hQ11 ?hy11 hHeld ?_
          case hi11 => (simp only [List.getElem?_toArray, List.getElem?_cons_zero, List.getElem?_cons_succ]; rfl)
          case hQ11 => exact fun _ _ _ h => h
          case hy11 => (refine Or.inl ⟨by rfl, ?_⟩; intro w hSw; (try dsimp only at hSw); go_simp <;> with_reducible rfl)
          try simp only [Act.put, List.setIfInBounds_toArray, List.set_cons_zero, List.set_cons_succ]
          refine anyL_take 14 (oi := ?o12) (v := ?v12) ?hi12 (by kernel_rfl) (by kernel_rfl) (by kernel_rfl) (by kernel_rfl) ?hQ12 ?hy12 hHeld ?_
          case hi12 => (simp only [List.getElem?_toArray, List.getElem?_cons_zero, List.getElem?_cons_succ]; rfl)
          case hQ12 => exact fun _ _ _ h => h
          case hy12 => (refine Or.inl ⟨by rfl, ?_⟩; intro w hSw; (try dsimp only at hSw); go_simp <;> with_reducible rfl)
          try simp only [Act.put, List.setIfInBounds_toArray, List.set_cons_zero, List.set_cons_succ]
          refine anyL_take 15 (oi := ?o13) (v := ?v13) ?hi13 (by kernel_rfl) (by kernel_rfl) (by kernel_rfl) (by kernel_rfl) ?hQ13 ?hy13 hHeld ?_
          case hi13 => (simp only [List.getElem?_toArray, List.getElem?_cons_zero, List.getElem?_cons_succ]; rfl)
          case hQ13 => exact fun _ _ _ h => h
          case hy13 => (refine Or.inl ⟨by rfl, ?_⟩; intro w hSw; (try dsimp only at hSw); go_simp <;> with_reducible rfl)
          try simp only [Act.put, List.setIfInBounds_toArray, List.set_cons_zero, List.set_cons_succ]
          refine anyL_take 16 (oi := ?o14) (v := ?v14) ?hi14 (by kernel_rfl) (by kernel_rfl) (by kernel_rfl) (by kernel_rfl) ?hQ14 ?hy14 hHeld ?_
          case hi14 => (simp only [List.getElem?_toArray, List.getElem?_cons_zero, List.getElem?_cons_succ]; rfl)
          case hQ14 => exact fun _ _ _ h => h
          case hy14 => (refine Or.inl ⟨by rfl, ?_⟩; intro w hSw; (try dsimp only at hSw); go_simp <;> with_reducible rfl)
          try simp only [Act.put, List.setIfInBounds_toArray, List.set_cons_zero, List.set_cons_succ]
          clear hHeld
          refine anyL_two 7 9 (o := ?o) (o' := ?o') ?hi ?hj (by kernel_rfl) (fun K hK => ?_) (fun K hK => ?_)
          case hi => (simp only [List.getElem?_toArray, List.getElem?_cons_zero, List.getElem?_cons_succ]; rfl)
          case hj => (simp only [List.getElem?_toArray, List.getElem?_cons_zero, List.getElem?_cons_succ]; rfl)
          · refine step_append_ran (by rfl) _ _ 113 (by rfl) (.slice none 0 0) (.slice A1 j2 c2) va1 Wa1 (by rfl) (by rfl) (by dsimp only; with_reducible exact RA1.out) ?_
            refine hK.out _ _ sA1.out ?_
            clear hK
            try simp only [Act.put, List.setIfInBounds_toArray, List.set_cons_zero, List.set_cons_succ]
            refine anyL_one 9 (o := ?o15) ?hi15 (by kernel_rfl) (fun K hK => ?_)
            case hi15 => (simp only [List.getElem?_toArray, List.getElem?_cons_zero, List.getElem?_cons_succ]; rfl)
            go_simp
            refine hK.out _ _ sA2.out ?_
            clear hK
            try simp only [Act.put, List.setIfInBounds_toArray, List.set_cons_zero, List.set_cons_succ]
            refine anyL_one 10 (o := ?o16) ?hi16 (by kernel_rfl) (fun K hK => ?_)
            case hi16 => (simp only [List.getElem?_toArray, List.getElem?_cons_zero, List.getElem?_cons_succ]; rfl)
            refine step_append_ran (by rfl) _ _ 113 (by rfl) va1 (.slice (some ⟨Wa1.heap.size, 0, none⟩) 1 1) va2 Wa2 (by rfl) (by rfl) (by dsimp only; with_reducible exact RA2.out) ?_
            refine hK.out _ _ sA3.out ?_
            clear hK
            try simp only [Act.put, List.setIfInBounds_toArray, List.set_cons_zero, List.set_cons_succ]
            refine anyL_one 17 (o := ?o17) ?hi17 (by kernel_rfl) (fun K hK => ?_)
            case hi17 => (simp only [List.getElem?_toArray, List.getElem?_cons_zero, List.getElem?_cons_succ]; rfl)
            refine step_append_ran (by rfl) _ _ 113 (by rfl) va2 (.slice A2 (L2.length - j2) (c2 - j2)) (.slice aa Na ca) Wa3 (by rfl) (by rfl) (by dsimp only; with_reducible exact RA3.out) ?_
            refine hK.out _ _ sA4.out ?_
            clear hK
            try simp only [Act.put, List.setIfInBounds_toArray, List.set_cons_zero, List.set_cons_succ]
            refine anyL_one 18 (o := ?o18) ?hi18 (by kernel_rfl) (fun K hK => ?_)
            case hi18 => (simp only [List.getElem?_toArray, List.getElem?_cons_zero, List.getElem?_cons_succ]; rfl)
            go_simp
            refine hK.out _ _ sA4.out ?_
            clear hK
            try simp only [Act.put, List.setIfInBounds_toArray, List.set_cons_zero, List.set_cons_succ]
            refine anyL_one 19 (o := ?o19) ?hi19 (by kernel_rfl) (fun K hK => ?_)
            case hi19 => (simp only [List.getElem?_toArray, List.getElem?_cons_zero, List.getElem?_cons_succ]; rfl)
            go_simp
            refine hK.out _ _ sA4.out ?_
            clear hK
            try simp only [Act.put, List.setIfInBounds_toArray, List.set_cons_zero, List.set_cons_succ]
            refine anyL_last (o := ?o20) ?hi20 (by kernel_rfl) (fun K hK => ?_)
            case hi20 => (simp only [List.getElem?_toArray, List.getElem?_cons_zero, List.getElem?_cons_succ]; rfl)
            have hst := sA4.out
            have hfr := fA.out
            go_simp
            refine hK.out _ _ ?_
            clear hK
            refine anyL_done (by kernel_rfl) ?_ _
            go_wp2
            exact FA.out
          · go_simp
            refine hK.out _ _ sB0.out ?_
            clear hK
            try simp only [Act.put, List.setIfInBounds_toArray, List.set_cons_zero, List.set_cons_succ]
            refine anyL_one 7 (o := ?o21) ?hi21 (by kernel_rfl) (fun K hK => ?_)
            case hi21 => (simp only [List.getElem?_toArray, List.getElem?_cons_zero, List.getElem?_cons_succ]; rfl)
            refine step_append_ran (by rfl) _ _ 113 (by rfl) (.slice none 0 0) (.slice A1 j2 c2) vb1 Wb1 (by rfl) (by rfl) (by dsimp only; with_reducible exact RB1.out) ?_
            refine hK.out _ _ sB1.out ?_
            clear hK
            try simp only [Act.put, List.setIfInBounds_toArray, List.set_cons_zero, List.set_cons_succ]
            refine anyL_one 10 (o := ?o22) ?hi22 (by kernel_rfl) (fun K hK => ?_)
            case hi22 => (simp only [List.getElem?_toArray, List.getElem?_cons_zero, List.getElem?_cons_succ]; rfl)
            refine step_append_ran (by rfl) _ _ 113 (by rfl) vb1 (.slice (some ⟨W5.heap.size, 0, none⟩) 1 1) vb2 Wb2 (by rfl) (by rfl) (by dsimp only; with_reducible exact RB2.out) ?_
            refine hK.out _ _ sB2.out ?_
            clear hK
            try simp only [Act.put, List.setIfInBounds_toArray, List.set_cons_zero, List.set_cons_succ]
            refine anyL_one 17 (o := ?o23) ?hi23 (by kernel_rfl) (fun K hK => ?_)
            case hi23 => (simp only [List.getElem?_toArray, List.getElem?_cons_zero, List.getElem?_cons_succ]; rfl)
            refine step_append_ran (by rfl) _ _ 113 (by rfl) vb2 (.slice A2 (L2.length - j2) (c2 - j2)) (.slice ab Nb cb) Wb3 (by rfl) (by rfl) (by dsimp only; with_reducible exact RB3.out) ?_
            refine hK.out _ _ sB3.out ?_
            clear hK
            try simp only [Act.put, List.setIfInBounds_toArray, List.set_cons_zero, List.set_cons_succ]
            refine anyL_one 18 (o := ?o24) ?hi24 (by kernel_rfl) (fun K hK => ?_)
            case hi24 => (simp only [List.getElem?_toArray, List.getElem?_cons_zero, List.getElem?_cons_succ]; rfl)
            go_simp
            refine hK.out _ _ sB3.out ?_
            clear hK
            try simp only [Act.put, List.setIfInBounds_toArray, List.set_cons_zero, List.set_cons_succ]
            refine anyL_one 19 (o := ?o25) ?hi25 (by kernel_rfl) (fun K hK => ?_)
            case hi25 => (simp only [List.getElem?_toArray, List.getElem?_cons_zero, List.getElem?_cons_succ]; rfl)
            go_simp
            refine hK.out _ _ sB3.out ?_
            clear hK
            try simp only [Act.put, List.setIfInBounds_toArray, List.set_cons_zero, List.set_cons_succ]
            refine anyL_last (o := ?o26) ?hi26 (by kernel_rfl) (fun K hK => ?_)
            case hi26 => (simp only [List.getElem?_toArray, List.getElem?_cons_zero, List.getElem?_cons_succ]; rfl)
            have hst := sB3.out
            have hfr := fB.out
            go_simp
            refine hK.out _ _ ?_
            clear hK
            refine anyL_done (by kernel_rfl) ?_ _
            go_wp2
            exact FB.out
  · have g1 : (e0 == 0) = false := by simpa using g0
    have HE : Hid (DL = (e0, s1)) := by unfold Hid; rw [HDL.out, if_pos g0]
    clear h1
    go_wp2
    exact HT.out _ _ (by rw [HE.out] <;> rfl) ⟨a, c, L, by rw [HE.out]; exact HD1.out, HZ1.out, HU1.out, .inl rfl, Gw.refl _ _⟩
end Go.Proofs.YtebngmgdciahiaaGreatDoor

namespace Go.Proofs.YtebngmgdciahiaaGreatDoor
open Go.RowKit
open _root_.Go.Proofs.YtebngmgdciahiaaGreatDoor.Nm _root_.Go.Proofs.YtebngmgdciahiaaGreatDoor.Dk
attribute [local go_sem ↓] Go.wp_at_zero Go.wp_at_succ
set_option linter.unusedVariables false

/-- The document's disk that came behind w0. -/
structure Dx (w0 w : World) (d : Nat) (g : Option Nat) (s : St) (z : Option Fz) : Prop where
  dx : ∃ a c L, DX w d a c L g s ∧ ∀ x : Addr, a = some x → w0.heap.size ≤ x.block
  zs : Zs w g z
  b : Below w0.heap.size w0 w
  d0 : w0.heap.size ≤ d
  g0 : ∀ k, g = some k → w0.heap.size ≤ k
/-- The types of its blocks. -/
def dT (T : TypeId) : Prop := T = 115 ∨ T = 67 ∨ T = 130
theorem dT_u8 {T : TypeId} (h : dT T) : T ≠ 5 := by
  rcases h with h | h | h <;> subst h <;> decide
theorem dT_sim {T : TypeId} (h : dT T) : T ≠ 109 := by
  rcases h with h | h | h <;> subst h <;> decide
theorem dT_fuse {T : TypeId} (h : dT T) : T ≠ 102 := by
  rcases h with h | h | h <;> subst h <;> decide
theorem dT_str {T : TypeId} (h : dT T) : T ≠ 9 := by
  rcases h with h | h | h <;> subst h <;> decide
theorem dT_deed {T : TypeId} (h : dT T) : T ≠ 29 := by
  rcases h with h | h | h <;> subst h <;> decide
/-- What a call of the document turns. -/
def DU (w0 w w' : World) : Prop := ∃ M : Nat → Prop, Upd M w w' ∧ ∀ k, M k → w0.heap.size ≤ k ∧ ∃ cur T, w.heap[k]? = some (.cells cur T (0, 0)) ∧ dT T
theorem mg_type {w : World} {d : Nat} {a : Option Addr} {c : Nat} {L : List Fv} {g : Option Nat} {s : St} {z : Option Fz} (h : DX w d a c L g s) (hz : Zs w g z) {k : Nat} (hk : Mg d g a k) : ∃ cur T, w.heap[k]? = some (.cells cur T (0, 0)) ∧ dT T := by
  rcases hk with hk | hk | ⟨o, hk⟩
  · subst hk; exact ⟨_, _, h.o, .inl rfl⟩
  · subst hk
    obtain ⟨cs, e⟩ := hz.type
    exact ⟨cs, _, e, .inr (.inl rfl)⟩
  · subst hk
    rcases h.l with ⟨_, ⟨e, _⟩ | ⟨g', cap, cur, e, _, hh, _⟩⟩
    · cases e
    · injection e with e1 _ _
      injection e1 with e1
      injection e1 with e1
      subst e1
      exact ⟨cur, _, hh, .inr (.inr rfl)⟩
section
variable {w0 w w' : World} {d : Nat} {g : Option Nat} {s : St} {z : Option Fz}
theorem Dx.keep (h : Dx w0 w d g s z) (k : Below w.heap.size w w') : Dx w0 w' d g s z := by
  obtain ⟨a, c, L, h1, h2⟩ := h.dx
  exact ⟨⟨a, c, L, h1.keep k, h2⟩, h.zs.keep k, h.b.trans (k.mono h.b.size), h.d0, h.g0⟩
theorem Dx.go {s' : St} {z' : Option Fz} (h : Dx w0 w d g s z) {a : Option Addr} {c : Nat} {L : List Fv} (h1 : DX w d a c L g s) (h2 : ∀ x : Addr, a = some x → w0.heap.size ≤ x.block)
    (k : ∃ a' c' L', DX w' d a' c' L' g s' ∧ Zs w' g z' ∧ Upd (Mg d g a) w w' ∧ (a' = a ∨ ∀ x, a' = some x → w.heap.size ≤ x.block) ∧ Gw w L L') : Dx w0 w' d g s' z' ∧ DU w0 w w' := by
  obtain ⟨a', c', L', k1, k2, k3, k4, _⟩ := k
  have hlo : ∀ k, Mg d g a k → w0.heap.size ≤ k := fun k hk => by
    rcases hk with hk | hk | ⟨o, hk⟩
    · subst hk; exact h.d0
    · exact h.g0 k hk
    · exact h2 _ hk
  refine ⟨⟨⟨a', c', L', k1, fun x e => ?_⟩, k2, Upd.below h.b k3 hlo h.b.size, h.d0, h.g0⟩, _, k3, fun k hk => ⟨hlo k hk, mg_type h1 h.zs hk⟩⟩
  rcases k4 with k4 | k4
  · subst k4; exact h2 x e
  · exact Nat.le_trans h.b.size (k4 x e)
theorem DU.block (u : DU w0 w w') {k : Nat} {cur : Array Value} {T : TypeId} (e : w.heap[k]? = some (.cells cur T (0, 0))) (h : ¬ dT T) : w'.heap[k]? = w.heap[k]? := by
  obtain ⟨M, u, hm⟩ := u
  refine u.block k (Array.getElem?_eq_some_iff.1 e).1 fun hk => ?_
  obtain ⟨_, cur', T', e', t⟩ := hm k hk
  rw [e] at e'
  injection e' with e'
  injection e' with _ e' _
  subst e'; exact h t
theorem DU.size (u : DU w0 w w') : w.heap.size ≤ w'.heap.size := by
  obtain ⟨M, u, _⟩ := u
  exact u.size
theorem DU.below (u : DU w0 w w') (b : Below w0.heap.size w0 w) : Below w0.heap.size w0 w' := by
  obtain ⟨M, u, hm⟩ := u
  exact Upd.below b u (fun k hk => (hm k hk).1) b.size
theorem DU.sown (u : DU w0 w w') {base : Nat} {v : Value} {L : List Sv} (h : SOwn w base v L) : SOwn w' base v L := by
  obtain ⟨M, u, hm⟩ := u
  refine sown_upd h u fun k cur e hk => ?_
  obtain ⟨_, cur', T', e', t⟩ := hm k hk
  rw [e] at e'
  injection e' with e'
  injection e' with _ e' _
  exact dT_str t e'.symm
/-- The program's disk stays as the document's turns. -/
theorem On.doc {p m : Nat} {q : Option Nat} {s1 : St} {z1 : Option Fz} (h : On w0 w p m q s1 z1) (u : DU w0 w w') : On w0 w' p m q s1 z1 := by
  obtain ⟨V, F, x⟩ := h.px
  have hb := u.below h.b
  obtain ⟨M, u, hm⟩ := u
  have hp : ¬ M p := fun k => by
    obtain ⟨_, cur, T, e, t⟩ := hm p k
    rw [x.o] at e
    injection e with e
    injection e with _ e _
    exact dT_sim t e.symm
  have hmm : ¬ M m := fun k => by
    obtain ⟨_, cur, T, e, t⟩ := hm m k
    obtain ⟨es, cl, hb, _⟩ := x.m
    rw [hb] at e
    injection e with e
    cases e
  refine ⟨⟨V, F, x.turn u (fun k e cur T t => ?_) hmm ((u.block p x.lt hp).trans x.o) rfl x.wf x.F0 x.F1⟩, h.fz.upd u (fun k e hk => ?_), hb, h.p0, h.m0, h.q0⟩
  · obtain ⟨_, cur', T', e', t'⟩ := hm k e
    rw [t] at e'
    injection e' with e'
    injection e' with _ e' _
    rw [e']; exact dT_u8 t'
  · obtain ⟨_, cur', T', e', t'⟩ := hm k hk
    have hz := h.fz
    rw [e] at hz
    obtain ⟨cs, e9⟩ := hz.type
    rw [e9] at e'
    injection e' with e'
    injection e' with _ e' _
    exact dT_fuse t' e'.symm
/-- The document's disk stays as the program's turns. -/
theorem Dx.prog {p m : Nat} {q : Option Nat} {s1 : St} {z1 : Option Fz} (h : Dx w0 w d g s z) (h1 : On w0 w p m q s1 z1) (u : Upd (Ms p m q) w w') : Dx w0 w' d g s z := by
  obtain ⟨V, F, x⟩ := h1.px
  obtain ⟨a, c, L, k1, k2⟩ := h.dx
  have ht : ∀ k, Ms p m q k → ∀ cur T, w.heap[k]? = some (.cells cur T (0, 0)) → T = 109 ∨ T = 102 := fun k e cur T t => by
    rcases e with e | e | e
    · subst e
      rw [x.o] at t
      injection t with t
      injection t with _ t _
      exact .inl t.symm
    · subst e
      obtain ⟨es, clock, hb, _⟩ := x.m
      rw [hb] at t
      injection t with t
      cases t
    · subst e
      obtain ⟨cs, hk⟩ := h1.fz.type
      rw [t] at hk
      injection hk with hk
      injection hk with _ hk _
      exact .inr hk
  refine ⟨⟨a, c, L, k1.turn u (fun k e cur T t => ?_) ?_ rfl k1.wf, k2⟩, h.zs.beside u (fun k e hk => ?_), Upd.below h.b u (fun i k => ?_) h.b.size, h.d0, h.g0⟩
  · rcases ht k e cur T t with t | t <;> subst t <;> decide
  · rw [u.block d k1.lt (fun e => ?_)]
    · exact k1.o
    · rcases ht d e _ _ k1.o with t | t <;> exact absurd t (by decide)
  · have hz := h.zs
    rw [e] at hz
    obtain ⟨cs, e9⟩ := hz.type
    rcases ht k hk _ _ e9 with t | t <;> exact absurd t (by decide)
  · rcases k with k | k | k
    · rw [k]; exact h1.p0
    · rw [k]; exact h1.m0
    · exact h1.q0 i k
theorem dx_write (h : Dx w0 w d g s z) (hb : Zb z) {x : ByteArray} (hx : x.size ≤ maxLen) {a : Option Addr} {n c : Nat} {b : ByteArray} (hi : Inp w a n c b) (hn : n ≤ maxLen) :
    Calls Tryz.prog 36 #[.pointer (some ⟨d, 0, none⟩), .string x, .slice a n c] w fun e w' => e = .returned (.int .i64 (wriZ z s x b).1) ∧ Dx w0 w' d g (wriZ z s x b).2 (askZ z s [x]).2.1 ∧ DU w0 w w' := by
  obtain ⟨A, C, L, k1, k2⟩ := h.dx
  refine (dwrite_any d A C L g s z x a n c b w k1 h.zs hb hx hi hn).mono ?_
  rintro e w' ⟨rfl, k⟩
  exact ⟨rfl, h.go k1 k2 k⟩
theorem dx_sync (h : Dx w0 w d g s z) (hb : Zb z) {x : ByteArray} (hx : x.size ≤ maxLen) :
    Calls Tryz.prog 37 #[.pointer (some ⟨d, 0, none⟩), .string x] w fun e w' => e = .returned (.int .i64 (synZ z s x).1) ∧ Dx w0 w' d g (synZ z s x).2 (askZ z s [x]).2.1 ∧ DU w0 w w' := by
  obtain ⟨A, C, L, k1, k2⟩ := h.dx
  refine (sync_any d A C L g s z x w k1 h.zs hb hx).mono ?_
  rintro e w' ⟨rfl, k⟩
  exact ⟨rfl, h.go k1 k2 k⟩
theorem dx_delete (h : Dx w0 w d g s z) (hb : Zb z) {x : ByteArray} (hx : x.size ≤ maxLen) :
    Calls Tryz.prog 65 #[.pointer (some ⟨d, 0, none⟩), .string x] w fun e w' => e = .returned (.int .i64 (delZ z s x).1) ∧ Dx w0 w' d g (delZ z s x).2 (askZ z s [x]).2.1 ∧ DU w0 w w' := by
  obtain ⟨A, C, L, k1, k2⟩ := h.dx
  refine (delete_any d A C L g s z x w k1 h.zs hb hx).mono ?_
  rintro e w' ⟨rfl, k⟩
  exact ⟨rfl, h.go k1 k2 k⟩
theorem dx_rename (h : Dx w0 w d g s z) (hb : Zb z) {x y : ByteArray} (hx : x.size ≤ maxLen) (hy : y.size ≤ maxLen) (hsm : x = y → there x s.fs = true → renS s.fs x y = s.fs) :
    Calls Tryz.prog 38 #[.pointer (some ⟨d, 0, none⟩), .string x, .string y] w fun e w' => e = .returned (.int .i64 (renZ z s x y).1) ∧ Dx w0 w' d g (renZ z s x y).2 (askZ z s [x, y]).2.1 ∧ DU w0 w w' := by
  obtain ⟨A, C, L, k1, k2⟩ := h.dx
  refine (drename_any d A C L g s z x y w k1 h.zs hb hx hy hsm).mono ?_
  rintro e w' ⟨rfl, k⟩
  exact ⟨rfl, h.go k1 k2 k⟩
theorem dx_list (h : Dx w0 w d g s z) (hb : Zb z) {x : ByteArray} (hx : x.size ≤ maxLen) :
    Calls Tryz.prog 67 #[.pointer (some ⟨d, 0, none⟩), .string x] w fun e w' => ∃ v M, e = .returned (.tuple #[v, .int .i64 (lisZ z s x).2]) ∧ Hid (SOwn w' w.heap.size v M ∧ (M.map fun y => y.s) = (lisZ z s x).1 ∧ Dx w0 w' d g (askZ z s []).2.2 (askZ z s []).2.1 ∧ DU w0 w w') := by
  obtain ⟨A, C, L, k1, k2⟩ := h.dx
  refine (list_any d A C L g s z x w k1 h.zs hb hx).mono ?_
  rintro e w' ⟨v, M, rfl, j1, j2, j3, j4, j5⟩
  exact ⟨v, M, rfl, j1, j2, h.go k1 k2 ⟨A, C, L, j3, j4, j5.mono fun _ _ k => Mg.of k, .inl rfl, Gw.refl _ _⟩⟩
/-- Bytes that came in stay as the document's disk is asked. -/
theorem inp_mk {p : Nat} {a : Option Addr} {c : Nat} {L : List Fv} (h : DX w p a c L g s) (hz : Zs w g z) (u : Upd (Mk p g) w w') {A : Option Addr} {n C : Nat} {b : ByteArray} (hi : Inp w A n C b) : Inp w' A n C b :=
  hi.upd u fun k o v hk => by
    rcases hk with hk | hk
    · subst hk
      intro e
      rw [cell_of_row w k o _ _ _ h.o] at e
      match o, e with
      | 0, e => simp at e
      | 1, e => simp at e
      | 2, e => simp at e
      | 3, e => simp at e
      | 4, e => simp at e
      | o + 5, e => simp at e
    · subst hk
      cases z with
      | none => exact absurd hz (by unfold Zs; exact id)
      | some y =>
        unfold Zs at hz
        intro e
        rw [cell_of_row w k o _ _ _ hz] at e
        match o, e with
        | 0, e => simp at e
        | 1, e => simp at e
        | 2, e => simp at e
        | o + 3, e => simp at e
theorem bts_inp {base : Nat} {v : Value} {x : ByteArray} (h : Bts w base v x) : ∃ a c, v = .slice a x.size c ∧ Inp w a x.size c x := by
  obtain ⟨f, h1, h2, h3⟩ := h
  rcases h2.2 with ⟨e1, e2⟩ | ⟨g, cap, cur, e1, _⟩
  · subst e1
    have e2' : x.size = 0 := e2
    have ex : x = ⟨#[]⟩ := ByteArray.ext (Array.eq_empty_of_size_eq_zero e2')
    subst ex
    exact ⟨none, 0, rfl, Inp.none w⟩
  · subst e1
    refine ⟨_, cap, rfl, ⟨⟨f, h1, ?_, h3⟩, rfl, fun e => by cases e⟩⟩
    by_cases k : 0 < x.size
    · obtain ⟨a', c', e, hr⟩ := h2.row k h1
      injection e with e1 _ e3
      rw [e1]
      exact hr.2.2.2
    · have : x.size = 0 := by omega
      rw [this]
      exact Row.zero _ _ h1
theorem dx_read (h : Dx w0 w d g s z) (hb : Zb z) {x : ByteArray} (hx : x.size ≤ maxLen) :
    Calls Tryz.prog 35 #[.pointer (some ⟨d, 0, none⟩), .string x] w fun e w' => ∃ a n c, e = .returned (.tuple #[.slice a n c, .int .i64 (readZ z s x).2]) ∧ Hid (Inp w' a n c (readZ z s x).1 ∧ Dx w0 w' d g (askZ z s [x]).2.2 (askZ z s [x]).2.1 ∧ DU w0 w w' ∧ ∀ A n C b, Inp w A n C b → Inp w' A n C b) := by
  obtain ⟨A, C, L, k1, k2⟩ := h.dx
  refine (read_any d A C L g s z x w k1 h.zs hb hx).mono ?_
  rintro e w' ⟨v, rfl, j1, j3, j4, j5⟩
  obtain ⟨a, c, rfl, hi⟩ := bts_inp j1
  obtain ⟨l1, l2⟩ := h.go k1 k2 ⟨A, C, L, j3, j4, j5.mono fun _ _ k => Mg.of k, .inl rfl, Gw.refl _ _⟩
  exact ⟨a, _, c, rfl, hi, l1, l2, fun A n C b hi => inp_mk k1 h.zs j5 hi⟩
end
/-- A disk of the document is made behind w0. -/
theorem dx_new (w0 w : World) (b : Below w0.heap.size w0 w) (g : Option Nat) (z : Option Fz) (hz : Zs w g z) (hg : ∀ k, g = some k → w0.heap.size ≤ k) (mo : Int) (hm0 : -9223372036854775808 ≤ mo) (hm1 : mo ≤ 9223372036854775807) :
    Calls Tryz.prog 28 #[.int .i64 mo, .pointer (g.map fun k => ⟨k, 0, none⟩)] w fun e w' => e = .returned (.pointer (some ⟨w.heap.size, 0, none⟩)) ∧ Dx w0 w' w.heap.size g (newSt mo) z ∧ Below w.heap.size w w' := by
  refine (newdisk_any mo g w hm0 hm1).mono ?_
  rintro e w' ⟨rfl, k1, k2⟩
  exact ⟨rfl, ⟨⟨none, 0, [], k1, fun x e => by cases e⟩, hz.keep k2, b.trans (k2.mono b.size), b.size, hg⟩, k2⟩
theorem on_same {w0 w : World} {p m : Nat} {q : Option Nat} {s : St} {z : Option Fz} (h : On w0 w p m q s z) {x y : ByteArray} (e : x = y) (t : there x s.fs = true) : renS s.fs x y = s.fs := by
  subst e
  obtain ⟨V, F, k⟩ := h.px
  rw [k.f] at t ⊢
  exact ren_same k.r t
/-- What no operation changes. -/
structure Nx (s s' : St) : Prop where
  m : s'.most = s.most
  o : s.off = false → s'.off = false
  b : s.bad = 0 → s'.bad = 0
  k : (∀ f ∈ s.fs, 1 ≤ f.path.size) → ∀ f ∈ s'.fs, 1 ≤ f.path.size
theorem Nx.refl (s : St) : Nx s s := ⟨rfl, id, id, id⟩
theorem nx_ask (z : Option Fz) (s : St) (ps : List ByteArray) : Nx s (askZ z s ps).2.2 := by
  have hD : Nx s (askD s ps).2 := by
    unfold askD
    split
    · exact Nx.refl s
    · split
      · exact ⟨rfl, id, (fun h => by rename_i k; rw [h] at k; exact absurd k (by decide)), id⟩
      · split <;> exact Nx.refl s
  cases h : blB z with
  | true => rw [(ask_blown s ps h).2.1]; exact Nx.refl s
  | false => rw [(ask_parts z s ps h).2.1]; exact hD
theorem Nx.fs {s s' : St} (h : Nx s s') (l : List Fl) (k : (∀ f ∈ s.fs, 1 ≤ f.path.size) → ∀ f ∈ l, 1 ≤ f.path.size) : Nx s { s' with fs := l } := ⟨h.m, h.o, h.b, k⟩
theorem Nx.trans {a b c : St} (h : Nx a b) (k : Nx b c) : Nx a c := ⟨k.m.trans h.m, fun e => k.o (h.o e), fun e => k.b (h.b e), fun e => k.k (h.k e)⟩
theorem ask_okp {z : Option Fz} {s : St} {ps : List ByteArray} (h : (askZ z s ps).1 = 0) : ∀ p ∈ ps, 1 ≤ p.size := by
  have hD : (askD s ps).1 = 0 → ∀ p ∈ ps, 1 ≤ p.size := fun h => by
    unfold askD at h
    split at h
    · cases h
    · split at h
      · cases h
      · split at h
        · next e =>
          intro p hp
          exact (okPath_iff.1 (List.all_eq_true.1 e p hp)).1
        · cases h
  cases hz : blB z with
  | true => rw [(ask_blown s ps hz).1] at h; cases h
  | false => rw [(ask_parts z s ps hz).1] at h; exact hD h
theorem mem_cut {l : List Fl} {i : Nat} {f : Fl} (h : f ∈ Dk.cut l i) : f ∈ l := by
  unfold Dk.cut at h
  rcases List.mem_append.1 h with k | k
  · exact List.mem_of_mem_take k
  · exact List.mem_of_mem_drop k
theorem mem_put {l : List Fl} {g f : Fl} (h : f ∈ Dk.put l g) : f = g ∨ f ∈ l := by
  unfold Dk.put at h
  split at h
  · rcases List.mem_or_eq_of_mem_set h with k | k
    · exact .inr k
    · exact .inl k
  · rcases List.mem_append.1 h with k | k
    · exact .inr (List.mem_of_mem_take k)
    · rcases List.mem_cons.1 k with k | k
      · exact .inl k
      · exact .inr (List.mem_of_mem_drop k)
theorem mem_sure {f : Fl} : ∀ {l : List Fl} {i : Nat}, f ∈ setSure l i → ∃ f' ∈ l, f.path = f'.path
  | [], i, h => by unfold setSure at h; simp at h
  | x :: l, 0, h => by
    unfold setSure at h
    rw [List.modify_zero_cons] at h
    rcases List.mem_cons.1 h with k | k
    · exact ⟨x, List.mem_cons_self, by rw [k]⟩
    · exact ⟨f, List.mem_cons_of_mem _ k, rfl⟩
  | x :: l, i + 1, h => by
    unfold setSure at h
    rw [List.modify_succ_cons] at h
    rcases List.mem_cons.1 h with k | k
    · exact ⟨x, List.mem_cons_self, by rw [k]⟩
    · obtain ⟨f', h1, h2⟩ := mem_sure (l := l) (i := i) k
      exact ⟨f', List.mem_cons_of_mem _ h1, h2⟩
theorem nx_wri (z : Option Fz) (s : St) (x b : ByteArray) : Nx s (wriZ z s x b).2 := by
  unfold wriZ
  split
  · exact nx_ask z s [x]
  · next e =>
    split
    · exact nx_ask z s [x]
    · split
      · exact nx_ask z s [x]
      · refine (nx_ask z s [x]).fs _ fun h f hf => ?_
        rcases mem_put hf with k | k
        · subst k; exact ask_okp (by simpa using e) x (by simp)
        · exact h f k
theorem nx_syn (z : Option Fz) (s : St) (x : ByteArray) : Nx s (synZ z s x).2 := by
  unfold synZ
  split
  · exact nx_ask z s [x]
  · split
    · refine (nx_ask z s [x]).fs _ fun h f hf => ?_
      obtain ⟨f', h1, h2⟩ := mem_sure hf
      rw [h2]; exact h f' h1
    · exact nx_ask z s [x]
theorem nx_del (z : Option Fz) (s : St) (x : ByteArray) : Nx s (delZ z s x).2 := by
  unfold delZ
  split
  · exact nx_ask z s [x]
  · split
    · exact (nx_ask z s [x]).fs _ fun h f hf => h f (mem_cut hf)
    · exact nx_ask z s [x]
theorem nx_ren (z : Option Fz) (s : St) (x y : ByteArray) : Nx s (renZ z s x y).2 := by
  unfold renZ
  split
  · exact nx_ask z s [x, y]
  · next e =>
    split
    · refine (nx_ask z s [x, y]).fs _ fun h f hf => ?_
      unfold renS at hf
      rcases mem_put hf with k | k
      · subst k; exact ask_okp (ps := [x, y]) (by simpa using e) y (by simp)
      · exact h f (mem_cut k)
    · exact nx_ask z s [x, y]
end Go.Proofs.YtebngmgdciahiaaGreatDoor
