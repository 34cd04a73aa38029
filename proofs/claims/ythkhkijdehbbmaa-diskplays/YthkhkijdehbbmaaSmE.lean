/-
  A file is found; Read, Delete, Sync, Look.
-/
import Derived.Test.YthkhkijdehbbmaaSmD
set_option maxRecDepth 100000
namespace Go.Proofs.Ythkhkijdehbbmaa
open Go.RowKit Dk Nm
attribute [local go_sem ↓] Go.wp_at_zero Go.wp_at_succ
set_option linter.unusedVariables false

def fndZ (z : Option Fz) (s : St) (x : ByteArray) : Int := if (askZ z s [x]).1 ≠ 0 then (askZ z s [x]).1 else if there x s.fs = true then 0 else 6
/-- What finding a file leaves. -/
def FindEnd (p m : Nat) (V : List Fv) (q : Option Nat) (s : St) (z : Option Fz) (x : ByteArray) (M : List Fv) (w : World) (e : Ending) (w' : World) : Prop :=
  ∃ t F, e = .returned (.tuple #[vl t, .int .i64 (fndZ z s x)]) ∧ ((fndZ z s x = 0 ∧ (askZ z s [x]).1 = 0 ∧ there x s.fs = true ∧ t = top M) ∨ (fndZ z s x ≠ 0 ∧ ((askZ z s [x]).1 = 0 → there x s.fs = false) ∧ t = zeroF)) ∧
    PX w' p m V q (askZ z s [x]).2.2 F ∧ FZ w' q (askZ z s [x]).2.1 ∧ Upd (Mk p q) w w'
theorem strs1 (w : World) (x : ByteArray) : Strs (w.alloc (.cells #[.string x] 9)) (some ⟨w.heap.size, 0, none⟩) [x] := fun _ => ⟨w.heap.size, 0, rfl, fun i hi => by
  have : i = 0 := by simpa using hi
  subst this
  simp⟩
/-- A block of two cells that is written. -/
theorem two_set {w : World} {g : Nat} {u v : Value} {ty : TypeId} {cs : Array Value} (h : w.heap[g]? = some (.cells #[u, v] ty)) (a b : Value) :
    ((w.setCell ⟨g, 0, none⟩ a).setCell ⟨g, 1, none⟩ b).heap[g]? = some (.cells #[a, b] ty) := by
  have h1 := heap_setCell_same w g 0 _ _ a h
  have h2 := heap_setCell_same _ g 1 _ _ b h1
  rw [h2]; rfl
theorem two_upd {w : World} {g : Nat} (a b : Value) : Upd (fun k => k = g) w ((w.setCell ⟨g, 0, none⟩ a).setCell ⟨g, 1, none⟩ b) :=
  Upd.put (M := fun k => k = g) (Upd.put (M := fun k => k = g) (Upd.refl _ w) (p := ⟨g, 0, none⟩) (.inl rfl) _) (p := ⟨g, 1, none⟩) (.inl rfl) _
set_option maxHeartbeats 4000000 in
theorem find_any (p m : Nat) (V : List Fv) (q : Option Nat) (s : St) (F : Int) (z : Option Fz) (x : ByteArray) (A M B : List Fv) (w : World) (h : PX w p m V q s F) (hz : FZ w q z) (hb : Zb z) (P : Part V x A M B) (hx : x.size ≤ maxLen) :
    Calls Try.prog 38 #[.pointer (some ⟨p, 0, none⟩), .string x] w (FindEnd p m V q s z x M w) := by
  obtain ⟨W0, hW0⟩ : ∃ W, w.alloc (.cells #[.slice none 0 0, .bool false] 74) = W := ⟨_, rfl⟩
  have b0 : Below w.heap.size w W0 := by rw [← hW0]; exact bal _ _
  have z0 : W0.heap[w.heap.size]? = some (.cells #[.slice none 0 0, .bool false] 74) := by rw [← hW0]; exact heap_alloc_new _ _
  have n0 : W0.heap.size = w.heap.size + 1 := by rw [← hW0]; simp
  obtain ⟨W, hW⟩ : ∃ W, W0.alloc (.cells #[.string x] 9) = W := ⟨_, rfl⟩
  have b1 : Below w.heap.size w W := by rw [← hW]; exact b0.trans ((bal _ _).mono (by omega))
  have hS : Strs W (some ⟨W0.heap.size, 0, none⟩) [x] := by
    have := strs1 W0 x
    rw [hW] at this
    exact this
  have z1 : W.heap[w.heap.size]? = some (.cells #[.slice none 0 0, .bool false] 74) := by
    rw [← hW, (bal W0 _).block w.heap.size (by omega)]; exact z0
  have cA := pask_any p m V q s F z (some ⟨W0.heap.size, 0, none⟩) 1 [x] W (h.keep b1) (hz.keep b1) hb hS (by show 1 ≤ 1000; omega)
  have hql : ∀ k, q = some k → k < w.heap.size := fun k e => by
    subst e
    obtain ⟨cs, hk⟩ := hz.type
    exact (Array.getElem?_eq_some_iff.1 hk).1
  have hpl := h.lt
  obtain ⟨g, hg⟩ : ∃ g, w.heap.size = g := ⟨_, rfl⟩
  rw [hg] at z1 hpl
  have hfs : (askZ z s [x]).2.2.fs = s.fs := askZ_fs z s [x]
  obtain ⟨d, hd⟩ : ∃ d, fndZ z s x = d := ⟨_, rfl⟩
  have hdl := hd
  unfold fndZ at hdl
  have HE : Hid (∀ t F e w', e = .returned (.tuple #[vl t, .int .i64 d]) → ((d = 0 ∧ (askZ z s [x]).1 = 0 ∧ there x s.fs = true ∧ t = top M) ∨ (d ≠ 0 ∧ ((askZ z s [x]).1 = 0 → there x s.fs = false) ∧ t = zeroF)) → PX w' p m V q (askZ z s [x]).2.2 F → FZ w' q (askZ z s [x]).2.1 → Upd (Mk p q) w w' → FindEnd p m V q s z x M w e w') := by
    intro t F e w' h1 h2 h3 h4 h5
    refine ⟨t, F, ?_, ?_, h3, h4, h5⟩
    · rw [hd]; exact h1
    · rw [hd]; exact h2
  generalize hPP : FindEnd p m V q s z x M w = PP at *
  obtain ⟨e0, he0⟩ : ∃ e0, (askZ z s [x]).1 = e0 := ⟨_, rfl⟩
  obtain ⟨s1, hs1⟩ : ∃ s1, (askZ z s [x]).2.2 = s1 := ⟨_, rfl⟩
  obtain ⟨zz, hzz⟩ : ∃ zz, (askZ z s [x]).2.1 = zz := ⟨_, rfl⟩
  rw [he0, hs1, hzz] at cA HE
  rw [he0] at hdl
  rw [hs1] at hfs
  have HB1 : Hid (Upd (Mk p q) w W) := Upd.of b1
  have HG : Hid (w.heap.size = g) := hg
  have HZ1 : Hid (W.heap[g]? = some (.cells #[.slice none 0 0, .bool false] 74)) := z1
  have HNG : Hid (¬ Mk p q g) := fun k => by
    rcases k with k | k
    · omega
    · have := hql g k; omega
  have HDL : Hid ((if e0 ≠ 0 then e0 else if there x s.fs = true then 0 else 6) = d) := hdl
  have HFS : Hid (s1.fs = s.fs) := hfs
  have HP : Hid (Part V x A M B) := P
  have HX : Hid (x.size ≤ maxLen) := hx
  have cA1 : Calls Try.prog 32 #[.pointer (some ⟨p, 0, none⟩), .slice (some ⟨W0.heap.size, 0, none⟩) 1 1] W (PAsk p m V q e0 s1 zz W) := cA
  clear h hz hb P hx z0 b0 z1 b1 hS hql hpl hfs hd hdl hPP he0 hs1 hzz n0 cA
  go_enter Try.func38, Try.ntmps38
  go_wp2_with fail
  go_at_call 32
  refine cA1.mono ?_
  rintro e w1 ⟨rfl, F1, h1, hz1, u1⟩
  clear cA1
  have hgW : g < W.heap.size := (Array.getElem?_eq_some_iff.1 HZ1.out).1
  have zc : w1.heap[g]? = some (.cells #[.slice none 0 0, .bool false] 74) := (u1.block g hgW HNG.out).trans HZ1.out
  have g0 := cell_of_row w1 g 0 _ _ _ zc
  have g1 := cell_of_row w1 g 1 _ _ _ zc
  have gf : ∀ j, w1.frozen? ⟨g, j, none⟩ = false := fun j => frozen_of_row w1 g j _ _ zc
  simp only [List.getElem?_toArray, List.getElem?_cons_zero, List.getElem?_cons_succ] at g0 g1
  have HZC : Hid (w1.heap[g]? = some (.cells #[.slice none 0 0, .bool false] 74)) := zc
  have HD1 : Hid (PX w1 p m V q s1 F1) := h1
  have HZZ : Hid (FZ w1 q zz) := hz1
  have HU1 : Hid (Upd (Mk p q) w w1) := HB1.out.trans u1
  clear u1 hz1 zc hgW hW hW0
  by_cases k0 : e0 = 0
  · subst k0
    have lk := (h1.look HP.out HX.out).1
    rw [HFS.out] at lk
    have d0 := h1.c0
    obtain ⟨⟨ta, tn, tc⟩, htv⟩ : ∃ y : Option Addr × Nat × Nat, (top M).bv = y := ⟨_, rfl⟩
    obtain ⟨ts, hts'⟩ : ∃ ts, (top M).sure = ts := ⟨_, rfl⟩
    have htl : vl (top M) = .agg #[.slice ta tn tc, .bool ts] := by unfold vl; rw [htv, hts']
    have HTL : Hid (vl (top M) = .agg #[.slice ta tn tc, .bool ts]) := htl
    rw [htl] at lk
    obtain ⟨w2, hw2⟩ : ∃ w2, w1.alloc (.cells #[.slice ta tn tc, .bool ts] 74) = w2 := ⟨_, rfl⟩
    have b2 : Below w1.heap.size w1 w2 := by rw [← hw2]; exact bal _ _
    have hgl : g < w1.heap.size := (Array.getElem?_eq_some_iff.1 HZC.out).1
    have z2 : w2.heap[g]? = some (.cells #[.slice none 0 0, .bool false] 74) := (b2.block g hgl).trans HZC.out
    have y0 := cell_of_row w2 g 0 _ _ _ z2
    have y1 := cell_of_row w2 g 1 _ _ _ z2
    have yf : ∀ j, w2.frozen? ⟨g, j, none⟩ = false := fun j => frozen_of_row w2 g j _ _ z2
    simp only [List.getElem?_toArray, List.getElem?_cons_zero, List.getElem?_cons_succ] at y0 y1
    have x0 : w2.cell? ⟨w1.heap.size, 0, none⟩ = some (.slice ta tn tc) := by rw [← hw2]; simp
    have x1 : w2.cell? ⟨w1.heap.size, 1, none⟩ = some (.bool ts) := by rw [← hw2]; simp
    have HB2 : Hid (Below w1.heap.size w1 w2) := b2
    have HGL : Hid (w.heap.size ≤ g) := by unfold Hid; omega
    have HZ2 : Hid (w2.heap[g]? = some (.cells #[.slice none 0 0, .bool false] 74)) := z2
    clear htl htv hts' h1 g0 g1 gf z2 b2
    have fin : ∀ (a : Option Addr) (n c : Nat) (b : Bool) (w3 : World), (w2.setCell ⟨g, 0, none⟩ (.slice a n c)).setCell ⟨g, 1, none⟩ (.bool b) = w3 → Hid (w3.cell? ⟨g, 0, none⟩ = some (.slice a n c) ∧ w3.cell? ⟨g, 1, none⟩ = some (.bool b) ∧ PX w3 p m V q s1 F1 ∧ FZ w3 q zz ∧ Upd (Mk p q) w w3) := by
      intro a n c b w3 e
      subst e
      have t := two_set (cs := #[]) HZ2.out (.slice a n c) (.bool b)
      have u := two_upd (w := w2) (g := g) (.slice a n c) (.bool b)
      have X2 := HD1.out.keep HB2.out
      have Z2 := HZZ.out.keep HB2.out
      refine ⟨cell_of_row _ g 0 _ _ _ t, cell_of_row _ g 1 _ _ _ t, ?_, ?_, ?_⟩
      · refine X2.turn u (fun k hk cur T e => ?_) (fun e => ?_) ?_ rfl X2.wf X2.F0 X2.F1
        · subst hk
          rw [HZ2.out] at e
          injection e with e
          injection e with _ e _
          subst e; decide
        · subst e
          obtain ⟨es, clock, hbb, _⟩ := X2.m
          rw [hbb] at HZ2
          have := HZ2.out
          injection this with this
          cases this
        · rw [u.block p X2.lt (fun e => HNG.out (.inl e.symm))]; exact X2.o
      · exact Z2.upd u fun k e k2 => HNG.out (.inr (by rw [e, k2]))
      · exact (HU1.out.after HB2.out).then u (fun i hi e => by have := HGL.out; omega)
    cases ht : there x s.fs with
    | true =>
      rw [ht] at lk
      have HDE : Hid (d = 0) := by have := HDL.out; rw [if_neg (fun k => k rfl), if_pos ht] at this; exact this.symm
      have HTH : Hid (there x s.fs = true) := ht
      obtain ⟨w3, hw3⟩ : ∃ w3, (w2.setCell ⟨g, 0, none⟩ (.slice ta tn tc)).setCell ⟨g, 1, none⟩ (.bool ts) = w3 := ⟨_, rfl⟩
      have HF := fin _ _ _ _ _ hw3
      have r0 := HF.out.1
      have r1 := HF.out.2.1
      clear ht fin
      go_wp2
      exact bodyPost_ret (v := .tuple #[.agg #[.slice ta tn tc, .bool ts], .int .i64 0]) (by simp [results, Try.results38, go_sem, r0, r1]) rfl (HE.out (top M) F1 _ _ (by rw [HTL.out, HDE.out] <;> rfl) (.inl ⟨HDE.out, by trivial, HTH.out, rfl⟩) HF.out.2.2.1 HF.out.2.2.2.1 HF.out.2.2.2.2)
    | false =>
      rw [ht] at lk
      have HDE : Hid (d = 6) := by have := HDL.out; rw [if_neg (fun k => k rfl), if_neg (by rw [ht]; decide)] at this; exact this.symm
      have HTH : Hid (there x s.fs = false) := ht
      obtain ⟨w3, hw3⟩ : ∃ w3, (w2.setCell ⟨g, 0, none⟩ (.slice none 0 0)).setCell ⟨g, 1, none⟩ (.bool false) = w3 := ⟨_, rfl⟩
      have HF := fin _ _ _ _ _ hw3
      have r0 := HF.out.1
      have r1 := HF.out.2.1
      clear ht fin
      go_wp2
      exact bodyPost_ret (v := .tuple #[.agg #[.slice none 0 0, .bool false], .int .i64 6]) (by simp [results, Try.results38, go_sem, r0, r1]) rfl (HE.out zeroF F1 _ _ (by rw [HDE.out] <;> rfl) (.inr ⟨by rw [HDE.out]; decide, fun _ => HTH.out, rfl⟩) HF.out.2.2.1 HF.out.2.2.2.1 HF.out.2.2.2.2)
  · have k1 : (e0 == 0) = false := by simpa using k0
    have HDE : Hid (d = e0) := by have := HDL.out; rw [if_pos k0] at this; exact this.symm
    have HK : Hid (e0 ≠ 0) := k0
    obtain ⟨w3, hw3⟩ : ∃ w3, (w1.setCell ⟨g, 0, none⟩ (.slice none 0 0)).setCell ⟨g, 1, none⟩ (.bool false) = w3 := ⟨_, rfl⟩
    have hgw := HG.out
    have HF : Hid (w3.cell? ⟨g, 0, none⟩ = some (.slice none 0 0) ∧ w3.cell? ⟨g, 1, none⟩ = some (.bool false) ∧ PX w3 p m V q s1 F1 ∧ FZ w3 q zz ∧ Upd (Mk p q) w w3) := by
      rw [← hw3]
      have t := two_set (cs := #[]) HZC.out (.slice none 0 0) (.bool false)
      have u := two_upd (w := w1) (g := g) (.slice none 0 0) (.bool false)
      refine ⟨cell_of_row _ g 0 _ _ _ t, cell_of_row _ g 1 _ _ _ t, ?_, ?_, ?_⟩
      · refine h1.turn u (fun k hk cur T e => ?_) (fun e => ?_) ?_ rfl h1.wf h1.F0 h1.F1
        · subst hk
          rw [HZC.out] at e
          injection e with e
          injection e with _ e _
          subst e; decide
        · subst e
          obtain ⟨es, clock, hbb, _⟩ := h1.m
          rw [hbb] at HZC
          have := HZC.out
          injection this with this
          cases this
        · rw [u.block p h1.lt (fun e => HNG.out (.inl e.symm))]; exact h1.o
      · exact HZZ.out.upd u fun k e k2 => HNG.out (.inr (by rw [e, k2]))
      · exact HU1.out.then u (fun i hi e => by omega)
    have r0 := HF.out.1
    have r1 := HF.out.2.1
    clear h1 k0
    go_wp2
    exact bodyPost_ret (v := .tuple #[.agg #[.slice none 0 0, .bool false], .int .i64 e0]) (by simp [results, Try.results38, go_sem, r0, r1]) rfl (HE.out zeroF F1 _ _ (by rw [HDE.out] <;> rfl) (.inr ⟨by rw [HDE.out]; exact HK.out, fun e => absurd e HK.out, rfl⟩) HF.out.2.2.1 HF.out.2.2.2.1 HF.out.2.2.2.2)
end Go.Proofs.Ythkhkijdehbbmaa
