/-
  What the document's Add answers.
-/
import Derived.Test.YtigjhdcinaefbaaDoorJnB
import Derived.Test.YtigjhdcinaefbaaDoorJnRm
import Derived.Deep.DeepCutAuto
import Derived.Deep.RegionLaw
namespace Go.Proofs.YtigjhdcinaefbaaDoor
open Go.RowKit Crc
attribute [local go_sem ↓] Go.wp_at_zero Go.wp_at_succ
set_option linter.unusedVariables false

/-- One version that was just written out, as a row. -/
theorem litV (w : World) (v : Ver) (hv : v.fits) : Vs (w.alloc (.cells #[.int .i64 v.id, .bool v.mr, .int .i64 v.sz, .int .u32 (v.sm : Int)] 46)) (some ⟨w.heap.size, 0, none⟩) 1 (fun _ => v) := by
  have h : VerB (w.alloc (.cells #[.int .i64 v.id, .bool v.mr, .int .i64 v.sz, .int .u32 (v.sm : Int)] 46)) w.heap.size v := heap_alloc_new _ _
  exact ⟨fun _ => hv, fun _ => ⟨w.heap.size, 0, rfl, fun i hi => by
    obtain rfl : i = 0 := by omega
    exact h.at⟩⟩
theorem catV_one (n : Nat) (F : Nat → Ver) (v : Ver) (i : Nat) (hi : i < n + 1) : catV n F (fun _ => v) i = upd F n v i := by
  unfold catV upd
  by_cases h : i < n
  · rw [if_pos h, if_neg (by omega)]
  · rw [if_neg h, if_pos (by omega)]
theorem JB.grown {w W : World} {base n p : Nat} {v x : Value} {F : Nat → Ver} {t : Int} {s : ByteArray} {ty : TypeId} (o : VOwn w base v n F) (g : w.grownBy W v.ownBlock) (ht : ty ≠ 46) (h : JB w p t s x ty) : JB W p t s x ty := VOwn.grown o g ht h

/-- A journal whose versions are written anew. -/
structure AddMid (w : World) (p r : Nat) (t : Int) (s : ByteArray) (a : Option Addr) (n c : Nat) (F : Nat → Ver) (ty : TypeId) : Prop where
  j : JB w p t s (.slice a n c) ty
  vs : Vs w a n F
  z : a = none → n = 0 ∧ c = 0
  c : n ≤ c
  r : JB w r 0 noS (.slice none 0 0) ty
theorem addMid {Z : World} {base p r n c2 : Nat} {a2 : Option Addr} {x : Value} {t : Int} {s : ByteArray} {F : Nat → Ver} {ty : TypeId} (o : VOwn Z base (.slice a2 n c2) n F) (hF : ∀ i, (F i).fits) (hj : JB Z p t s x ty) (hr : JB Z r 0 noS (.slice none 0 0) ty) (hpr : r ≠ p) (ht : ty ≠ 46) :
    AddMid (Z.setCell ⟨p, 2, none⟩ (.slice a2 n c2)) p r t s a2 n c2 F ty := by
  have o' : VOwn (Z.setCell ⟨p, 2, none⟩ (.slice a2 n c2)) base (.slice a2 n c2) n F := o.put fun cur hY => by
    unfold JB at hj
    rw [hj] at hY
    injection hY with hY
    injection hY with _ hY _
    exact ht hY
  obtain ⟨a', c', e, hvs, hz, hc, _⟩ := o'.vs hF
  injection e with e1 e2 e3
  subst e1; subst e3
  refine ⟨heap_setCell_same _ p 2 _ _ _ hj, hvs, hz, hc, ?_⟩
  unfold JB
  rw [Below.heap_setCell _ _ _ _ hpr]; exact hr

set_option maxRecDepth 100000 in
set_option maxHeartbeats 4000000 in
theorem radd_any (t : Int) (s : ByteArray) (a : Option Addr) (n c : Nat) (F : Nat → Ver) (v : Ver) (w : World) (hF : Vs w a n F) (z : a = none → n = 0 ∧ c = 0) (hv : v.fits) (hs : s.size ≤ maxLen) (hn : n ≤ maxLen) :
    Calls Tryd.prog 25 #[jv t s (.slice a n c), vv v] w (AddEnd t s n F v w) := by
  obtain ⟨W, hW⟩ : ∃ W, w.alloc (.cells #[.int .i64 t, .string s, .slice a n c] 24) = W := ⟨_, rfl⟩
  have hb : Below w.heap.size w W := by rw [← hW]; exact bal _ _
  have hj : JB W w.heap.size t s (.slice a n c) 24 := by rw [← hW]; exact heap_alloc_new _ _
  obtain ⟨W1, hW1⟩ : ∃ W1, W.alloc (.cells #[.int .i64 v.id, .bool v.mr, .int .i64 v.sz, .int .u32 (v.sm : Int)] 46) = W1 := ⟨_, rfl⟩
  have b1 : Below W.heap.size W W1 := by rw [← hW1]; exact bal _ _
  have hv1 : VerB W1 W.heap.size v := by rw [← hW1]; exact heap_alloc_new _ _
  obtain ⟨W2, hW2⟩ : ∃ W2, W1.alloc (.cells #[.int .i64 0, .string noS, .slice none 0 0] 24) = W2 := ⟨_, rfl⟩
  have b2 : Below W1.heap.size W1 W2 := by rw [← hW2]; exact bal _ _
  have hr2 : JB W2 W1.heap.size 0 noS (.slice none 0 0) 24 := by rw [← hW2]; exact heap_alloc_new _ _
  have hj2 := hj.keep (hop b1 b2)
  have hv2 := hv1.keep b2
  have hF2 := hF.keep (hop hb (hop b1 b2))
  have HB2 : Hid (Below w.heap.size w W2) := hop hb (hop b1 b2)
  have hl1 : w.heap.size ≤ W1.heap.size := Nat.le_trans hb.size b1.size
  have hl2 : W1.heap.size < W2.heap.size := (Array.getElem?_eq_some_iff.1 hr2).1
  have hl3 : w.heap.size < W1.heap.size := Nat.lt_of_lt_of_le (Array.getElem?_eq_some_iff.1 hj).1 b1.size
  have HFF : Hid (∀ i, (F i).fits) := hF.ft
  clear hF hj hb b1 b2 hv1
  obtain ⟨c0, c1, c2⟩ := hj2.at
  obtain ⟨d0, d1, d2⟩ := hr2.at
  have fr2 : ∀ j, W2.frozen? ⟨W1.heap.size, j, none⟩ = false := hr2.soft
  obtain ⟨x0, x1, x2, x3⟩ := hv2.at
  unfold maxLen at hn
  by_cases h64 : 64 ≤ n
  · have HE : Hid (∀ w', Below w.heap.size w w' → AddEnd t s n F v w (.returned (.tuple #[nojn, .int .i64 18])) w') := fun w' h => ⟨.inl ⟨h64, rfl⟩, h⟩
    have g0 : (64 : Int) ≤ (n : Int) := by omega
    clear hF2 hj2 hr2 hv2
    unfold jv vv noS at *
    go_enter Tryd.func25, Tryd.ntmps25
    go_wp2_with fail
    exact bodyPost_ret (v := .tuple #[nojn, .int .i64 18]) (by simp [results, Tryd.results25, go_sem, nojn, jv, noS, *]) rfl (HE.out _ (below3 HB2.out hl1 _ _ _))
  have g0 : decide ((64 : Int) ≤ (n : Int)) = false := decide_eq_false (by omega)
  obtain ⟨D, hD⟩ : ∃ D, W2.drew = D := ⟨_, rfl⟩
  have bD : Below W2.heap.size W2 D := by rw [← hD]; exact (Below.refl _ _).drew
  have hDs : D.heap.size = W2.heap.size := by rw [← hD]; rfl
  -- the first order: append, then the literal
  obtain ⟨v1, Y1, hr1, o1, _, bY1⟩ := appendV (c := c) (VOwn.start D W2.heap.size F) (hF2.keep bD) z (by omega) (by omega)
  rw [Nat.zero_add, catV_zero] at o1
  have bLit : Below Y1.heap.size Y1 (Y1.alloc (.cells #[.int .i64 v.id, .bool v.mr, .int .i64 v.sz, .int .u32 (v.sm : Int)] 46)) := bal _ _
  obtain ⟨v2, Z, hr2', o2, _, bZ⟩ := appendV (c := 1) (o1.keep bLit) (litV Y1 v hv) (fun e => by cases e) (by omega) (Nat.le_trans (Nat.le_trans bD.size bY1.size) bLit.size)
  have bWZ : Below W2.heap.size W2 Z := (bD.trans bY1).trans ((bLit.mono (Nat.le_trans bD.size bY1.size)).trans bZ)
  -- the second order: the literal, then append
  obtain ⟨E, hE⟩ : ∃ E, D.alloc (.cells #[.int .i64 v.id, .bool v.mr, .int .i64 v.sz, .int .u32 (v.sm : Int)] 46) = E := ⟨_, rfl⟩
  have bE : Below D.heap.size D E := by rw [← hE]; exact bal _ _
  have lE : Vs E (some ⟨D.heap.size, 0, none⟩) 1 (fun _ => v) := by rw [← hE]; exact litV D v hv
  have hEs : E.heap.size = D.heap.size + 1 := by rw [← hE]; show (D.heap.push _).size = _; simp
  obtain ⟨v1', Y1', hr1', o1', _, bY1'⟩ := appendV (c := c) (VOwn.start E E.heap.size F) (hF2.keep (hop bD bE)) z (by omega) (Nat.le_refl _)
  rw [Nat.zero_add, catV_zero] at o1'
  obtain ⟨v2', Z', hr2'', o2', _, bZ'⟩ := appendV (c := 1) o1' (lE.keep bY1') (fun e => by cases e) (by omega) bY1'.size
  have bWZ' : Below W2.heap.size W2 Z' := (hop bD bE).trans ((bY1'.mono (by omega)).trans (bZ'.mono (by omega)))
  have hc2 : ∀ i, i < n + 1 → catV n F (fun _ => v) i = upd F n v i := catV_one n F v
  have fu := upd_fits (n := n) HFF.out hv
  have o2c := o2.congr hc2
  have o2c' := o2'.congr hc2
  obtain ⟨a1, k1, rfl, _⟩ := o1.vs HFF.out
  obtain ⟨a2, k2, rfl, _⟩ := o2c.vs fu
  obtain ⟨a3, k3, rfl, _⟩ := o1'.vs HFF.out
  obtain ⟨a4, k4, rfl, _⟩ := o2c'.vs fu
  have KA : Hid (AddMid (Z.setCell ⟨w.heap.size, 2, none⟩ (.slice a2 (n + 1) k2)) w.heap.size W1.heap.size t s a2 (n + 1) k2 (upd F n v) 24) := addMid o2c fu (hj2.keep bWZ) (hr2.keep bWZ) (by omega) (by decide)
  have KB : Hid (AddMid (Z'.setCell ⟨w.heap.size, 2, none⟩ (.slice a4 (n + 1) k4)) w.heap.size W1.heap.size t s a4 (n + 1) k4 (upd F n v) 24) := addMid o2c' fu (hj2.keep bWZ') (hr2.keep bWZ') (by omega) (by decide)
  have BA : Hid (Below w.heap.size w (Z.setCell ⟨w.heap.size, 2, none⟩ (.slice a2 (n + 1) k2))) := (hop HB2.out bWZ).setCell (p := ⟨w.heap.size, 2, none⟩) (Nat.le_refl _) _
  have BB : Hid (Below w.heap.size w (Z'.setCell ⟨w.heap.size, 2, none⟩ (.slice a4 (n + 1) k4))) := (hop HB2.out bWZ').setCell (p := ⟨w.heap.size, 2, none⟩) (Nat.le_refl _) _
  -- the cells on the way
  obtain ⟨j0, j1, j2⟩ := (hj2.keep bWZ).at
  have jz := (hj2.keep bWZ).soft
  obtain ⟨j0', j1', j2'⟩ := (hj2.keep bWZ').at
  have jz' := (hj2.keep bWZ').soft
  obtain ⟨u0, u1, u2, u3⟩ := (hv2.keep (bD.trans bY1)).at
  have HA1 : Hid (Sem.run Tryd.prog (Builtin.append_ #[22, 22] 22 #[.slice none 0 0, .slice a n c]) D = .ok (.slice a1 n k1) Y1) := hr1
  have HA2 : Hid (Sem.run Tryd.prog (Builtin.append_ #[22, 22] 22 #[.slice a1 n k1, .slice (some ⟨Y1.heap.size, 0, none⟩) 1 1]) (Y1.alloc (.cells #[.int .i64 v.id, .bool v.mr, .int .i64 v.sz, .int .u32 (v.sm : Int)] 46)) = .ok (.slice a2 (n + 1) k2) Z) := hr2'
  have HB1 : Hid (Sem.run Tryd.prog (Builtin.append_ #[22, 22] 22 #[.slice none 0 0, .slice a n c]) E = .ok (.slice a3 n k3) Y1') := hr1'
  have HBB : Hid (Sem.run Tryd.prog (Builtin.append_ #[22, 22] 22 #[.slice a3 n k3, .slice (some ⟨W2.heap.size, 0, none⟩) 1 1]) Y1' = .ok (.slice a4 (n + 1) k4) Z') := by unfold Hid; rw [← hDs]; exact hr2''
  have hE2 : (W2.alloc (.cells #[.int .i64 v.id, .bool v.mr, .int .i64 v.sz, .int .u32 (v.sm : Int)] 46)).drew = E := by rw [← hE, ← hD]; rfl
  obtain ⟨y0, y1, y2⟩ := (hj2.keep bD).at
  obtain ⟨y0', y1', y2'⟩ := (hj2.keep (hop bD bE)).at
  obtain ⟨t0, t1, t2, t3⟩ := (hv2.keep bD).at
  have HM : Hid (∀ wx a' c', AddMid wx w.heap.size W1.heap.size t s a' (n + 1) c' (upd F n v) 24 → Calls Tryd.prog 15 #[.agg #[.int .i64 t, .string s, .slice a' (n + 1) c']] wx fun e w' => e = .returned (.bool (mayJ t s.size (n + 1) (upd F n v))) ∧ Below wx.heap.size wx w') := fun wx a' c' m => by
    have := rmay_any t s a' (n + 1) c' (upd F n v) wx m.vs hs (by unfold maxLen; omega)
    unfold jv at this
    exact this
  have HE1 : Hid (mayJ t s.size (n + 1) (upd F n v) = false → ∀ w', Below w.heap.size w w' → AddEnd t s n F v w (.returned (.tuple #[nojn, .int .i64 1])) w') := fun hm w' h => ⟨.inr (.inl ⟨by omega, hm, rfl⟩), h⟩
  have HE2 : Hid (mayJ t s.size (n + 1) (upd F n v) = true → ∀ w' u, Below w.heap.size w w' → Jn w' u t s (n + 1) (upd F n v) → AddEnd t s n F v w (.returned (.tuple #[u, .int .i64 0])) w') := fun hm w' u h hV => ⟨.inr (.inr ⟨by omega, hm, _, rfl, hV⟩), h⟩
  clear hF2 bD o1 bY1 bLit o2 bZ bWZ bE lE o1' bY1' o2' bZ' bWZ' hc2 fu o2c o2c' hj2 hv2 hr2 hr1 hr2' hr1' hr2'' HFF
  generalize mayJ t s.size (n + 1) (upd F n v) = M at *
  generalize upd F n v = FF at *
  obtain ⟨vi, vm, vz, vs⟩ := v
  dsimp only at *
  unfold jv vv at *
  go_enter Tryd.func25, Tryd.ntmps25
  unfold noS at *
  go_upto_region 3 with fail
  go_cut [] (fun wx => ∃ a' c', AddMid wx w.heap.size W1.heap.size t s a' (n + 1) c' FF 24 ∧ Below w.heap.size w wx)
  case first =>
    go_wp2_with fail
    go_region_law (first
      | refine step_append_ran (by rfl) _ _ 22 (by rfl) (.slice none 0 0) (.slice a n c) (.slice a1 n k1) Y1 (by rfl) (by rfl) (by dsimp only; with_reducible exact HA1.out) ?_
      | refine step_append_ran (by rfl) _ _ 22 (by rfl) (.slice none 0 0) (.slice a n c) (.slice a3 n k3) Y1' (by rfl) (by rfl) (by dsimp only; with_reducible exact HB1.out) ?_
      | refine step_append_ran (by rfl) _ _ 22 (by rfl) (.slice a1 n k1) (.slice (some ⟨Y1.heap.size, 0, none⟩) 1 1) (.slice a2 (n + 1) k2) Z (by rfl) (by rfl) (by dsimp only; with_reducible exact HA2.out) ?_
      | refine step_append_ran (by rfl) _ _ 22 (by rfl) (.slice a3 n k3) (.slice (some ⟨W2.heap.size, 0, none⟩) 1 1) (.slice a4 (n + 1) k4) Z' (by rfl) (by rfl) (by dsimp only; with_reducible exact HBB.out) ?_)
    all_goals
      go_wp2_with fail
      go_meet
      first | exact ⟨a2, k2, KA.out, BA.out⟩ | exact ⟨a4, k4, KB.out, BB.out⟩
  case rest =>
    obtain ⟨a', c', m, bx⟩ := hcut
    have cM := HM.out wc a' c' m
    obtain ⟨e0, e1, e2⟩ := m.j.at
    have HMid : Hid (AddMid wc w.heap.size W1.heap.size t s a' (n + 1) c' FF 24) := m
    have HBx : Hid (Below w.heap.size w wc) := bx
    clear m bx HA1 HA2 HB1 HBB KA KB BA BB hE2 hE hD y0 y1 y2 y0' y1' y2' t0 t1 t2 t3 u0 u1 u2 u3 j0 j1 j2 jz j0' j1' j2' jz' c0 c1 c2 d0 d1 d2 fr2 x0 x1 x2 x3 HM
    go_wp2_with fail
    go_at_call 15
    refine cM.mono ?_
    rintro e w5 ⟨rfl, b5⟩
    clear cM e0 e1 e2
    have hr5 := HMid.out.r.keep b5
    have hj5 := HMid.out.j.keep b5
    have hvs5 := HMid.out.vs.keep b5
    obtain ⟨d0, d1, d2⟩ := hr5.at
    have fr5 : ∀ j, w5.frozen? ⟨W1.heap.size, j, none⟩ = false := hr5.soft
    obtain ⟨k0, k1, k2⟩ := hj5.at
    have HB5 : Hid (Below w.heap.size w w5) := hop HBx.out b5
    have HJ5 : Hid (∀ v0 v1 v2, Jn (((w5.setCell ⟨W1.heap.size, 0, none⟩ v0).setCell ⟨W1.heap.size, 1, none⟩ v1).setCell ⟨W1.heap.size, 2, none⟩ v2) (jv t s (.slice a' (n + 1) c')) t s (n + 1) FF) := fun v0 v1 v2 => by
      refine ⟨a', c', rfl, ⟨hvs5.ft, fun h0 => ?_⟩, HMid.out.z, HMid.out.c⟩
      obtain ⟨b, o, e, hc⟩ := hvs5.lies h0
      refine ⟨b, o, e, fun i hi => ?_⟩
      have := hc i hi
      have hne : b ≠ W1.heap.size := fun q => by
        have h1 := this.c1
        rw [q, cell_of_row _ _ _ _ _ _ hr5] at h1
        have h2 := this.c3
        rw [q, cell_of_row _ _ _ _ _ _ hr5] at h2
        rcases (by omega : o + i * 4 + 3 = 3 ∨ 3 < o + i * 4 + 3) with q3 | q3
        · rw [q3] at h2; simp at h2
        · simp at h2
      have ne : ∀ (x : Nat) (v : Value) (X : World) (off : Nat), (X.setCell ⟨W1.heap.size, x, none⟩ v).cell? ⟨b, off, none⟩ = X.cell? ⟨b, off, none⟩ := fun x v X off => World.cell?_setCell_other _ _ _ _ (fun q => hne (by injection q with q; exact q.symm))
      exact ⟨by rw [ne, ne, ne]; exact this.c0, by rw [ne, ne, ne]; exact this.c1, by rw [ne, ne, ne]; exact this.c2, by rw [ne, ne, ne]; exact this.c3⟩
    clear b5 hr5 hj5 hvs5 HMid HBx
    unfold noS at *
    cases hm : M with
    | false =>
      have H1 : Hid _ := HE1.out hm
      clear HE1 HE2 hm HJ5
      go_wp2_with fail
      exact bodyPost_ret (v := .tuple #[nojn, .int .i64 1]) (by simp [results, Tryd.results25, go_sem, nojn, jv, noS, *]) rfl (H1.out _ (below3 HB5.out hl1 _ _ _))
    | true =>
      have H2 : Hid _ := HE2.out hm
      clear HE1 HE2 hm
      go_wp2_with fail
      exact bodyPost_ret (v := .tuple #[jv t s (.slice a' (n + 1) c'), .int .i64 0]) (by simp [results, Tryd.results25, go_sem, jv, *]) rfl (H2.out _ _ (below3 HB5.out hl1 _ _ _) (HJ5.out _ _ _))
end Go.Proofs.YtigjhdcinaefbaaDoor
