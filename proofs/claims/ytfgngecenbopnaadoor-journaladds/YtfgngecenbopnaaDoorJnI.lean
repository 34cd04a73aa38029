/-
  What journal.Decode answers.
-/
import Derived.Test.YtfgngecenbopnaaDoorJnH
namespace Go.Proofs.YtfgngecenbopnaaDoor
open Go.RowKit Crc
attribute [local go_sem ↓] Go.wp_at_zero Go.wp_at_succ
set_option linter.unusedVariables false

set_option maxRecDepth 100000 in
theorem read_q (a : Option Addr) (c : Nat) (f : Nat → Nat) (w : World) (h : Row w a 4 f) :
    Calls Tryd.prog 23 #[.slice a 4 c] w fun e w' => e = .returned (.tuple #[.int .u32 (le4 f : Nat), .bool true]) ∧ ∃ k, w' = w.drewN k := by
  obtain ⟨b, o, rfl, hc⟩ := h.lies (by omega)
  have c0 := hc 0 (by omega)
  have c1 := hc 1 (by omega)
  have c2 := hc 2 (by omega)
  have c3 := hc 3 (by omega)
  simp only [Nat.add_zero] at c0
  have l0 := h.lt 0
  have l1 := h.lt 1
  have l2 := h.lt 2
  have l3 := h.lt 3
  have o1 : bits .or .u32 ((f 0 : Nat) : Int) (((f 1 : Nat) : Int) * 256) = ((f 0 + f 1 * 256 : Nat) : Int) := or_hi (f 0) (f 1) 8 (by omega) (by omega) (by omega)
  have o2 : bits .or .u32 ((f 0 + f 1 * 256 : Nat) : Int) (((f 2 : Nat) : Int) * 65536) = ((f 0 + f 1 * 256 + f 2 * 65536 : Nat) : Int) := or_hi _ (f 2) 16 (by omega) (by omega) (by omega)
  have o3 : bits .or .u32 ((f 0 + f 1 * 256 + f 2 * 65536 : Nat) : Int) (((f 3 : Nat) : Int) * 16777216) = ((f 0 + f 1 * 256 + f 2 * 65536 + f 3 * 16777216 : Nat) : Int) := or_hi _ (f 3) 24 (by omega) (by omega) (by omega)
  have HZ : Hid (f 0 + f 1 * 256 + f 2 * 65536 + f 3 * 16777216 = le4 f) := by unfold Hid le4; omega
  generalize f 0 + f 1 * 256 + f 2 * 65536 + f 3 * 16777216 = z3 at *
  generalize f 0 + f 1 * 256 + f 2 * 65536 = z2 at *
  generalize f 0 + f 1 * 256 = z1 at *
  clear hc h
  go_enter Tryd.func23, Tryd.ntmps23
  go_wp2
  go_quiet (fail)
  go_wp2
  go_ret2
  exact ⟨ret_t2 HZ.out rfl, _, rfl⟩

/-- What Decode of n bytes ends in. -/
def DecEnd (n : Nat) (f : Nat → Nat) (w : World) (e : Ending) (w' : World) : Prop := Below w.heap.size w w' ∧
  ((JGood n f ∧ ∃ g, e = .returned (.tuple #[jv ((rt f : Nat) : Int) (str (fun i => f (10 + i)) (rk f)) (.slice (some ⟨g, 0, none⟩) (rc f) (rc f)), .int .i64 0]) ∧ VB w' g (rc f) (rF f)) ∨
   (∃ c, JBad n f c ∧ e = .returned (.tuple #[nojn, .int .i64 c])))
theorem rF_fits {f : Nat → Nat} (hf : ∀ i, f i < 256) (i : Nat) : (rF f i).fits := by
  have := rvs_fits (f := fun j => f (11 + rk f + j)) (fun j => hf _) i
  rw [rvs_shift] at this
  exact this

set_option maxRecDepth 100000 in
set_option maxHeartbeats 4000000 in
theorem decode_any (a : Option Addr) (n c : Nat) (f : Nat → Nat) (w : World) (T : HalfT w) (h : Row w a n f) (hn : n ≤ maxLen) (hc : n ≤ c) :
    Calls Tryd.prog 12 #[.slice a n c] w (DecEnd n f w) := by
  unfold maxLen at hn
  obtain ⟨W, hbx⟩ : ∃ W, w.alloc (.cells #[.int .i64 0, .string noS, .slice none 0 0] 26) = W := ⟨_, rfl⟩
  have hb : Below w.heap.size w W := by rw [← hbx]; exact bal _ _
  have hd : JB W w.heap.size 0 noS (.slice none 0 0) 26 := by rw [← hbx]; exact heap_alloc_new _ _
  obtain ⟨c0, c1, c2⟩ := hd.at
  have f0 : ∀ j, W.frozen? ⟨w.heap.size, j, none⟩ = false := hd.soft
  have HB : Hid (Below w.heap.size w W) := hb
  have HD : Hid (JB W w.heap.size 0 noS (.slice none 0 0) 26) := hd
  have hR := h.keep hb
  have hT := T.keep hb
  clear hb hd
  unfold noS at *
  by_cases h1 : 262144 < n
  · have g1 : (262144 : Int) < (n : Int) := by omega
    have HBad : Hid (JBad n f 3) := .inl ⟨rfl, h1⟩
    clear h hR hT T h1
    go_enter Tryd.func12, Tryd.ntmps12
    go_wp2_with fail
    exact bodyPost_ret (v := .tuple #[nojn, .int .i64 3]) (by simp [results, Tryd.results12, go_sem, nojn, jv, noS, *]) rfl ⟨below3 HB.out (Nat.le_refl _) _ _ _, .inr ⟨3, HBad.out, rfl⟩⟩
  have g1 : decide ((262144 : Int) < (n : Int)) = false := decide_eq_false (by omega)
  by_cases h2 : n < 15
  · have g2 : (n : Int) < 15 := by omega
    have HBad : Hid (JBad n f 2) := .inr (.inl ⟨rfl, h2⟩)
    clear h hR hT T h1 h2
    go_enter Tryd.func12, Tryd.ntmps12
    go_wp2_with fail
    exact bodyPost_ret (v := .tuple #[nojn, .int .i64 2]) (by simp [results, Tryd.results12, go_sem, nojn, jv, noS, *]) rfl ⟨below3 HB.out (Nat.le_refl _) _ _ _, .inr ⟨2, HBad.out, rfl⟩⟩
  have g2 : decide ((n : Int) < 15) = false := decide_eq_false (by omega)
  have e1 : (n : Int) - 4 = ((n - 4 : Nat) : Int) := by omega
  obtain ⟨A1, s1, r1⟩ := cut_l (c := c) hR (n - 4) (by omega) hc
  obtain ⟨A2, s2, r2⟩ := cut_h (c := c) hR (n - 4) (by omega) hc
  have e4 : n - (n - 4) = 4 := by omega
  rw [e4] at s1 r1
  have cR := read_q A1 (c - (n - 4)) _ W r1
  have cS : ∀ q, Calls Tryd.prog 22 #[.slice A2 (n - 4) c] (W.drewN q) fun e w' => e = .returned (.int .u32 ((sum (n - 4) f : Nat) : Int)) ∧ W.drewN q = w' := fun q => sum_any A2 (n - 4) c f (W.drewN q) (hT.keep (bdn W q)) (r2.keep (bdn W q)) (by unfold maxLen; omega)
  have HFT : Hid (fit n f ↔ le4 (fun i => f (n - 4 + i)) = sum (n - 4) f) := Iff.rfl
  by_cases h3 : fit n f
  rotate_left
  · have HBad : Hid (JBad n f 5) := .inr (.inr (.inl ⟨rfl, by omega, by omega, h3⟩))
    have g3 : (((le4 (fun i => f (n - 4 + i)) : Nat) : Int) != ((sum (n - 4) f : Nat) : Int)) = true := by
      rw [bne_iff_ne]; exact fun q => h3 (HFT.out.2 (by omega))
    have g3' : (le4 (fun i => f (n - 4 + i)) != sum (n - 4) f) = true := by
      simp; exact fun q => h3 (HFT.out.2 q)
    clear h hR hT T h1 h2 h3 r1 r2 e4 HFT
    generalize le4 (fun i => f (n - 4 + i)) = x at *
    generalize sum (n - 4) f = y at *
    generalize n - 4 = N4 at *
    go_enter Tryd.func12, Tryd.ntmps12
    go_wp2_with fail
    go_at_call 23
    refine cR.mono ?_
    rintro e w' ⟨rfl, q, rfl⟩
    go_wp2_with fail
    go_at_call 22
    refine (cS q).mono ?_
    rintro e w' ⟨rfl, rfl⟩
    go_wp2_with fail
    exact bodyPost_ret (v := .tuple #[nojn, .int .i64 5]) (by simp [results, Tryd.results12, go_sem, nojn, jv, noS, *]) rfl ⟨hop (below3 HB.out (Nat.le_refl _) _ _ _) (bdn _ _), .inr ⟨5, HBad.out, rfl⟩⟩
  have eS : sum (n - 4) f = le4 (fun i => f (n - 4 + i)) := (HFT.out.1 h3).symm
  rw [eS] at cS
  have HN : Hid (15 ≤ n ∧ n ≤ 262144 ∧ fit n f) := ⟨by omega, by omega, h3⟩
  have HF : Hid (∀ i, f i < 256) := h.lt
  -- what readJournal does
  have cJ : ∀ q, Calls Tryd.prog 24 #[.slice a n c] (W.drewN q) fun e w' => Below W.heap.size W w' ∧
      ((frm n f ∧ mks f (11 + rk f) (rc f) = true ∧ ∃ g, e = .returned (.tuple #[jv ((rt f : Nat) : Int) (str (fun i => f (10 + i)) (rk f)) (.slice (some ⟨g, 0, none⟩) (rc f) (rc f)), .bool true]) ∧ VB w' g (rc f) (rF f)) ∨
       (JBad n f 4 ∧ e = .returned (.tuple #[nojn, .bool false]))) := fun q => by
    have hq := hR.keep (bdn W q)
    have bq := bdn W q
    by_cases hm : magic f
    rotate_left
    · refine (readJ_magic a n c f _ hq (by omega) (by omega) hc hm).mono ?_
      rintro e w' ⟨rfl, hb'⟩
      exact ⟨hop bq hb', .inr ⟨.inr (.inr (.inr (.inl ⟨rfl, HN.out.1, HN.out.2.1, h3, fun z => hm z.1⟩))), rfl⟩⟩
    by_cases hk : 15 + rk f ≤ n
    rotate_left
    · refine (readJ_short a n c f _ hq (by omega) (by omega) hc hm (by omega)).mono ?_
      rintro e w' ⟨rfl, hb'⟩
      exact ⟨hop bq hb', .inr ⟨.inr (.inr (.inr (.inl ⟨rfl, HN.out.1, HN.out.2.1, h3, fun z => hk z.2.1⟩))), rfl⟩⟩
    by_cases hcn : n = 15 + rk f + 13 * rc f
    rotate_left
    · refine (readJ_count a n c f _ hq (by omega) (by omega) hc hm hk hcn).mono ?_
      rintro e w' ⟨rfl, hb'⟩
      exact ⟨hop bq hb', .inr ⟨.inr (.inr (.inr (.inl ⟨rfl, HN.out.1, HN.out.2.1, h3, fun z => hcn z.2.2⟩))), rfl⟩⟩
    refine (readJ_form a n c f _ hq (by omega) (by omega) hc ⟨hm, hk, hcn⟩).mono ?_
    rintro e w' ⟨hb', ⟨hM, g, rfl, hV⟩ | ⟨hM, rfl⟩⟩
    · exact ⟨hop bq hb', .inl ⟨⟨hm, hk, hcn⟩, hM, g, rfl, hV⟩⟩
    · exact ⟨hop bq hb', .inr ⟨.inr (.inr (.inr (.inr (.inl ⟨rfl, HN.out.1, HN.out.2.1, h3, ⟨hm, hk, hcn⟩, hM⟩)))), rfl⟩⟩
  clear h hR hT T h1 h2 h3 r1 r2 e4 HFT eS
  generalize le4 (fun i => f (n - 4 + i)) = x at *
  generalize n - 4 = N4 at *
  go_enter Tryd.func12, Tryd.ntmps12
  go_wp2_with fail
  go_at_call 23
  refine cR.mono ?_
  rintro e w' ⟨rfl, q, rfl⟩
  go_wp2_with fail
  go_at_call 22
  refine (cS q).mono ?_
  rintro e w' ⟨rfl, rfl⟩
  go_wp2_with fail
  go_at_call 24
  refine (cJ _).mono ?_
  rintro e w2 ⟨b2, hh⟩
  clear cJ cR cS s1 s2 c0 c1 c2 f0
  have hd2 := HD.out.keep b2
  have HB2 : Hid (Below w.heap.size w w2) := hop HB.out b2
  have hwl : w.heap.size < w2.heap.size := (Array.getElem?_eq_some_iff.1 hd2).1
  rcases hh with ⟨hF, hM, g, rfl, hV⟩ | ⟨hBad, rfl⟩
  · obtain ⟨X, hX, hj, bX⟩ := box_jn w2 26 (rt f) (str (fun i => f (10 + i)) (rk f)) (.slice (some ⟨g, 0, none⟩) (rc f) (rc f))
    have hVX := hV.keep bX
    have hlr : rc f ≤ 255 := by have := HF.out (10 + rk f); unfold rc; omega
    have hls : rk f < 65536 := by have a := HF.out 8; have b := HF.out 9; unfold rk; omega
    have cM := may_any (rt f) (str (fun i => f (10 + i)) (rk f)) _ (rc f) (rc f) (rF f) X (hVX.vs (rF_fits HF.out)) (by rw [str_size]; unfold maxLen; omega) (by unfold maxLen; omega)
    rw [str_size] at cM
    have HBX : Hid (Below w.heap.size w X) := hop HB2.out bX
    have hdX := hd2.keep bX
    have HDX : Hid (JB X w.heap.size 0 noS (.slice none 0 0) 26) := hdX
    have HVX : Hid (VB X g (rc f) (rF f)) := hVX
    have HJX : Hid (JAt X w2.heap.size (rt f) (str (fun i => f (10 + i)) (rk f)) (.slice (some ⟨g, 0, none⟩) (rc f) (rc f))) := hj
    have HGM : Hid (mayJ (rt f) (rk f) (rc f) (rF f) = true → JGood n f) := fun hm => ⟨HN.out.1, HN.out.2.1, HN.out.2.2, hF, hM, hm⟩
    have HBM : Hid (mayJ (rt f) (rk f) (rc f) (rF f) = false → JBad n f 4) := fun hm => .inr (.inr (.inr (.inr (.inr ⟨rfl, HN.out.1, HN.out.2.1, HN.out.2.2, hF, hM, hm⟩))))
    have hgw : w.heap.size ≠ g := fun e => by
      obtain ⟨cur, hh, _⟩ := hV
      rw [← e] at hh
      rw [hd2] at hh
      injection hh with hh
      injection hh with _ hh _
      cases hh
    obtain ⟨q0, q1, q2⟩ := hj
    have HE : Hid (∀ e w', Below w.heap.size w w' → JGood n f → (e = .returned (.tuple #[jv ((rt f : Nat) : Int) (str (fun i => f (10 + i)) (rk f)) (.slice (some ⟨g, 0, none⟩) (rc f) (rc f)), .int .i64 0]) ∧ VB w' g (rc f) (rF f)) → DecEnd n f w e w') := fun e w' h1 h2 h3 => ⟨h1, .inl ⟨h2, g, h3⟩⟩
    have HE2 : Hid (∀ e w', Below w.heap.size w w' → JBad n f 4 → e = .returned (.tuple #[nojn, .int .i64 4]) → DecEnd n f w e w') := fun e w' h1 h2 h3 => ⟨h1, .inr ⟨4, h2, h3⟩⟩
    clear hV hVX hd2 hdX b2 bX hF hM hlr hls HF
    generalize str (fun i => f (10 + i)) (rk f) = S at *
    generalize mayJ (rt f) (rk f) (rc f) (rF f) = M at *
    generalize rF f = FF at *
    generalize rc f = C at *
    generalize rt f = TT at *
    unfold jv at *
    go_wp2_with fail
    go_at_call 9
    refine cM.mono ?_
    rintro e w3 ⟨rfl, b3⟩
    clear cM q0 q1 q2
    have hd3 := HDX.out.keep b3
    obtain ⟨d0, d1, d2⟩ := hd3.at
    have f3 : ∀ j, w3.frozen? ⟨w.heap.size, j, none⟩ = false := hd3.soft
    have HB3 : Hid (Below w.heap.size w w3) := hop HBX.out b3
    obtain ⟨q0, q1, q2⟩ := HJX.out.keep b3
    have HV3 : Hid (VB w3 g C FF) := HVX.out.keep b3
    clear b3 hd3
    unfold noS at *
    cases hm : M with
    | false =>
      have HBad := HBM.out hm
      clear HBM HGM
      go_wp2_with fail
      exact bodyPost_ret (v := .tuple #[nojn, .int .i64 4]) (by simp [results, Tryd.results12, go_sem, nojn, jv, noS, *]) rfl (HE2.out _ _ (below3 HB3.out (Nat.le_refl _) _ _ _) HBad rfl)
    | true =>
      have HG := HGM.out hm
      clear HBM HGM
      go_wp2_with fail
      refine bodyPost_ret (v := .tuple #[jv TT S (.slice (some ⟨g, 0, none⟩) C C), .int .i64 0]) (by simp [results, Tryd.results12, go_sem, jv, *]) rfl (HE.out _ _ (below3 HB3.out (Nat.le_refl _) _ _ _) HG ⟨rfl, ?_⟩)
      exact ((HV3.out.other (Ne.symm hgw) _ _).other (Ne.symm hgw) _ _).other (Ne.symm hgw) _ _
  · obtain ⟨X, hX, ⟨q0, q1, q2⟩, bX⟩ := box_jn w2 26 0 noS (.slice none 0 0)
    have hjX : JB X w2.heap.size 0 noS (.slice none 0 0) 26 := by rw [← hX]; exact heap_alloc_new _ _
    have fX : ∀ j, X.frozen? ⟨w2.heap.size, j, none⟩ = false := hjX.soft
    obtain ⟨Y, hY⟩ : ∃ Y, ((X.setCell ⟨w2.heap.size, 0, none⟩ (.int .i64 0)).setCell ⟨w2.heap.size, 1, none⟩ (.string noS)).setCell ⟨w2.heap.size, 2, none⟩ (.slice none 0 0) = Y := ⟨_, rfl⟩
    have hdX := hd2.keep bX
    have hdY : JB Y w.heap.size 0 noS (.slice none 0 0) 26 := by
      unfold JB
      rw [← hY, Below.heap_setCell _ _ _ _ (by show w.heap.size ≠ w2.heap.size; omega), Below.heap_setCell _ _ _ _ (by show w.heap.size ≠ w2.heap.size; omega), Below.heap_setCell _ _ _ _ (by show w.heap.size ≠ w2.heap.size; omega)]
      exact hdX
    obtain ⟨d0, d1, d2⟩ := hdY.at
    have f3 : ∀ j, Y.frozen? ⟨w.heap.size, j, none⟩ = false := hdY.soft
    have HBY : Hid (Below w.heap.size w Y) := by
      unfold Hid
      rw [← hY]
      exact below3 (hop HB2.out bX) (by omega) _ _ _
    have HBad : Hid (JBad n f 4) := hBad
    clear b2 hd2 hdX bX hBad hjX hdY
    unfold nojn jv noS at *
    go_wp2_with fail
    exact bodyPost_ret (v := .tuple #[nojn, .int .i64 4]) (by simp [results, Tryd.results12, go_sem, nojn, jv, noS, *]) rfl ⟨below3 HBY.out (Nat.le_refl _) _ _ _, .inr ⟨4, HBad.out, rfl⟩⟩
end Go.Proofs.YtfgngecenbopnaaDoor
