/-
  Make: an array of the program beside one of the document.
-/
import Derived.Test.YtebngmgdciahiaaGreatDoorArG
set_option maxRecDepth 100000
namespace Go.Proofs.YtebngmgdciahiaaGreatDoor
open Go.RowKit Crc
open _root_.Go.Proofs.YtebngmgdciahiaaGreatDoor.Nm _root_.Go.Proofs.YtebngmgdciahiaaGreatDoor.Dk
attribute [local go_sem ↓] Go.wp_at_zero Go.wp_at_succ
set_option linter.unusedVariables false

/-- Where the document's array is. -/
structure Vs (R : Rg) (b k m bl : Nat) : Prop where
  ex : ∃ c g cap cur, R.K b = some (vxO k m bl c g cap) ∧ R.K g = some (.cells cur 71 (0, 0)) ∧ (∀ i, i < k + m → cur[i]? = some (pv (R.P i).d)) ∧ k + m ≤ cap
/-- Where the pair is. -/
structure Ps (R : Rg) (pp ab vb kq kg n : Nat) : Prop where
  ex : ∃ g cap cur, R.K pp = some (pairO (pv ab) (.slice (some ⟨g, 0, none⟩) n cap) (pv kq) (pv vb) (pv kg)) ∧ R.K g = some (.cells cur 61 (0, 0)) ∧ (∀ i, i < n → cur[i]? = some (pv (R.P i).p)) ∧ n ≤ cap
/-- What Make leaves. -/
def MkE (W0 w w' : World) (k m bl : Nat) (mo : Int) (pp : Nat) : Prop :=
  ∃ R kq kg ab vb, Ar W0 w' R (some kq) (some kg) (fun _ => newSt mo) (fun _ => newSt mo) (some z0) (some z0) ∧ Hs R ab k m bl ∧ Vs R vb k m bl ∧ Ps R pp ab vb kq kg (k + m) ∧ Below w.heap.size w w'
theorem ar_none {W0 w : World} (b : Below W0.heap.size W0 w) {kq kg : Nat} (h1 : FZ w (some kq) (some z0)) (h2 : Zs w (some kg) (some z0)) (hq : W0.heap.size ≤ kq) (hg : W0.heap.size ≤ kg) (P : Nat → Pc) (s s2 : St) : Ar W0 w ⟨0, P, fun _ => none⟩ (some kq) (some kg) (fun _ => s) (fun _ => s2) (some z0) (some z0) :=
  ⟨h1, h2, b, (fun k e => (by injection e with e; omega)), (fun k e => (by injection e with e; omega)), (fun k o e => (by cases e)), (fun _ => ⟨[], 0, none, 0, []⟩), fun i hi => absurd hi (Nat.not_lt_zero _), fun i j hi => absurd hi (Nat.not_lt_zero _), fun i j hi => absurd hi (Nat.not_lt_zero _), fun i hi => absurd hi (Nat.not_lt_zero _)⟩
theorem mk_end {W0 w wr wA wV : World} {sb pp kq kg k m B j : Nat} {mo : Int} {P : Nat → Pc} {gd cd gm cm ab vb vp : Nat} {vl : Value} {curd curm : Array Value} {L : List (Option Nat)} (hM : MkW W0 w wr sb pp kq kg k m (B : Int) mo j P (.slice (some ⟨gd, 0, none⟩) j cd) vl (.slice (some ⟨gm, 0, none⟩) j cm)) (hN : k + m = j) (k1 : 1 ≤ k) (m1 : 1 ≤ m) (hj : (j : Int) ≤ 24) (hB : B ≤ 4096)
    (hNE : NewEnd wr k m B L ab wA) (hL : ∀ i, i < j → L[i]! = some (P i).p) (hR : (∀ i, i < j → curm[i]? = some (pv (P i).d)) ∧ (∀ i, i < j → curd[i]? = some (pv (P i).p)) ∧ wr.heap[gm]? = some (.cells curm 71 (0, 0)) ∧ wr.heap[gd]? = some (.cells curd 61 (0, 0)) ∧ j ≤ cm ∧ j ≤ cd)
    (hpV : wV.heap[pp]? = some (pairO (.pointer none) (.slice (some ⟨gd, 0, none⟩) j cd) (pv kq) (.pointer none) (pv kg))) (hv2 : wV.heap[vb]? = some (.cells #[.int .i64 (k : Int), .int .i64 (m : Int), .int .i64 (B : Int), .pointer (some ⟨vp, 0, none⟩), .slice (some ⟨gm, 0, none⟩) j cm] 80 (0, 0))) (hbW : Below wr.heap.size wr wV) (hbV : Below wA.heap.size wA wV) :
    MkE W0 w ((wV.setCell ⟨pp, 0, none⟩ (.pointer (some ⟨ab, 0, none⟩))).setCell ⟨pp, 3, none⟩ (.pointer (some ⟨vb, 0, none⟩))) k m B mo pp := by
  obtain ⟨na, nb, xc, xg, xcap, xcur, n1, n2, n3, n4, n5, n6⟩ := hNE
  obtain ⟨r1, r2, r3, r4, r5, r6⟩ := hR
  have hK : ∀ (k : Nat) (o : Obj), (Rg.K ⟨j, P, fun _ => none⟩) k = some o → k < w.heap.size := fun k o e => by cases e
  have bV : Below w.heap.size w wV := hM.bw.trans (hbW.mono hM.bw.size)
  have aV := hM.ar.keep hbW
  have u1 : Ud w.heap.size 42 wV (wV.setCell ⟨pp, 0, none⟩ (.pointer (some ⟨ab, 0, none⟩))) := Ud.put hpV hM.pl _
  have p1 := heap_setCell_same wV pp 0 _ _ (.pointer (some ⟨ab, 0, none⟩)) hpV
  have a1 := u1.ar hM.W aV kT_pair hK
  have b1 := u1.below bV
  have gdV := u1.block ((hbW.block gd (Array.getElem?_eq_some_iff.1 r4).1).trans r4) (by decide)
  have gmV := u1.block ((hbW.block gm (Array.getElem?_eq_some_iff.1 r3).1).trans r3) (by decide)
  have abV := u1.block (show wV.heap[ab]? = some (axO k m B xc xg xcap) from (hbV.block ab (Array.getElem?_eq_some_iff.1 n3).1).trans n3) (by decide)
  have xgV := u1.block ((hbV.block xg (Array.getElem?_eq_some_iff.1 n4).1).trans n4) (by decide)
  have vbV := u1.block hv2 (by decide)
  obtain ⟨X, hX⟩ : ∃ X, wV.setCell ⟨pp, 0, none⟩ (.pointer (some ⟨ab, 0, none⟩)) = X := ⟨_, rfl⟩
  rw [hX] at p1 a1 b1 gdV gmV abV xgV vbV ⊢
  have p1' : X.heap[pp]? = some (pairO (pv ab) (.slice (some ⟨gd, 0, none⟩) j cd) (pv kq) (.pointer none) (pv kg)) := p1
  have u2 : Ud w.heap.size 42 X (X.setCell ⟨pp, 3, none⟩ (.pointer (some ⟨vb, 0, none⟩))) := Ud.put p1' hM.pl _
  have p2 := heap_setCell_same X pp 3 _ _ (.pointer (some ⟨vb, 0, none⟩)) p1'
  have a2 := u2.ar hM.W a1 kT_pair hK
  have b2 := u2.below b1
  have gd2 := u2.block gdV (by decide)
  have gm2 := u2.block gmV (by decide)
  have ab2 := u2.block abV (by decide)
  have xg2 := u2.block xgV (by decide)
  have vb2 := u2.block vbV (by decide)
  obtain ⟨Y, hY⟩ : ∃ Y, X.setCell ⟨pp, 3, none⟩ (.pointer (some ⟨vb, 0, none⟩)) = Y := ⟨_, rfl⟩
  rw [hY] at p2 a2 b2 gd2 gm2 ab2 xg2 vb2 ⊢
  have p2' : Y.heap[pp]? = some (pairO (pv ab) (.slice (some ⟨gd, 0, none⟩) j cd) (pv kq) (pv vb) (pv kg)) := p2
  have ab3 : Y.heap[ab]? = some (axO k m B xc xg xcap) := ab2
  have vb3 : Y.heap[vb]? = some (vxO k m B vp gm cm) := by rw [vb2]; unfold vxO; rw [hN]
  have aH := a2.hold [pp, gd, ab, xg, vb, gm] (fun k hk => by
    simp only [List.mem_cons, List.not_mem_nil, or_false] at hk
    rcases hk with rfl | rfl | rfl | rfl | rfl | rfl
    · exact ⟨_, p2', kO_of kT_pair⟩
    · exact ⟨_, gd2, kO_of kT_p⟩
    · exact ⟨_, ab2, kO_of kT_arr⟩
    · exact ⟨_, xg2, kO_of kT_disk⟩
    · exact ⟨_, vb2, kO_of kT_rarr⟩
    · exact ⟨_, gm2, kO_of kT_q⟩)
  refine ⟨_, kq, kg, ab, vb, aH, ⟨⟨xc, xg, xcap, xcur, ?_, ?_, fun i hi => ?_, n6⟩, k1, m1, by omega, hB, hN.symm⟩, ⟨vp, gm, cm, curm, ?_, ?_, fun i hi => r1 i (by omega), by omega⟩, ⟨gd, cd, curd, ?_, ?_, fun i hi => r2 i (by omega), by omega⟩, b2⟩
  · show (if ab ∈ _ then _ else _) = _
    rw [if_pos (by simp)]; exact ab3
  · show (if xg ∈ _ then _ else _) = _
    rw [if_pos (by simp)]; exact xg2
  · rw [n5 i hi, hL i (by omega)]; rfl
  · show (if vb ∈ _ then _ else _) = _
    rw [if_pos (by simp)]; exact vb3
  · show (if gm ∈ _ then _ else _) = _
    rw [if_pos (by simp)]; exact gm2
  · show (if pp ∈ _ then _ else _) = _
    rw [if_pos (by simp), hN]; exact p2'
  · show (if gd ∈ _ then _ else _) = _
    rw [if_pos (by simp)]; exact gd2
set_option maxHeartbeats 16000000 in
theorem make_any (W0 w : World) (b0 : Below W0.heap.size W0 w) (k m : Nat) (bl mo : Int) (k1 : 1 ≤ k) (k2 : k ≤ 12) (m1 : 1 ≤ m) (m2 : m ≤ 12) (hb1 : -9223372036854775808 ≤ bl) (hb2 : bl ≤ 9223372036854775807) (hm0 : -9223372036854775808 ≤ mo) (hm1 : mo ≤ 9223372036854775807) :
    Calls Tryz.prog 6 #[.agg #[.int .i64 (k : Int), .int .i64 (m : Int), .int .i64 bl], .int .i64 mo] w fun e w' => (∃ (B pp : Nat), (B : Int) = bl ∧ 16 ≤ B ∧ B ≤ 4096 ∧ e = .returned (.pointer (some ⟨pp, 0, none⟩)) ∧ Hid (MkE W0 w w' k m B mo pp)) ∨ (¬ (16 ≤ bl ∧ bl ≤ 4096) ∧ e = .returned (.pointer none) ∧ Below w.heap.size w w') := by
  obtain ⟨w1, hw1⟩ : ∃ w1, w.alloc (.cells #[.int .i64 (k : Int), .int .i64 (m : Int), .int .i64 bl] 23) = w1 := ⟨_, rfl⟩
  have bw1 : Below w.heap.size w w1 := by rw [← hw1]; exact bal _ _
  have hs : w1.heap[w.heap.size]? = some (.cells #[.int .i64 (k : Int), .int .i64 (m : Int), .int .i64 bl] 23 (0, 0)) := by rw [← hw1]; exact heap_alloc_new _ _
  obtain ⟨sb, hsb⟩ : ∃ sb, w.heap.size = sb := ⟨_, rfl⟩
  rw [hsb] at hs
  have HW1 : Hid (w.alloc (.cells #[.int .i64 (k : Int), .int .i64 (m : Int), .int .i64 bl] 23) = w1) := hw1
  have HSB : Hid (w.heap.size = sb) := hsb
  have HS : Hid (w1.heap[sb]? = some (.cells #[.int .i64 (k : Int), .int .i64 (m : Int), .int .i64 bl] 23 (0, 0)) ∧ Below w.heap.size w w1 ∧ Below W0.heap.size W0 w1) := ⟨hs, bw1, b0.trans (bw1.mono b0.size)⟩
  have c0 := cell_of_row w1 sb 0 _ _ _ hs
  have c1 := cell_of_row w1 sb 1 _ _ _ hs
  simp only [List.getElem?_toArray, List.getElem?_cons_zero, List.getElem?_cons_succ] at c0 c1
  have g1 : decide ((k : Int) < 1) = false := decide_eq_false (by omega)
  have g2 : decide ((m : Int) < 1) = false := decide_eq_false (by omega)
  have g3 : decide ((12 : Int) < (k : Int)) = false := decide_eq_false (by omega)
  have g4 : decide ((12 : Int) < (m : Int)) = false := decide_eq_false (by omega)
  have g5 : decide (k < 1) = false := decide_eq_false (by omega)
  have g6 : decide (m < 1) = false := decide_eq_false (by omega)
  have g7 : decide (12 < k) = false := decide_eq_false (by omega)
  have g8 : decide (12 < m) = false := decide_eq_false (by omega)
  have cF := newfuse_any w1
  clear hw1 bw1 hs hsb
  go_enter Tryz.func6, Tryz.ntmps6
  go_wp2_with fail
  rw [HW1.out, HSB.out]
  go_at_call 26
  refine cF.mono ?_
  rintro e w2 ⟨rfl, hz2, b2⟩
  clear cF
  obtain ⟨kq, hkq⟩ : ∃ kq, w1.heap.size = kq := ⟨_, rfl⟩
  rw [hkq] at hz2
  obtain ⟨w3, hw3⟩ : ∃ w3, w2.alloc (.cells #[.int .i64 0, .int .i64 0, .bool false] 67) = w3 := ⟨_, rfl⟩
  have b3 : Below w2.heap.size w2 w3 := by rw [← hw3]; exact bal _ _
  have hg3 : w3.heap[w2.heap.size]? = some (.cells #[.int .i64 0, .int .i64 0, .bool false] 67) := by rw [← hw3]; exact heap_alloc_new _ _
  obtain ⟨kg, hkg⟩ : ∃ kg, w2.heap.size = kg := ⟨_, rfl⟩
  rw [hkg] at hg3
  obtain ⟨w4, hw4⟩ : ∃ w4, w3.alloc (pairO (.pointer none) (.slice none 0 0) (pv kq) (.pointer none) (pv kg)) = w4 := ⟨_, rfl⟩
  have b4 : Below w3.heap.size w3 w4 := by rw [← hw4]; exact bal _ _
  have hp4 : w4.heap[w3.heap.size]? = some (pairO (.pointer none) (.slice none 0 0) (pv kq) (.pointer none) (pv kg)) := by rw [← hw4]; exact heap_alloc_new _ _
  obtain ⟨pp, hpp⟩ : ∃ pp, w3.heap.size = pp := ⟨_, rfl⟩
  rw [hpp] at hp4
  have hsz1 := HS.out.2.1.size
  have HM : Hid (MkW W0 w w4 sb pp kq kg k m bl mo 0 (fun _ => ⟨0, 0, 0⟩) (.slice none 0 0) (.slice none 0 0) (.slice none 0 0)) := by
    have e2 := b2.size
    have e3 := b3.size
    have e0 := b0.size
    have hb2 : Below W0.heap.size W0 w2 := HS.out.2.2.trans (b2.mono HS.out.2.2.size)
    have hb4 : Below w2.heap.size w2 w4 := b3.trans (b4.mono b3.size)
    have hbb : Below w.heap.size w w4 := (HS.out.2.1.trans (b2.mono hsz1)).trans (hb4.mono (by omega))
    refine ⟨ar_none (hb2.trans (hb4.mono hb2.size)) (hz2.keep hb4) (Zs.keep (show Zs w3 (some kg) (some z0) from hg3) b4) (by omega) (by omega) _ _ _, hp4, ?_, VOwn.start _ _ _, VOwn.start _ _ _, VOwn.start _ _ _, hbb, by omega, e0⟩
    exact (hb4.block sb (by have := (Array.getElem?_eq_some_iff.1 HS.out.1).1; omega)).trans ((b2.block sb (Array.getElem?_eq_some_iff.1 HS.out.1).1).trans HS.out.1)
  have HW4 : Hid (w3.alloc (.cells #[.pointer none, .slice none 0 0, .pointer (some ⟨kq, 0, none⟩), .pointer none, .pointer (some ⟨kg, 0, none⟩)] 42) = w4) := hw4
  have HW3 : Hid (w2.alloc (.cells #[.int .i64 0, .int .i64 0, .bool false] 67) = w3) := hw3
  have HKG : Hid (w2.heap.size = kg) := hkg
  have HKQ : Hid (w1.heap.size = kq) := hkq
  have HPP : Hid (kg + 1 = pp) := by unfold Hid; rw [← hpp, ← hkg, ← hw3]; simp
  obtain ⟨n, hn⟩ : ∃ n, k + m = n := ⟨_, rfl⟩
  have wz : IntKind.i64.wrap ((k : Int) + (m : Int)) = (n : Int) := by rw [IntKind.wrap_i64]; omega
  have hn24 : (n : Int) ≤ 24 := by omega
  have HN : Hid (k + m = n) := hn
  clear hz2 b2 hw3 b3 hg3 hkg hw4 b4 hp4 hpp hkq hsz1 b0 c0 c1 hn
  go_wp2_with fail
  rw [HKQ.out, HW3.out, HKG.out, HW4.out, HPP.out]
  clear HKQ HW3 HKG HW4 HPP
  go_loopw [6, 7, 8] (fun ll mm i wr => ∃ (j : Nat) (P : Nat → Pc) (vD vl vm : Value), j ≤ n ∧ i = .int .i64 j ∧ vl = ll ∧ vm = mm ∧ Hid (MkW W0 w wr sb pp kq kg k m bl mo j P vD vl vm)) (fun _ _ i _ => n - (intOf i).toNat)
  case atStart => exact ⟨0, _, _, _, _, Nat.zero_le _, rfl, rfl, rfl, HM.out⟩
  case round =>
    obtain ⟨j, P, vD, vl, vm, hj, rfl, rfl, rfl, hM⟩ := hrel
    have c0 := cell_of_row wr sb 0 _ _ _ hM.out.sh
    have c1 := cell_of_row wr sb 1 _ _ _ hM.out.sh
    simp only [List.getElem?_toArray, List.getElem?_cons_zero, List.getElem?_cons_succ] at c0 c1
    by_cases hlt : j < n
    · have ij : (j : Int) < (n : Int) := by omega
      have q2 := cell_of_row wr pp 2 _ _ _ hM.out.pair
      simp only [List.getElem?_toArray, List.getElem?_cons_zero, List.getElem?_cons_succ, pv] at q2
      have cW := new_any mo (some kq) wr hm0 hm1
      dsimp only [Option.map] at cW
      have HST : Hid (∀ w5, Below wr.heap.size wr w5 → PX w5 (wr.heap.size + 1) wr.heap.size [] (some kq) (newSt mo) 0 → _) := fun w5 b5 px => mk_step hM.out (by omega) b5 px
      clear hlt hM
      go_wp2_with fail
      go_at_call 27
      refine cW.mono ?_
      rintro e w5 ⟨rfl, px, b5⟩
      clear cW q2
      obtain ⟨q1, da, dn, dc, W5, r1, q3, q4, w6, hw6, vl', W6, r2, q5, h7⟩ := HST.out w5 b5 px
      have R1 : Hid (Sem.run Tryz.prog (Builtin.append_ #[37, 37] 37 #[vD, .slice (some ⟨w5.heap.size, 0, none⟩) 1 1]) (w5.alloc (.cells #[.pointer (some ⟨wr.heap.size + 1, 0, none⟩)] 61)) = .ok (.slice da dn dc) W5) := r1
      have hs6 : w6.heap.size = W5.heap.size := by rw [← hw6]; simp [World.setCell]
      rw [hs6, ← hw6] at r2
      have R2 : Hid (Sem.run Tryz.prog (Builtin.append_ #[68, 68] 68 #[vl, .slice (some ⟨W5.heap.size, 0, none⟩) 1 1]) ((W5.setCell ⟨pp, 1, none⟩ (.slice da dn dc)).alloc (.cells #[.iface 61 (.pointer (some ⟨wr.heap.size + 1, 0, none⟩))] 82)) = .ok vl' W6) := r2
      have H7 : Hid (∀ w7, Below W6.heap.size W6 w7 → DX w7 W6.heap.size none 0 [] (some kg) (newSt mo) → ∃ vm' W7, Sem.run Tryz.prog (Builtin.append_ #[69, 69] 69 #[vm, .slice (some ⟨w7.heap.size, 0, none⟩) 1 1]) (w7.alloc (.cells #[.pointer (some ⟨W6.heap.size, 0, none⟩)] 71)) = .ok vm' W7 ∧ MkW W0 w W7 sb pp kq kg k m bl mo (j + 1) (up P j ⟨wr.heap.size + 1, wr.heap.size, W6.heap.size⟩) (.slice da dn dc) vl' vm') := h7
      have cV := newdisk_any mo (some kg) W6 hm0 hm1
      dsimp only [Option.map] at cV
      clear px b5 HST r1 r2 hw6 hs6 h7 c0 c1
      go_wp2_with (at_builtin; first
        | refine wpList_append_ran (by rfl) _ _ 37 (by rfl) _ _ _ _ (by rfl) (by rfl) R1.out ?_
        | refine wpList_append_ran (by rfl) _ _ 68 (by rfl) _ _ _ _ (by rfl) (by rfl) R2.out ?_)
      go_at_call 28
      refine cV.mono ?_
      rintro e w7 ⟨rfl, dx7, b7⟩
      obtain ⟨vm', W7, r3, h8⟩ := H7.out w7 b7 dx7
      have R3 : Hid (Sem.run Tryz.prog (Builtin.append_ #[69, 69] 69 #[vm, .slice (some ⟨w7.heap.size, 0, none⟩) 1 1]) (w7.alloc (.cells #[.pointer (some ⟨W6.heap.size, 0, none⟩)] 71)) = .ok vm' W7) := r3
      have H8 : Hid (MkW W0 w W7 sb pp kq kg k m bl mo (j + 1) (up P j ⟨wr.heap.size + 1, wr.heap.size, W6.heap.size⟩) (.slice da dn dc) vl' vm') := h8
      clear cV dx7 b7 r3 h8 q1 q3 q4 q5
      go_wp2_with (at_builtin; refine wpList_append_ran (by rfl) _ _ 69 (by rfl) _ _ _ _ (by rfl) (by rfl) R3.out ?_)
      go_wp2
      go_round
      case rel => exact ⟨j + 1, _, _, _, _, by omega, by go_num, rfl, rfl, H8.out⟩
      case measure => simp [intOf]; omega
    · have hjn : j = n := by omega
      subst hjn
      have ij : decide ((j : Int) < (j : Int)) = false := by simp
      clear hlt
      have c2 := cell_of_row wr sb 2 _ _ _ hM.out.sh
      simp only [List.getElem?_toArray, List.getElem?_cons_zero, List.getElem?_cons_succ] at c2
      by_cases hbl : 16 ≤ bl ∧ bl ≤ 4096
      · obtain ⟨B, hB⟩ : ∃ B : Nat, (B : Int) = bl := ⟨bl.toNat, by omega⟩
        have hB1 : 16 ≤ B ∧ B ≤ 4096 := by omega
        subst hB
        -- the rows
        have hrl : ∀ f : Nat → Value, ((List.range j).map f).length = j := fun f => range_len j f
        have hj1 : 1 ≤ j := by have := HN.out; omega
        rcases hM.out.ol.row with ⟨_, e2⟩ | ⟨gl, cl, curl, el, hgl, hhl, hcl, hlcl, hmcl⟩
        · have := congrArg List.length e2
          rw [hrl] at this
          simp at this
          omega
        rcases hM.out.om.row with ⟨_, e2⟩ | ⟨gm, cm, curm, em, hgm, hhm, hcm, hlcm, hmcm⟩
        · have := congrArg List.length e2
          rw [hrl] at this
          simp at this
          omega
        rcases hM.out.oD.row with ⟨_, e2⟩ | ⟨gd, cd, curd, ed, hgd, hhd, hcd, hlcd, hmcd⟩
        · have := congrArg List.length e2
          rw [hrl] at this
          simp at this
          omega
        rw [hrl] at el em ed hcl hcm hcd hlcl hlcm hlcd
        subst el; subst em; subst ed
        have hat : ∀ (f : Nat → Value) (i : Nat), i < j → ((List.range j).map f)[i]? = some (f i) := fun f i hi => by
          rw [List.getElem?_map, List.getElem?_range hi]; rfl
        obtain ⟨L, hL⟩ : ∃ L : List (Option Nat), L = (List.range j).map fun i => some (P i).p := ⟨_, rfl⟩
        have hLl : L.length = j := by rw [hL, List.length_map, List.length_range]
        have hLi : ∀ i, i < j → L[i]! = some (P i).p := fun i hi => by
          rw [getElem!_pos L i (by rw [hLl]; exact hi)]
          subst hL
          rw [List.getElem_map, List.getElem_range]
        have hLn : L.any Option.isNone = false := any_some fun i hi => by rw [hLl] at hi; rw [hLi i hi]; rfl
        have cA := anew_yes wr k m B gl cl curl L k1 m1 (by omega) hB1.1 hB1.2 hhl (fun i hi => by rw [hLl] at hi; rw [hcl i hi, hat _ i hi, hLi i hi]; rfl) (by rw [hLl]; exact HN.out.symm) hLn
        rw [hLl] at cA
        have cV := fun w' => rnew_any w' k m (B : Int) (some ⟨gm, 0, none⟩) cm k1 m1 (by omega)
        rw [HN.out] at cV
        have HL : Hid (∀ i, i < j → L[i]! = some (P i).p) := hLi
        have HR : Hid ((∀ i, i < j → curm[i]? = some (pv (P i).d)) ∧ (∀ i, i < j → curd[i]? = some (pv (P i).p)) ∧ wr.heap[gm]? = some (.cells curm 71 (0, 0)) ∧ wr.heap[gd]? = some (.cells curd 61 (0, 0)) ∧ j ≤ cm ∧ j ≤ cd) := ⟨fun i hi => by rw [hcm i hi, hat _ i hi], fun i hi => by rw [hcd i hi, hat _ i hi], hhm, hhd, hlcm, hlcd⟩
        have HB1 : Hid (16 ≤ B ∧ B ≤ 4096) := hB1
        clear hrl hj1 hgl hhl hcl hlcl hmcl hgm hhm hcm hlcm hmcm hgd hhd hcd hlcd hmcd hat hL hLl hLi hLn hbl hB1
        go_wp2_with fail
        go_at_call 29
        refine cA.mono ?_
        rintro e wA ⟨ab, rfl, hNE⟩
        clear cA
        obtain ⟨na, nb, xc, xg, xcap, xcur, n1, n2, n3, n4, n5, n6⟩ := hNE.out
        have hshA := (nb.block sb (Array.getElem?_eq_some_iff.1 hM.out.sh).1).trans hM.out.sh
        have c0 := cell_of_row wA sb 0 _ _ _ hshA
        have c1 := cell_of_row wA sb 1 _ _ _ hshA
        have c2 := cell_of_row wA sb 2 _ _ _ hshA
        simp only [List.getElem?_toArray, List.getElem?_cons_zero, List.getElem?_cons_succ] at c0 c1 c2
        have cV := cV wA
        clear na nb n1 n2 n3 n4 n5 n6 hshA
        go_wp2_with fail
        go_at_call 30
        refine cV.mono ?_
        rintro e wV ⟨hbV, hV⟩
        obtain ⟨_, _, vb, vp, rfl, hv1, hv2⟩ := hV.resolve_right fun q => q.1 ⟨by have := HB1.out; omega, by have := HB1.out; omega⟩
        clear hV
        clear cV c0 c1 c2
        obtain ⟨na, nb, xc, xg, xcap, xcur, n1, n2, n3, n4, n5, n6⟩ := hNE.out
        have hbW : Below wr.heap.size wr wV := nb.trans (hbV.mono nb.size)
        have hpV := (hbW.block pp (Array.getElem?_eq_some_iff.1 hM.out.pair).1).trans hM.out.pair
        have p0 := cell_of_row wV pp 0 _ _ _ hpV
        have p3 := cell_of_row wV pp 3 _ _ _ hpV
        simp only [List.getElem?_toArray, List.getElem?_cons_zero, List.getElem?_cons_succ] at p0 p3
        have fz : ∀ i, wV.frozen? ⟨pp, i, none⟩ = false := fun i => frozen_of_row wV pp i _ _ hpV
        have HPV : Hid (wV.heap[pp]? = some (pairO (.pointer none) (.slice (some ⟨gd, 0, none⟩) j cd) (pv kq) (.pointer none) (pv kg))) := hpV
        have HV2 : Hid (wV.heap[vb]? = some (.cells #[.int .i64 (k : Int), .int .i64 (m : Int), .int .i64 (B : Int), .pointer (some ⟨vp, 0, none⟩), .slice (some ⟨gm, 0, none⟩) j cm] 80 (0, 0))) := hv2
        have HBW : Hid (Below wr.heap.size wr wV ∧ Below wA.heap.size wA wV) := ⟨hbW, hbV⟩
        clear na nb n1 n2 n3 n4 n5 n6 hbW hpV hv1 hv2 hbV
        go_wp2
        go_ret
        exact .inl ⟨B, pp, rfl, HB1.out.1, HB1.out.2, rfl, mk_end hM.out HN.out k1 m1 hn24 HB1.out.2 hNE.out HL.out HR.out HPV.out HV2.out HBW.out.1 HBW.out.2⟩
      · have hblo : bl < 16 ∨ 4096 < bl := by omega
        have hj1 : 1 ≤ j := by have := HN.out; omega
        have hrl : ∀ f : Nat → Value, ((List.range j).map f).length = j := fun f => range_len j f
        obtain ⟨la, lc, el⟩ := hM.out.ol.form
        obtain ⟨ma, mc, em⟩ := hM.out.om.form
        rw [hrl] at el em
        subst el; subst em
        have cA := anew_block wr k m bl (.slice la j lc) k1 m1 (by omega) hblo
        have cV := fun w' => rnew_any w' k m bl ma mc k1 m1 (by omega)
        rw [HN.out] at cV
        have HNO : Hid (¬ (16 ≤ bl ∧ bl ≤ 4096)) := hbl
        clear hblo hj1 hrl hbl
        go_wp2_with fail
        go_at_call 29
        refine cA.mono ?_
        rintro e wA ⟨rfl, nb⟩
        clear cA
        have hshA := (nb.block sb (Array.getElem?_eq_some_iff.1 hM.out.sh).1).trans hM.out.sh
        have c0 := cell_of_row wA sb 0 _ _ _ hshA
        have c1 := cell_of_row wA sb 1 _ _ _ hshA
        have c2 := cell_of_row wA sb 2 _ _ _ hshA
        simp only [List.getElem?_toArray, List.getElem?_cons_zero, List.getElem?_cons_succ] at c0 c1 c2
        have cV := cV wA
        have HBA : Hid (Below wr.heap.size wr wA) := nb
        clear nb hshA
        go_wp2_with fail
        go_at_call 30
        refine cV.mono ?_
        rintro e wV ⟨hbV, hV⟩
        obtain ⟨_, rfl⟩ := hV.resolve_left fun q => HNO.out ⟨q.1, q.2.1⟩
        clear hV cV c0 c1 c2
        have HBW : Hid (Below w.heap.size w wV) := (hM.out.bw.trans (HBA.out.mono hM.out.bw.size)).trans (hbV.mono (Nat.le_trans hM.out.bw.size HBA.out.size))
        clear hbV
        go_wp2
        go_ret
        exact .inr ⟨HNO.out, rfl, HBW.out⟩
set_option maxHeartbeats 8000000 in
theorem make_none (w : World) (K M bl mo : Int) (h : K < 1 ∨ M < 1 ∨ 12 < K ∨ 12 < M) :
    Calls Tryz.prog 6 #[.agg #[.int .i64 K, .int .i64 M, .int .i64 bl], .int .i64 mo] w fun e w' => e = .returned (.pointer none) ∧ Below w.heap.size w w' := by
  have HB : Hid (Below w.heap.size w (w.alloc (.cells #[.int .i64 K, .int .i64 M, .int .i64 bl] 23))) := bal _ _
  by_cases h1 : K < 1
  · have g1 : decide (K < 1) = true := decide_eq_true h1
    clear h
    go_enter Tryz.func6, Tryz.ntmps6
    go_wp2
    go_ret
    exact ⟨rfl, HB.out⟩
  · have g1 : decide (K < 1) = false := decide_eq_false h1
    by_cases h2 : M < 1
    · have g2 : decide (M < 1) = true := decide_eq_true h2
      clear h h1
      go_enter Tryz.func6, Tryz.ntmps6
      go_wp2
      go_ret
      exact ⟨rfl, HB.out⟩
    · have g2 : decide (M < 1) = false := decide_eq_false h2
      by_cases h3 : 12 < K
      · have g3 : decide (12 < K) = true := decide_eq_true h3
        clear h h1 h2
        go_enter Tryz.func6, Tryz.ntmps6
        go_wp2
        go_ret
        exact ⟨rfl, HB.out⟩
      · have g3 : decide (12 < K) = false := decide_eq_false h3
        have g4 : decide (12 < M) = true := decide_eq_true (by omega)
        clear h h1 h2 h3
        go_enter Tryz.func6, Tryz.ntmps6
        go_wp2
        go_ret
        exact ⟨rfl, HB.out⟩
end Go.Proofs.YtebngmgdciahiaaGreatDoor
