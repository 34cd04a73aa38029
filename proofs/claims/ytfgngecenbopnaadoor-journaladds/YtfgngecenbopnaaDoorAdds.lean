/-
  The law JournalAdds of layer 7 (versions added with rising ids, some dropped again: what is left is found, in order, the last one is the latest) answers true for all steps and drops, where crc's table is as the program's text lays it.
-/
import Derived.Test.YtfgngecenbopnaaDoorRows
import Derived.WalkKit
import Derived.ProofKit
import Derived.OpenShut
import Derived.ShutString
import Derived.ChangeOld
import Derived.Below
import Derived.SizedLaws
import Derived.LaidMore
import Derived.Stop.Joined
import Derived.SevenTiedAt
import Derived.Test.YtfgngecenbopnaaDoorCards
import Derived.Test.YtfgngecenbopnaaDoorTie
import Derived.Test.YtfgngecenbopnaaDoorJnX
import Derived.Test.YtfgngecenbopnaaDoorJnZo
import Derived.Test.YtfgngecenbopnaaDoorJnQ
import Derived.Test.YtfgngecenbopnaaDoorLaid4
import Derived.Test.YtfgngecenbopnaaDoorOp7
namespace Go.Proofs.YtfgngecenbopnaaDoor
namespace journalAdds
open Go.ChangeShapes Go.WideShapes Go.ChangeAt Go.RowKit Crc
set_option linter.unusedVariables false
attribute [local go_sem ↓] Go.wp_at_zero Go.wp_at_succ

theorem own : ownKnob Tryd.prog.godebug = none := by kernel_rfl
theorem laidOut : laidOutB Tryd.prog = true := by kernel_rfl


open Classical in
set_option maxRecDepth 100000 in
set_option maxHeartbeats 16000000 in
theorem core (a : Option Addr) (n c : Nat) (f : Nat → Nat) (a' : Option Addr) (n' c' : Nat) (f' : Nat → Nat) (w : World) (T : HalfT w) (h : Row w a n f) (z : a = none → n = 0 ∧ c = 0) (hn : n ≤ maxLen) (hc : n ≤ c) (h' : Row w a' n' f') (z' : a' = none → n' = 0 ∧ c' = 0) (hn' : n' ≤ maxLen) (hc' : n' ≤ c') :
    Calls Tryd.prog 3 #[.slice a n c, .slice a' n' c'] w fun e w' => e = .returned (.bool true) ∧ Below w.heap.size w w' := by
  have cA := awake_any w T
  have R0 : Hid (Row w a n f) := h
  have R0' : Hid (Row w a' n' f') := h'
  unfold maxLen at hn hn'
  clear T h z h' z'
  go_enter Tryd.func3, Tryd.ntmps3
  go_wp2_with fail
  go_at_call 4
  refine cA.mono ?_
  rintro e w1 ⟨rfl, b1⟩
  clear cA
  by_cases h1 : 60 < n
  · have g1 : (60 : Int) < (n : Int) := by omega
    go_wp2
    go_ret
    exact ⟨rfl, b1⟩
  have g1 : decide ((60 : Int) < (n : Int)) = false := decide_eq_false (by omega)
  by_cases h2 : 60 < n'
  · have g2 : (60 : Int) < (n' : Int) := by omega
    go_wp2
    go_ret
    exact ⟨rfl, b1⟩
  have g2 : decide ((60 : Int) < (n' : Int)) = false := decide_eq_false (by omega)
  obtain ⟨Z, hZ⟩ : ∃ Z, w1.alloc (.cells #[.int .i64 0, .string sX, .slice none 0 0] 26) = Z := ⟨_, rfl⟩
  have bZ : Below w1.heap.size w1 Z := by rw [← hZ]; exact bal _ _
  have jZ : JV Z w1.heap.size none 0 0 (fun _ => zeroV) := ⟨by rw [← hZ]; exact heap_alloc_new _ _, Nat.le_refl _, .inl ⟨rfl, rfl, rfl⟩⟩
  obtain ⟨zc0, zc1, zc2⟩ := jZ.j.at
  have zf : ∀ j, Z.frozen? ⟨w1.heap.size, j, none⟩ = false := jZ.j.soft
  obtain ⟨Z1, hZ1⟩ : ∃ Z1, Z.setCell ⟨w1.heap.size, 2, none⟩ (.slice none 0 0) = Z1 := ⟨_, rfl⟩
  have HJZ : Hid (JV Z1 w1.heap.size none 0 0 (fun _ => zeroV)) := ⟨by rw [← hZ1]; exact heap_setCell_same _ _ 2 _ _ _ jZ.j, Nat.le_refl _, .inl ⟨rfl, rfl, rfl⟩⟩
  have HBZ : Hid (Below w1.heap.size w1 Z1) := by unfold Hid; rw [← hZ1]; exact bZ.setCell (p := ⟨w1.heap.size, 2, none⟩) (Nat.le_refl _) _
  have RS : Hid (Row w1 a n f) := R0.out.keep b1
  have RD : Hid (Row w1 a' n' f') := R0'.out.keep b1
  have HB1 : Hid (Below w.heap.size w w1) := b1
  clear bZ jZ R0 R0' b1
  unfold sX at hZ zc1
  go_wp2_with fail
  clear hZ zc0 zc1 zc2 zf hZ1
  go_loopw [6, 7, 8] (fun x l i wr => ∃ (k ca : Nat) (xx : Int) (av : Option Addr) (L : Nat → Int) (G : Nat → Ver), k ≤ n ∧ i = .int .i64 k ∧ x = .int .i64 xx ∧ 0 ≤ xx ∧ xx ≤ 9 * k ∧ JV wr w1.heap.size av k ca G ∧ IOwn wr w1.heap.size l k L ∧ (∀ i, (G i).fits) ∧ (∀ i, i < k → (G i).id = L i) ∧ mayJ 0 1 k G = true ∧ lastId G k ≤ xx ∧ Below w1.heap.size w1 wr) (fun _ _ i _ => n - (intOf i).toNat)
  case atStart => exact ⟨0, 0, 0, none, fun _ => 0, fun _ => zeroV, by omega, rfl, rfl, by omega, by omega, HJZ.out, IOwn.start _ _ _, fun _ => zeroV_fits, fun i hi => absurd hi (by omega), rfl, by unfold lastId; rw [if_pos rfl]; omega, HBZ.out⟩
  case round =>
    obtain ⟨k, ca, xx, av, L, G, hk, rfl, rfl, hx0, hx9, hJ, hI, hGf, hGL, hM, hla, hB⟩ := hrel
    clear HJZ HBZ
    by_cases hlt : k < n
    · have ik : (k : Int) < (n : Int) := by omega
      obtain ⟨b0, o0, rfl, hA⟩ := (RS.out.keep hB).lies (by omega)
      have x4 := hA k hlt
      have ly := RS.out.lt k
      obtain ⟨x', hx'⟩ : ∃ x' : Int, xx + 1 + ((f k : Nat) : Int) % 9 = x' := ⟨_, rfl⟩
      have hxl : xx < x' := by omega
      have hx9' : x' ≤ 9 * ((k + 1 : Nat) : Int) := by omega
      have hM' := may_add hM (by omega) (show lastId G k < x' by omega) (by omega) (by omega)
      have hfx : (idV x').fits := idV_fits (by omega) (by omega)
      have cD : Calls Tryd.prog 5 #[.agg #[.int .i64 0, .string { data := #[120] }, .slice av k ca], .agg #[.int .i64 x', .bool false, .int .i64 0, .int .u32 0]] wr fun e w' => Below wr.heap.size wr w' ∧ ∃ g, e = .returned (.tuple #[.agg #[.int .i64 0, .string { data := #[120] }, .slice (some ⟨g, 0, none⟩) (k + 1) (k + 1)], .int .i64 0]) ∧ VB w' g (k + 1) (upd G k (idV x')) := by
        refine (add_new 0 sX av k ca G (idV x') wr (hJ.vs hGf) hfx (by show 1 ≤ maxLen; unfold maxLen; omega) (by unfold maxLen; omega)).mono ?_
        rintro e w' ⟨⟨h, _⟩ | ⟨_, h, _⟩ | ⟨_, _, g, h, hv⟩, b⟩
        · omega
        · rw [show mayJ 0 sX.size (k + 1) (upd G k (idV x')) = true from hM'] at h; cases h
        · exact ⟨b, g, h, hv⟩
      obtain ⟨c0, c1, c2⟩ := hJ.j.at
      have hGf' : ∀ i, (upd G k (idV x') i).fits := upd_fits hGf hfx
      have HJ : Hid (JV wr w1.heap.size av k ca G) := hJ
      have HI : Hid (IOwn wr w1.heap.size u7 k L) := hI
      have HGf : Hid (∀ i, (upd G k (idV x') i).fits) := hGf'
      have HGL : Hid (∀ i, i < k + 1 → (upd G k (idV x') i).id = catI k L (fun _ => x') i) := fun i hi => by
        unfold catI
        by_cases e : i < k
        · rw [upd_ne _ _ (by omega), if_pos e]; exact hGL i e
        · have : i = k := by omega
          subst this
          rw [upd_at, if_neg e]; rfl
      have HM : Hid (mayJ 0 1 (k + 1) (upd G k (idV x')) = true) := hM'
      have HLa : Hid (lastId (upd G k (idV x')) (k + 1) = x') := lastId_add _ _ _
      have HBr : Hid (Below w1.heap.size w1 wr) := hB
      have hx0' : 0 ≤ x' := by omega
      unfold sX at c1
      clear hJ hI hGf hGL hM hla hB hGf' hfx hA hM' hx9
      generalize upd G k (idV x') = GG at *
      go_upto_region 12 with fail

      clear hx' x4 ly
      go_wp2_with fail
      go_at_call 5
      refine cD.mono ?_
      rintro e w2 ⟨b2, g, rfl, vb2⟩
      clear cD c0 c1 c2
      obtain ⟨X, hX, hjX, bX⟩ := box_jn w2 26 0 sX (.slice (some ⟨g, 0, none⟩) (k + 1) (k + 1))
      obtain ⟨p0, p1, p2⟩ := hjX
      have hjX : JAt X w2.heap.size 0 sX (.slice (some ⟨g, 0, none⟩) (k + 1) (k + 1)) := ⟨p0, p1, p2⟩
      have vbX := vb2.keep bX
      have cE : Calls Tryd.prog 5 #[.agg #[.int .i64 0, .string { data := #[120] }, .slice (some ⟨g, 0, none⟩) (k + 1) (k + 1)], .agg #[.int .i64 (x' - 1), .bool false, .int .i64 0, .int .u32 0]] X fun e w' => Below X.heap.size X w' ∧ e = .returned (.tuple #[.agg #[.int .i64 0, .string { data := #[] }, .slice none 0 0], .int .i64 1]) := by
        refine (add_new 0 sX _ (k + 1) (k + 1) GG (idV (x' - 1)) X (vbX.vs HGf.out) (idV_fits (by omega) (by omega)) (by show 1 ≤ maxLen; unfold maxLen; omega) (by unfold maxLen; omega)).mono ?_
        rintro e w' ⟨⟨h, _⟩ | ⟨_, _, h⟩ | ⟨_, h, _⟩, b⟩
        · omega
        · exact ⟨b, h⟩
        · rw [show mayJ 0 sX.size (k + 1 + 1) (upd GG (k + 1) (idV (x' - 1))) = false from may_low (by rw [HLa.out]; omega)] at h; cases h
      have bwX := hop b2 bX
      have HJX : Hid (JV X w1.heap.size av k ca G) := HJ.out.keep bwX
      have HIX : Hid (IOwn X w1.heap.size u7 k L) := HI.out.keep bwX
      have HVX : Hid (VB X g (k + 1) GG) := vbX
      have HPX : Hid (JAt X w2.heap.size 0 sX (.slice (some ⟨g, 0, none⟩) (k + 1) (k + 1))) := hjX
      have HBX : Hid (Below w1.heap.size w1 X) := hop HBr.out bwX
      clear b2 vb2 bX vbX bwX hjX HJ HI HBr
      unfold sX at hX p1
      go_wp2_with fail
      go_at_call 5
      refine cE.mono ?_
      rintro e w3 ⟨b3, rfl⟩
      clear cE p0 p1 p2 hX
      obtain ⟨Y, hY⟩ : ∃ Y, w3.alloc (.cells #[.int .i64 0, .string { data := #[] }, .slice none 0 0] 26) = Y := ⟨_, rfl⟩
      have hjY : JB Y w3.heap.size 0 { data := #[] } (.slice none 0 0) 26 := by rw [← hY]; exact heap_alloc_new _ _
      have bY : Below w3.heap.size w3 Y := by rw [← hY]; exact bal _ _
      obtain ⟨y0, y1, y2⟩ := hjY.at
      have fY : ∀ j, Y.frozen? ⟨w3.heap.size, j, none⟩ = false := hjY.soft
      obtain ⟨Y1, hY1⟩ : ∃ Y1, ((Y.setCell ⟨w3.heap.size, 0, none⟩ (.int .i64 0)).setCell ⟨w3.heap.size, 1, none⟩ (.string { data := #[] })).setCell ⟨w3.heap.size, 2, none⟩ (.slice none 0 0) = Y1 := ⟨_, rfl⟩
      have bY1 : Below w3.heap.size w3 Y1 := by rw [← hY1]; exact below3 bY (Nat.le_refl _) _ _ _
      have bXY := hop b3 bY1
      have hJ1 := HJX.out.keep bXY
      obtain ⟨d0, d1, d2⟩ := hJ1.j.at
      have fd : ∀ j, Y1.frozen? ⟨w1.heap.size, j, none⟩ = false := hJ1.j.soft
      obtain ⟨p0, p1, p2⟩ := HPX.out.keep bXY
      obtain ⟨Y2, hY2⟩ : ∃ Y2, ((Y1.setCell ⟨w1.heap.size, 0, none⟩ (.int .i64 0)).setCell ⟨w1.heap.size, 1, none⟩ (.string sX)).setCell ⟨w1.heap.size, 2, none⟩ (.slice (some ⟨g, 0, none⟩) (k + 1) (k + 1)) = Y2 := ⟨_, rfl⟩
      have hJ2 : JV Y2 w1.heap.size (some ⟨g, 0, none⟩) (k + 1) (k + 1) GG := by rw [← hY2]; exact jv_store hJ1.j (HVX.out.keep bXY)
      have hI2 : IOwn Y2 w1.heap.size u7 k L := by rw [← hY2]; exact ints_store (HIX.out.keep bXY) hJ1.j _
      have hB2 : Below w1.heap.size w1 Y2 := by rw [← hY2]; exact below3 (hop HBX.out bXY) (Nat.le_refl _) _ _ _
      obtain ⟨E, hE⟩ : ∃ E, Y2.alloc (.cells #[.int .i64 x'] 3) = E := ⟨_, rfl⟩
      have bE : Below Y2.heap.size Y2 E := by rw [← hE]; exact bal _ _
      have lE : IR E (some ⟨Y2.heap.size, 0, none⟩) 1 (fun _ => x') := by rw [← hE]; exact litI _ _
      obtain ⟨v', R, hr, oR, gR, bR⟩ := appendI (c := 1) (hI2.keep bE) lE (fun e => by cases e) (by omega) (Nat.le_trans hB2.size bE.size)
      have HJR : Hid (JV R w1.heap.size (some ⟨g, 0, none⟩) (k + 1) (k + 1) GG) := (hJ2.keep bE).grown (hI2.keep bE) gR
      have HIR : Hid (IOwn R w1.heap.size v' (k + 1) (catI k L (fun _ => x'))) := oR
      have HBR : Hid (Below w1.heap.size w1 R) := (hB2.trans (bE.mono hB2.size)).trans bR
      have HA : Hid (Sem.run Tryd.prog (Builtin.append_ #[27, 27] 27 #[u7, .slice (some ⟨Y2.heap.size, 0, none⟩) 1 1]) E = .ok v' R) := hr
      unfold sX at hY2 d1 p1
      clear b3 hjY bY bY1 bXY hJ1 hJ2 hI2 hB2 bE lE hr oR gR bR HJX HIX HVX HPX HBX
      go_wp2_with (at_builtin; refine wpList_append_ran (by rfl) _ _ 27 (by rfl) _ _ _ _ (by rfl) (by rfl) HA.out ?_)
      go_round
      case rel => exact ⟨k + 1, k + 1, x', some ⟨g, 0, none⟩, catI k L (fun _ => x'), GG, by omega, by go_num, rfl, hx0', hx9', HJR.out, HIR.out, HGf.out, HGL.out, HM.out, by rw [HLa.out]; omega, HBR.out⟩
      case measure => simp [intOf]; omega
    · have hkn : k = n := by omega
      subst hkn
      have HJ : Hid (JV wr w1.heap.size av k ca G) := hJ
      have HI : Hid (IOwn wr w1.heap.size u7 k L) := hI
      have HGf : Hid (∀ i, (G i).fits) := hGf
      have HGL : Hid (∀ i, i < k → (G i).id = L i) := hGL
      have HM : Hid (mayJ 0 1 k G = true) := hM
      have HBr : Hid (Below w1.heap.size w1 wr) := hB
      clear hJ hI hGf hGL hM hla hB hx0 hx9
      go_wp2_with fail
      go_loopw [7, 13] (fun l i wr => ∃ (q m ca : Nat) (av : Option Addr) (L : Nat → Int) (G : Nat → Ver), q ≤ n' ∧ m ≤ 60 ∧ i = .int .i64 q ∧ JV wr w1.heap.size av m ca G ∧ IOwn wr w1.heap.size l m L ∧ (∀ i, (G i).fits) ∧ (∀ i, i < m → (G i).id = L i) ∧ mayJ 0 1 m G = true ∧ Below w1.heap.size w1 wr) (fun _ i _ => n' - (intOf i).toNat)
      case atStart => exact ⟨0, k, ca, av, L, G, by omega, by omega, rfl, HJ.out, HI.out, HGf.out, HGL.out, HM.out, HBr.out⟩
      case round =>
        clear HJ HI HGf HGL HM HBr
        clear L G av ca
        obtain ⟨q, m, ca, av, L, G, hq, hm6, rfl, hJ, hI, hGf, hGL, hM, hB⟩ := hrel
        by_cases hin : q < n' ∧ 0 < m
        · obtain ⟨hlt, hm0⟩ := hin
          have ik : (q : Int) < (n' : Int) := by omega
          have ik2 : (0 : Int) < (m : Int) := by omega
          have ik3 : (m : Int) ≠ 0 := by omega
          obtain ⟨b0, o0, rfl, hA⟩ := (RD.out.keep hB).lies (by omega)
          have x4 := hA q hlt
          have ly := RD.out.lt q
          obtain ⟨d, hd⟩ : ∃ d, f' q % m = d := ⟨_, rfl⟩
          have hdm : d < m := by rw [← hd]; exact Nat.mod_lt _ hm0
          have ed : ((f' q : Nat) : Int) % (m : Int) = (d : Int) := by rw [← hd]; exact (Int.natCast_emod _ _).symm
          obtain ⟨la, lc, rfl, lR, lz, lle, _⟩ := hI.row
          obtain ⟨bl, ol, rfl, hL⟩ := lR hm0
          have l4 := hL d hdm
          have id1 : (d : Int) < (m : Int) := by omega
          obtain ⟨mr5, hpl⟩ : mayR G m = true ∧ Pl G (L d) m d := by
            have h5 := (mayJ_iff.1 hM).2.2.2.2
            have h6 := pl_at h5 hdm
            rw [hGL d hdm] at h6
            exact ⟨h5, h6⟩
          obtain ⟨y0, hy0⟩ : ∃ y0, L d = y0 := ⟨_, rfl⟩
          have cD : ∀ X, Below wr.heap.size wr X → Calls Tryd.prog 6 #[.agg #[.int .i64 0, .string { data := #[120] }, .slice av m ca], .int .i64 y0] X fun e w' => Below X.heap.size X w' ∧ ∃ g, e = .returned (.tuple #[.agg #[.int .i64 0, .string { data := #[120] }, .slice (some ⟨g, 0, none⟩) (m - 1) (m - 1)], .bool true]) ∧ VB w' g (m - 1) (dropF G d) := fun X hX => by
            refine (drop_new 0 sX av m ca G y0 X ((hJ.vs hGf).keep hX) hJ.le (by omega)).mono ?_
            rw [← hy0]
            rintro e w' ⟨⟨k', hk', g, h, hv⟩ | ⟨h, _⟩, b⟩
            · rw [hk'.one hpl] at hv; exact ⟨b, g, h, hv⟩
            · exact absurd h (fun q => hpl.not q)
          obtain ⟨c0, c1, c2⟩ := hJ.j.at
          rw [hy0] at l4
          have q1 : Calls Tryd.prog 6 #[.agg #[.int .i64 0, .string { data := #[120] }, .slice av m ca], .int .i64 y0] wr.drew fun e w' => Below wr.heap.size wr w' ∧ ∃ g, e = .returned (.tuple #[.agg #[.int .i64 0, .string { data := #[120] }, .slice (some ⟨g, 0, none⟩) (m - 1) (m - 1)], .bool true]) ∧ VB w' g (m - 1) (dropF G d) :=
            (cD _ ((Below.refl _ _).drew : Below wr.heap.size wr wr.drew)).mono fun e w' h => ⟨hop ((Below.refl _ _).drew : Below wr.heap.size wr wr.drew) h.1, h.2⟩
          have q2 : Calls Tryd.prog 6 #[.agg #[.int .i64 0, .string { data := #[120] }, .slice av m ca], .int .i64 y0] (wr.alloc (.cells #[.int .i64 0, .string { data := #[] }, .slice none 0 0] 26)).drew fun e w' => Below wr.heap.size wr w' ∧ (∃ g, e = .returned (.tuple #[.agg #[.int .i64 0, .string { data := #[120] }, .slice (some ⟨g, 0, none⟩) (m - 1) (m - 1)], .bool true]) ∧ VB w' g (m - 1) (dropF G d)) ∧ JB w' wr.heap.size 0 { data := #[] } (.slice none 0 0) 26 :=
            (cD _ ((bal _ _).drew : Below wr.heap.size wr (wr.alloc (.cells #[.int .i64 0, .string { data := #[] }, .slice none 0 0] 26)).drew)).mono fun e w' h => ⟨hop ((bal _ _).drew : Below wr.heap.size wr (wr.alloc (.cells #[.int .i64 0, .string { data := #[] }, .slice none 0 0] 26)).drew) h.1, h.2, (show JB (wr.alloc (.cells #[.int .i64 0, .string { data := #[] }, .slice none 0 0] 26)).drew wr.heap.size 0 { data := #[] } (.slice none 0 0) 26 from heap_alloc_new _ _).keep h.1⟩
          have HS : Hid (∀ X, Below wr.heap.size wr X → X.cell? ⟨w1.heap.size, 0, none⟩ = some (.int .i64 0) ∧ X.cell? ⟨w1.heap.size, 1, none⟩ = some (.string { data := #[120] }) ∧ X.cell? ⟨w1.heap.size, 2, none⟩ = some (.slice av m ca) ∧ X.cell? ⟨bl, ol + d, none⟩ = some (.int .i64 y0)) := fun X hX => by
            have hh := hJ.keep hX
            obtain ⟨e0, e1, e2⟩ := hh.j.at
            exact ⟨e0, e1, e2, (hX.cell (p := ⟨bl, ol + d, none⟩) (block_lt_of_cell l4)).trans l4⟩
          unfold sX at c1
          have HJ : Hid (JV wr w1.heap.size av m ca G) := hJ
          have HI : Hid (IOwn wr w1.heap.size (.slice (some ⟨bl, ol, none⟩) m lc) m L) := hI
          have HGf : Hid (∀ i, (G i).fits) := hGf
          have HGL : Hid (∀ i, i < m → (G i).id = L i) := hGL
          have HM : Hid (mayJ 0 1 m G = true) := hM
          have HBr : Hid (Below w1.heap.size w1 wr) := hB
          have HPl : Hid (mayR G m = true ∧ (G d).id = y0) := ⟨mr5, by rw [hGL d hdm]; exact hy0⟩
          clear hJ hI hGf hGL hM hB cD hA mr5 hpl hL lR hy0
          go_upto_region 22 with fail
          rw [ed]
          clear ed hd x4 ly
          go_cut [15, 16] from 76 to 128 (fun p ok wx => ∃ b5 g, p = .pointer (some ⟨b5, 0, none⟩) ∧ ok = .bool true ∧ JB wx b5 0 sX (.slice (some ⟨g, 0, none⟩) (m - 1) (m - 1)) 26 ∧ VB wx g (m - 1) (dropF G d) ∧ Below wr.heap.size wr wx)
          case first =>
            go_region_held3 (fun X => X.cell? ⟨w1.heap.size, 0, none⟩ = some (.int .i64 0) ∧ X.cell? ⟨w1.heap.size, 1, none⟩ = some (.string { data := #[120] }) ∧ X.cell? ⟨w1.heap.size, 2, none⟩ = some (.slice av m ca) ∧ X.cell? ⟨bl, ol + d, none⟩ = some (.int .i64 y0))
              (exact HS.out _ (by (repeat (first | with_reducible exact Below.refl _ _ | with_reducible assumption | refine Below.drew ?_ | refine hop ?_ (bal _ _) | with_reducible exact below3 (by assumption) (Nat.le_refl _) _ _ _ | with_reducible exact below3 (hop (by assumption) (bal _ _)) (Below.size (by assumption)) _ _ _))))
              (first
                | (go_at_call 6; with_reducible refine q1.mono ?_; rintro e wx ⟨bw, g, rfl, vbw⟩)
                | (go_at_call 6; with_reducible refine q2.mono ?_; rintro e wx ⟨bw, ⟨g, rfl, vbw⟩, jb⟩; obtain ⟨n0, n1, n2⟩ := jb.at; have nf := jb.soft))
            · go_wp2_with fail
              go_meet
              exact ⟨_, g, rfl, rfl, heap_alloc_new _ _, vbw.keep (bal _ _), hop bw (bal _ _)⟩
            · go_wp2_with fail
              go_meet
              have k0 : JB (wx.setCell ⟨wr.heap.size, 0, none⟩ (.int .i64 0)) wr.heap.size 0 { data := #[] } (.slice none 0 0) 26 := heap_setCell_same _ wr.heap.size 0 _ _ _ jb
              have k1 : JB ((wx.setCell ⟨wr.heap.size, 0, none⟩ (.int .i64 0)).setCell ⟨wr.heap.size, 1, none⟩ (.string { data := #[120] })) wr.heap.size 0 sX (.slice none 0 0) 26 := heap_setCell_same _ wr.heap.size 1 _ _ _ k0
              have hne := vbw.ne jb
              exact ⟨_, g, rfl, rfl, heap_setCell_same _ wr.heap.size 2 _ _ _ k1, ((vbw.other hne _ _).other hne _ _).other hne _ _, below3 bw (Nat.le_refl _) _ _ _⟩
          case rest =>
            obtain ⟨b5, g, rfl, rfl, hj5, hv5, hb5⟩ := hcut
            have hfd : ∀ i, (dropF G d i).fits := fun i => by unfold dropF; split; exact HGf.out _; exact HGf.out _
            have V5 : Vs wc (some ⟨g, 0, none⟩) (m - 1) (dropF G d) := hv5.vs hfd
            have I5 : Hid (IOwn wc w1.heap.size (.slice (some ⟨bl, ol, none⟩) m lc) m L) := HI.out.keep hb5
            have J5 : Hid (JV wc w1.heap.size av m ca G) := HJ.out.keep hb5
            have l5 : wc.cell? ⟨bl, ol + d, none⟩ = some (.int .i64 y0) := (hb5.cell (p := ⟨bl, ol + d, none⟩) (block_lt_of_cell l4)).trans l4
            have B5 : Hid (Below w1.heap.size w1 wc) := hop HBr.out hb5
            have hn5 : ∀ i, i < m - 1 → (dropF G d i).id ≠ y0 := fun i hi => by rw [← HPl.out.2]; exact no_again HPl.out.1 hdm i hi
            clear l4 HJ HI HBr hb5 q1 q2 HS
            generalize wc = W5 at *
            have cD : ∀ X, Below W5.heap.size W5 X → Calls Tryd.prog 6 #[.agg #[.int .i64 0, .string { data := #[120] }, .slice (some ⟨g, 0, none⟩) (m - 1) (m - 1)], .int .i64 y0] X fun e w' => Below W5.heap.size W5 w' ∧ e = .returned (.tuple #[.agg #[.int .i64 0, .string { data := #[] }, .slice none 0 0], .bool false]) := fun X hX => by
              refine (drop_new 0 sX (some ⟨g, 0, none⟩) (m - 1) (m - 1) (dropF G d) y0 X (V5.keep hX) (Nat.le_refl _) (by omega)).mono ?_
              rintro e w' ⟨⟨k', hk', _⟩ | ⟨_, h⟩, b⟩
              · exact absurd hk'.eq (hn5 k' hk'.lt)
              · exact ⟨hop hX b, h⟩
            have q1 := cD _ ((Below.refl _ _).drew : Below W5.heap.size W5 W5.drew)
            have q2 : Calls Tryd.prog 6 #[.agg #[.int .i64 0, .string { data := #[120] }, .slice (some ⟨g, 0, none⟩) (m - 1) (m - 1)], .int .i64 y0] (W5.alloc (.cells #[.int .i64 0, .string { data := #[] }, .slice none 0 0] 26)).drew fun e w' => Below W5.heap.size W5 w' ∧ e = .returned (.tuple #[.agg #[.int .i64 0, .string { data := #[] }, .slice none 0 0], .bool false]) ∧ JB w' W5.heap.size 0 { data := #[] } (.slice none 0 0) 26 := by
              refine (drop_new 0 sX (some ⟨g, 0, none⟩) (m - 1) (m - 1) (dropF G d) y0 _ (V5.keep (bal W5 (.cells #[.int .i64 0, .string { data := #[] }, .slice none 0 0] 26)).drew) (Nat.le_refl _) (by omega)).mono ?_
              rintro e w' ⟨⟨k', hk', _⟩ | ⟨_, h⟩, b⟩
              · exact absurd hk'.eq (hn5 k' hk'.lt)
              · exact ⟨hop (bal W5 (.cells #[.int .i64 0, .string { data := #[] }, .slice none 0 0] 26)).drew b, h, (show JB (W5.alloc (.cells #[.int .i64 0, .string { data := #[] }, .slice none 0 0] 26)).drew W5.heap.size 0 { data := #[] } (.slice none 0 0) 26 from heap_alloc_new _ _).keep b⟩
            obtain ⟨c0, c1, c2⟩ := hj5.at
            have HS : Hid (∀ X, Below W5.heap.size W5 X → X.cell? ⟨b5, 0, none⟩ = some (.int .i64 0) ∧ X.cell? ⟨b5, 1, none⟩ = some (.string { data := #[120] }) ∧ X.cell? ⟨b5, 2, none⟩ = some (.slice (some ⟨g, 0, none⟩) (m - 1) (m - 1)) ∧ X.cell? ⟨bl, ol + d, none⟩ = some (.int .i64 y0)) := fun X hX => by
              obtain ⟨e0, e1, e2⟩ := (hj5.keep hX).at
              exact ⟨e0, e1, e2, (hX.cell (p := ⟨bl, ol + d, none⟩) (block_lt_of_cell l5)).trans l5⟩
            have hj5' : Hid (JB W5 b5 0 sX (.slice (some ⟨g, 0, none⟩) (m - 1) (m - 1)) 26) := hj5
            have hv5' : Hid (VB W5 g (m - 1) (dropF G d)) := hv5
            have Hfd : Hid (∀ i, (dropF G d i).fits) := hfd
            unfold sX at c1
            clear hj5 hv5 hfd V5 hn5 cD
            go_upto_region 23 with fail
            go_cut [17, 18] from 76 to 128 (fun p ok wx => ok = .bool false ∧ Below W5.heap.size W5 wx)
            case first =>
              go_region_held3 (fun X => X.cell? ⟨b5, 0, none⟩ = some (.int .i64 0) ∧ X.cell? ⟨b5, 1, none⟩ = some (.string { data := #[120] }) ∧ X.cell? ⟨b5, 2, none⟩ = some (.slice (some ⟨g, 0, none⟩) (m - 1) (m - 1)) ∧ X.cell? ⟨bl, ol + d, none⟩ = some (.int .i64 y0))
                (exact HS.out _ (by (repeat (first | with_reducible exact Below.refl _ _ | with_reducible assumption | refine Below.drew ?_ | refine hop ?_ (bal _ _) | with_reducible exact below3 (by assumption) (Nat.le_refl _) _ _ _ | with_reducible exact below3 (hop (by assumption) (bal _ _)) (Below.size (by assumption)) _ _ _))))
                (first
                  | (go_at_call 6; with_reducible refine q1.mono ?_; rintro e wx ⟨bw, rfl⟩)
                  | (go_at_call 6; with_reducible refine q2.mono ?_; rintro e wx ⟨bw, rfl, jb⟩; obtain ⟨n0, n1, n2⟩ := jb.at; have nf := jb.soft))
              · go_wp2_with fail
                go_meet
                exact ⟨rfl, hop bw (bal _ _)⟩
              · go_wp2_with fail
                go_meet
                exact ⟨rfl, below3 bw (Nat.le_refl _) _ _ _⟩
            case rest =>
              obtain ⟨rfl, hb6⟩ := hcut
              have J6 := J5.out.keep hb6
              have I6 := I5.out.keep hb6
              have j6 := hj5'.out.keep hb6
              have v6 := hv5'.out.keep hb6
              have B6 := hop B5.out hb6
              clear J5 I5 hj5' hv5' B5 hb6 q1 q2 HS c0 c1 c2 l5
              generalize wc = W6 at *
              obtain ⟨c0, c1, c2⟩ := j6.at
              obtain ⟨d0, d1, d2⟩ := J6.j.at
              have fd : ∀ j, W6.frozen? ⟨w1.heap.size, j, none⟩ = false := J6.j.soft
              obtain ⟨Y2, hY2⟩ : ∃ Y2, ((W6.setCell ⟨w1.heap.size, 0, none⟩ (.int .i64 0)).setCell ⟨w1.heap.size, 1, none⟩ (.string sX)).setCell ⟨w1.heap.size, 2, none⟩ (.slice (some ⟨g, 0, none⟩) (m - 1) (m - 1)) = Y2 := ⟨_, rfl⟩
              have hJ2 : JV Y2 w1.heap.size (some ⟨g, 0, none⟩) (m - 1) (m - 1) (dropF G d) := by rw [← hY2]; exact jv_store J6.j v6
              have hI2 : IOwn Y2 w1.heap.size (.slice (some ⟨bl, ol, none⟩) m lc) m L := by rw [← hY2]; exact ints_store I6 J6.j _
              have hB2 : Below w1.heap.size w1 Y2 := by rw [← hY2]; exact below3 B6 (Nat.le_refl _) _ _ _
              unfold sX at c1 d1 hY2
              have HJ2 : Hid (JV Y2 w1.heap.size (some ⟨g, 0, none⟩) (m - 1) (m - 1) (dropF G d)) := hJ2
              have HI2 : Hid (IOwn Y2 w1.heap.size (.slice (some ⟨bl, ol, none⟩) m lc) m L) := hI2
              have HB2 : Hid (Below w1.heap.size w1 Y2) := hB2
              clear hJ2 hI2 hB2 J6 I6 j6 v6 B6
              go_upto_region 27 with fail
              obtain ⟨E, hE⟩ : ∃ E, (Y2.alloc (.cells #[] 3)).drew = E := ⟨_, rfl⟩
              have bE : Below Y2.heap.size Y2 E := by rw [← hE]; exact (bal _ _).drew
              have oE : IOwn E w1.heap.size (.slice (some ⟨Y2.heap.size, 0, none⟩) 0 0) 0 (fun _ => 0) := by rw [← hE]; exact IOwn.fresh Y2 _ _ HB2.out.size
              obtain ⟨aa, cc, ee, rr, _, hlc, _⟩ := (HI2.out.keep bE).row
              injection ee with e1 e2 e3
              subst e1; subst e3
              have hblt : bl < Y2.heap.size := by
                obtain ⟨aa, cc, ee, rr, _, _, _⟩ := HI2.out.row
                injection ee with e1 e2 e3
                subst e1
                obtain ⟨b9, o9, e9, h9⟩ := rr hm0
                cases e9
                exact block_lt_of_cell (a := ⟨bl, ol + 0, none⟩) (h9 0 hm0)
              obtain ⟨A1, hA1⟩ : ∃ A, (if lc = 0 then some (⟨bl, ol, none⟩ : Addr) else (some (⟨bl, ol, none⟩ : Addr)).map (·.add (0 * 1))) = A := ⟨_, rfl⟩
              obtain ⟨A2, hA2⟩ : ∃ A, (if lc = d + 1 then some (⟨bl, ol, none⟩ : Addr) else (some (⟨bl, ol, none⟩ : Addr)).map (·.add ((d + 1) * 1))) = A := ⟨_, rfl⟩
              have s1 := sliceI_h (some ⟨bl, ol, none⟩) m lc d (by omega) hlc
              have s2 := sliceI_l (some ⟨bl, ol, none⟩) m lc (d + 1) (by omega) hlc
              rw [hA1] at s1
              rw [hA2] at s2
              have i1 : IR E A1 d L := by
                have := rr.cut 0 d (by omega) hlc
                rw [hA1] at this
                simpa using this
              have i2 := rr.cut (d + 1) (m - (d + 1)) (by omega) hlc
              rw [hA2] at i2
              have y1 : ∃ o, A1 = some ⟨bl, o, none⟩ := by
                rw [← hA1]; split
                · exact ⟨_, rfl⟩
                · exact ⟨ol + 0, by simp [add_plain]⟩
              have y2 : ∃ o, A2 = some ⟨bl, o, none⟩ := by
                rw [← hA2]; split
                · exact ⟨_, rfl⟩
                · exact ⟨ol + (d + 1), by simp [add_plain]⟩
              obtain ⟨oa, y1⟩ := y1
              obtain ⟨ob, y2⟩ := y2
              clear hA1 hA2
              subst y1
              subst y2
              obtain ⟨v1, R1, hr1, o1, gr1, br1⟩ := appendI (c := lc) oE i1 (fun e => by cases e) (by omega) (Nat.le_trans HB2.out.size bE.size)
              have i2' := i2.grown gr1 (by simp only [Value.ownBlock]; intro e; injection e with e; omega)
              have br0 := HB2.out.trans (bE.mono HB2.out.size)
              obtain ⟨v2, R2, hr2, o2, gr2, br2⟩ := appendI (c := lc - (d + 1)) o1 i2' (fun e => by cases e) (by omega) (Nat.le_trans HB2.out.size (Nat.le_trans bE.size br1.size))
              have j1 : JV R1 w1.heap.size (some ⟨g, 0, none⟩) (m - 1) (m - 1) (dropF G d) := (HJ2.out.keep bE).grown oE gr1
              have HJR : Hid (JV R2 w1.heap.size (some ⟨g, 0, none⟩) (m - 1) (m - 1) (dropF G d)) := j1.grown o1 gr2
              rw [show 0 + d + (m - (d + 1)) = m - 1 by omega] at o2
              have HIR : Hid (IOwn R2 w1.heap.size v2 (m - 1) (catI (0 + d) (catI 0 (fun _ => 0) L) (fun i => L (d + 1 + i)))) := o2
              have HBR : Hid (Below w1.heap.size w1 R2) := (br0.trans br1).trans br2
              have HID : Hid (∀ i, i < m - 1 → (dropF G d i).id = catI (0 + d) (catI 0 (fun _ => 0) L) (fun i => L (d + 1 + i)) i) := ids_drop HGL.out _
              have HMD : Hid (mayJ 0 1 (m - 1) (dropF G d) = true) := may_drop HM.out hdm
              have HR1 : Hid (Sem.run Tryd.prog (Builtin.append_ #[27, 27] 27 #[.slice (some ⟨Y2.heap.size, 0, none⟩) 0 0, .slice (some ⟨bl, oa, none⟩) d lc]) E = .ok v1 R1) := hr1
              have HR2 : Hid (Sem.run Tryd.prog (Builtin.append_ #[27, 27] 27 #[v1, .slice (some ⟨bl, ob, none⟩) (m - (d + 1)) (lc - (d + 1))]) R1 = .ok v2 R2) := hr2
              have HQ : Hid (q + 1 ≤ n' ∧ m - 1 ≤ 60) := ⟨by omega, by omega⟩
              obtain ⟨d1, hd1⟩ : ∃ d1, d + 1 = d1 := ⟨_, rfl⟩
              have wd : IntKind.i64.wrap ((d : Int) + 1) = ((d1 : Nat) : Int) := by rw [wraps_i64' _ (by omega) (by omega)]; omega
              rw [hd1] at s2 HR2
              clear hd1
              clear oE rr i1 i2 gr1 i2' br0 o1 br1 o2 gr2 br2 j1 hr1 hr2 bE HJ2 HI2 HB2 hblt
              go_region_law (first
                | refine step_append_ran (by rfl) _ _ 27 (by rfl) (.slice (some ⟨Y2.heap.size, 0, none⟩) 0 0) (.slice (some ⟨bl, oa, none⟩) d lc) v1 R1 (by rfl) (by rfl) (by dsimp only; with_reducible exact HR1.out) ?_
                | refine step_append_ran (by rfl) _ _ 27 (by rfl) v1 (.slice (some ⟨bl, ob, none⟩) (m - d1) (lc - d1)) v2 R2 (by rfl) (by rfl) (by dsimp only; with_reducible exact HR2.out) ?_)
              go_wp2_with fail
              go_round
              case rel => exact ⟨q + 1, m - 1, m - 1, some ⟨g, 0, none⟩, _, dropF G d, HQ.out.1, HQ.out.2, by go_num, HJR.out, HIR.out, Hfd.out, HID.out, HMD.out, HBR.out⟩
              case measure => simp [intOf]; omega
        · by_cases h8 : q < n'
          · have h9 : m = 0 := by omega
            have g8 : (q : Int) < (n' : Int) := by omega
            have g8' : q < n' := h8
            have g9 : decide ((0 : Int) < (m : Int)) = false := decide_eq_false (by omega)
            have g9' : decide (0 < m) = false := decide_eq_false (by omega)
            have HZ : Hid (m = 0) := h9
            clear h9
            obtain ⟨la, lc, rfl, lR, lz, lle, _⟩ := hI.row
            have HJ : Hid (JV wr w1.heap.size av m ca G) := hJ
            have HlR : Hid (IR wr la m L) := lR
            have HGf : Hid (∀ i, (G i).fits) := hGf
            have HGL : Hid (∀ i, i < m → (G i).id = L i) := hGL
            have HM : Hid (mayJ 0 1 m G = true) := hM
            have HBr : Hid (Below w1.heap.size w1 wr) := hB
            have HVs : Hid (Vs wr av m G) := hJ.vs hGf
            clear hJ hI hGf hGL hM hB lR lz hq
            go_wp2_with fail
            generalize wr = U at *
            go_loopw [19] (fun i wx => ∃ t : Nat, t ≤ m ∧ i = .int .i64 t ∧ Below U.heap.size U wx) (fun i _ => m - (intOf i).toNat)
            case atStart => exact ⟨0, by omega, rfl, Below.refl _ _⟩
            case round =>
              obtain ⟨t, ht, rfl, hB3⟩ := hrel
              by_cases hlt3 : t < m
              · have := HZ.out; omega
              · have htm : t = m := by omega
                subst htm
                have ik3 : decide ((t : Int) < (t : Int)) = false := by simp
                have hVr := HVs.out.keep hB3
                obtain ⟨c0, c1, c2⟩ := (HJ.out.keep hB3).j.at
                have cL : Calls Tryd.prog 8 #[.agg #[.int .i64 0, .string { data := #[120] }, .slice av t ca]] wr fun e w' => LateEnd G t wr e w' := latest_any 0 sX av t ca G wr hVr (by unfold maxLen; omega)
                have cM : ∀ X, Below wr.heap.size wr X → Calls Tryd.prog 9 #[.agg #[.int .i64 0, .string { data := #[120] }, .slice av t ca]] X fun e w' => Below wr.heap.size wr w' ∧ e = .returned (.bool true) := fun X hX => by
                  refine (may_any 0 sX av t ca G X (hVr.keep hX) (by show 1 ≤ maxLen; unfold maxLen; omega) (by unfold maxLen; omega)).mono ?_
                  rintro e w' ⟨h, b⟩
                  rw [show mayJ 0 sX.size t G = true from HM.out] at h
                  exact ⟨hop hX b, h⟩
                have HCM : Hid (∀ X, Below wr.heap.size wr X → Calls Tryd.prog 9 #[.agg #[.int .i64 0, .string { data := #[120] }, .slice av t ca]] X fun e w' => Below wr.heap.size wr w' ∧ e = .returned (.bool true)) := cM
                have HJ3 : Hid (∀ X, Below wr.heap.size wr X → X.cell? ⟨w1.heap.size, 0, none⟩ = some (.int .i64 0) ∧ X.cell? ⟨w1.heap.size, 1, none⟩ = some (.string { data := #[120] }) ∧ X.cell? ⟨w1.heap.size, 2, none⟩ = some (.slice av t ca)) := fun X hX => by
                  obtain ⟨e0, e1, e2⟩ := (HJ.out.keep (hop hB3 hX)).j.at
                  exact ⟨e0, e1, e2⟩
                have HBE : Hid (Below w.heap.size w wr) := hop HB1.out (hop HBr.out hB3)
                have HlR3 : Hid (IR wr la t L) := HlR.out.keep hB3
                have HV3 : Hid (Vs wr av t G) := hVr
                unfold sX at c1
                clear hVr cM hB3
                by_cases h0 : t = 0
                · have cL0 : Calls Tryd.prog 8 #[.agg #[.int .i64 0, .string { data := #[120] }, .slice av t ca]] wr fun e w' => e = .returned (.tuple #[.agg #[.int .i64 0, .bool false, .int .i64 0, .int .u32 0], .bool false]) ∧ Below wr.heap.size wr w' := by
                    refine cL.mono ?_
                    rintro e w' ⟨⟨h, _⟩ | ⟨_, h⟩, b⟩
                    · exact absurd h0 h
                    · exact ⟨h, b⟩
                  have tz : decide ((0 : Int) < (t : Int)) = false := decide_eq_false (by omega)
                  have tz' : decide (0 < t) = false := decide_eq_false (by omega)
                  have H0 : Hid (t = 0) := h0
                  clear cL h0
                  go_wp2_with fail
                  go_at_call 8
                  refine cL0.mono ?_
                  rintro e w5 ⟨rfl, b5⟩
                  clear cL0 c0 c1 c2
                  obtain ⟨Y, hY⟩ : ∃ Y, w5.alloc (.cells #[.int .i64 0, .bool false, .int .i64 0, .int .u32 0] 33) = Y := ⟨_, rfl⟩
                  have hvY : VerB Y w5.heap.size zeroV := by rw [← hY]; exact heap_alloc_new _ _
                  have bY : Below w5.heap.size w5 Y := by rw [← hY]; exact bal _ _
                  obtain ⟨y0, y1, y2, y3⟩ := hvY.at
                  dsimp only [zeroV] at y0 y1 y2 y3
                  have fY : ∀ j, Y.frozen? ⟨w5.heap.size, j, none⟩ = false := hvY.soft
                  obtain ⟨Y1, hY1⟩ : ∃ Y1, (((Y.setCell ⟨w5.heap.size, 0, none⟩ (.int .i64 0)).setCell ⟨w5.heap.size, 1, none⟩ (.bool false)).setCell ⟨w5.heap.size, 2, none⟩ (.int .i64 0)).setCell ⟨w5.heap.size, 3, none⟩ (.int .u32 0) = Y1 := ⟨_, rfl⟩
                  have bY1 : Below w5.heap.size w5 Y1 := by rw [← hY1]; exact below4 bY (Nat.le_refl _) _ _ _ _
                  have B6 : Below wr.heap.size wr Y1 := hop b5 bY1
                  have HB6 : Hid (Below wr.heap.size wr Y1) := B6
                  have e3 := HJ3.out _ B6
                  obtain ⟨c0, c1, c2⟩ := e3
                  have ne : Nonempty (Grw Y1) := ⟨⟨Y1, Below.refl _ _⟩⟩
                  have s0 := fun p : Grw Y1 => Grw.cell c0 p
                  have s1 := fun p : Grw Y1 => Grw.cell c1 p
                  have s2 := fun p : Grw Y1 => Grw.cell c2 p
                  have cG : ∀ p : Grw Y1, Calls Tryd.prog 9 #[.agg #[.int .i64 0, .string { data := #[120] }, .slice av t ca]] p.to fun e w'' => e = .returned (.bool true) ∧ ∃ q : Grw Y1, w'' = q.to := fun p => Calls.grw (by
                    refine (may_any 0 sX av t ca G p.to (HV3.out.keep (hop B6 p.be)) (by show 1 ≤ maxLen; unfold maxLen; omega) (by unfold maxLen; omega)).mono ?_
                    rintro e w' ⟨h, b⟩
                    rw [show mayJ 0 sX.size t G = true from HM.out] at h
                    exact ⟨h, b⟩)
                  clear hvY bY bY1 b5 B6 c0 c1 c2
                  go_upto_region 35 with fail
                  clear hY hY1 y0 y1 y2 y3 fY
                  refine wp_region_grw (by kernel_rfl) (by kernel_rfl) ?_
                  repeat (go_big_quiet_step ((go_at_call 9; exact cG _)))
                  refine wpQuiet_nil ?_
                  rintro _ ⟨⟨wx, bx⟩, rfl⟩
                  go_wp2
                  go_ret
                  exact ⟨rfl, hop HBE.out (hop HB6.out bx)⟩
                · exact absurd HZ.out h0
          · skip
            have g8 : decide ((q : Int) < (n' : Int)) = false := decide_eq_false (by omega)
            obtain ⟨la, lc, rfl, lR, lz, lle, _⟩ := hI.row
            have HJ : Hid (JV wr w1.heap.size av m ca G) := hJ
            have HlR : Hid (IR wr la m L) := lR
            have HGf : Hid (∀ i, (G i).fits) := hGf
            have HGL : Hid (∀ i, i < m → (G i).id = L i) := hGL
            have HM : Hid (mayJ 0 1 m G = true) := hM
            have HBr : Hid (Below w1.heap.size w1 wr) := hB
            have HVs : Hid (Vs wr av m G) := hJ.vs hGf
            clear hJ hI hGf hGL hM hB lR lz hq
            go_wp2_with fail
            generalize wr = U at *
            go_loopw [19] (fun i wx => ∃ t : Nat, t ≤ m ∧ i = .int .i64 t ∧ Below U.heap.size U wx) (fun i _ => m - (intOf i).toNat)
            case atStart => exact ⟨0, by omega, rfl, Below.refl _ _⟩
            case round =>
              obtain ⟨t, ht, rfl, hB3⟩ := hrel
              by_cases hlt3 : t < m
              · have ik3 : (t : Int) < (m : Int) := by omega
                have ik4 : decide ((m : Int) ≤ (t : Int)) = false := decide_eq_false (by omega)
                obtain ⟨bl, ol, rfl, hL⟩ := HlR.out (by omega)
                obtain ⟨bv, ov, rfl, hv⟩ := HVs.out.lies (by omega)
                obtain ⟨y, hy⟩ : ∃ y, L t = y := ⟨_, rfl⟩
                obtain ⟨v, hvv⟩ : ∃ v, G t = v := ⟨_, rfl⟩
                have hvy : v.id = y := by rw [← hvv, ← hy]; exact HGL.out t hlt3
                have l4 : wr.cell? ⟨bl, ol + t, none⟩ = some (.int .i64 y) := by
                  rw [← hy]; exact (hB3.cell (p := ⟨bl, ol + t, none⟩) (block_lt_of_cell (hL t hlt3))).trans (hL t hlt3)
                have vt := (hv t hlt3).keep hB3
                rw [hvv] at vt
                have cF : ∀ X, Below wr.heap.size wr X → Calls Tryd.prog 7 #[.agg #[.int .i64 0, .string { data := #[120] }, .slice (some ⟨bv, ov, none⟩) m ca], .int .i64 y] X fun e w' => Below wr.heap.size wr w' ∧ e = .returned (.tuple #[.agg #[.int .i64 v.id, .bool v.mr, .int .i64 v.sz, .int .u32 (v.sm : Int)], .bool true]) := fun X hX => by
                  refine (find_any 0 sX (some ⟨bv, ov, none⟩) m ca y G X (HVs.out.keep (hop hB3 hX)) (by unfold maxLen; omega)).mono ?_
                  have hpl : Pl G y m t := by
                    have := pl_at (mayJ_iff.1 HM.out).2.2.2.2 hlt3
                    rw [hvv, hvy] at this; exact this
                  rintro e w' ⟨⟨k', hk', h⟩ | ⟨h, _⟩, b⟩
                  · rw [hk'.one hpl, hvv] at h; exact ⟨hop hX b, h⟩
                  · exact absurd h (fun q => hpl.not q)
                have q1 := cF _ ((Below.refl _ _).drew : Below wr.heap.size wr wr.drew)
                have q2 : Calls Tryd.prog 7 #[.agg #[.int .i64 0, .string { data := #[120] }, .slice (some ⟨bv, ov, none⟩) m ca], .int .i64 y] (wr.alloc (.cells #[.int .i64 0, .bool false, .int .i64 0, .int .u32 0] 33)).drew fun e w' => Below wr.heap.size wr w' ∧ e = .returned (.tuple #[.agg #[.int .i64 v.id, .bool v.mr, .int .i64 v.sz, .int .u32 (v.sm : Int)], .bool true]) ∧ VerB w' wr.heap.size zeroV := by
                  refine (find_any 0 sX (some ⟨bv, ov, none⟩) m ca y G _ (HVs.out.keep (hop hB3 (bal wr (.cells #[.int .i64 0, .bool false, .int .i64 0, .int .u32 0] 33)).drew)) (by unfold maxLen; omega)).mono ?_
                  have hpl : Pl G y m t := by
                    have := pl_at (mayJ_iff.1 HM.out).2.2.2.2 hlt3
                    rw [hvv, hvy] at this; exact this
                  rintro e w' ⟨⟨k', hk', h⟩ | ⟨h, _⟩, b⟩
                  · rw [hk'.one hpl, hvv] at h; exact ⟨hop (bal wr (.cells #[.int .i64 0, .bool false, .int .i64 0, .int .u32 0] 33)).drew b, h, (show VerB (wr.alloc (.cells #[.int .i64 0, .bool false, .int .i64 0, .int .u32 0] 33)).drew wr.heap.size zeroV from heap_alloc_new _ _).keep b⟩
                  · exact absurd h (fun q => hpl.not q)
                obtain ⟨c0, c1, c2⟩ := (HJ.out.keep hB3).j.at
                have HS : Hid (∀ X, Below wr.heap.size wr X → X.cell? ⟨w1.heap.size, 0, none⟩ = some (.int .i64 0) ∧ X.cell? ⟨w1.heap.size, 1, none⟩ = some (.string { data := #[120] }) ∧ X.cell? ⟨w1.heap.size, 2, none⟩ = some (.slice (some ⟨bv, ov, none⟩) m ca) ∧ X.cell? ⟨bl, ol + t, none⟩ = some (.int .i64 y)) := fun X hX => by
                  obtain ⟨e0, e1, e2⟩ := (HJ.out.keep (hop hB3 hX)).j.at
                  exact ⟨e0, e1, e2, (hX.cell (p := ⟨bl, ol + t, none⟩) (block_lt_of_cell l4)).trans l4⟩
                unfold sX at c1
                have HVT : Hid (VAt wr bv (ov + t * 4) v) := vt
                have HB3 : Hid (Below U.heap.size U wr) := hB3
                have HVY : Hid (v.id = y) := hvy
                clear hL hv hy hvv hvy vt cF hB3
                obtain ⟨vi, vm, vz, vs⟩ := v
                dsimp only at q1 q2 HVT HVY
                go_upto_region 31 with fail
                go_cut [20, 21] from 129 to 174 (fun p ok wx => ∃ b5, p = .pointer (some ⟨b5, 0, none⟩) ∧ ok = .bool true ∧ VerB wx b5 ⟨vi, vm, vz, vs⟩ ∧ Below wr.heap.size wr wx)
                case first =>
                  go_region_held3 (fun X => X.cell? ⟨w1.heap.size, 0, none⟩ = some (.int .i64 0) ∧ X.cell? ⟨w1.heap.size, 1, none⟩ = some (.string { data := #[120] }) ∧ X.cell? ⟨w1.heap.size, 2, none⟩ = some (.slice (some ⟨bv, ov, none⟩) m ca) ∧ X.cell? ⟨bl, ol + t, none⟩ = some (.int .i64 y))
                    (exact HS.out _ (by (repeat (first | with_reducible exact Below.refl _ _ | with_reducible assumption | refine Below.drew ?_ | refine hop ?_ (bal _ _) | with_reducible exact below4 (by assumption) (Nat.le_refl _) _ _ _ _ | with_reducible exact below4 (hop (by assumption) (bal _ _)) (Below.size (by assumption)) _ _ _ _))))
                    (first
                      | (go_at_call 7; with_reducible refine q1.mono ?_; rintro e wx ⟨bw, rfl⟩)
                      | (go_at_call 7; with_reducible refine q2.mono ?_; rintro e wx ⟨bw, rfl, jb⟩; obtain ⟨n0, n1, n2, n3⟩ := jb.at; have nf := jb.soft; dsimp only [zeroV] at n0 n1 n2 n3))
                  · go_wp2_with fail
                    go_meet
                    exact ⟨_, rfl, rfl, heap_alloc_new _ _, hop bw (bal _ _)⟩
                  · go_wp2_with fail
                    go_meet
                    have k0 : VerB (wx.setCell ⟨wr.heap.size, 0, none⟩ (.int .i64 vi)) wr.heap.size ⟨vi, false, 0, 0⟩ := heap_setCell_same _ wr.heap.size 0 _ _ _ jb
                    have k1 : VerB ((wx.setCell ⟨wr.heap.size, 0, none⟩ (.int .i64 vi)).setCell ⟨wr.heap.size, 1, none⟩ (.bool vm)) wr.heap.size ⟨vi, vm, 0, 0⟩ := heap_setCell_same _ wr.heap.size 1 _ _ _ k0
                    have k2 : VerB (((wx.setCell ⟨wr.heap.size, 0, none⟩ (.int .i64 vi)).setCell ⟨wr.heap.size, 1, none⟩ (.bool vm)).setCell ⟨wr.heap.size, 2, none⟩ (.int .i64 vz)) wr.heap.size ⟨vi, vm, vz, 0⟩ := heap_setCell_same _ wr.heap.size 2 _ _ _ k1
                    exact ⟨_, rfl, rfl, heap_setCell_same _ wr.heap.size 3 _ _ _ k2, below4 bw (Nat.le_refl _) _ _ _ _⟩
                case rest =>
                  obtain ⟨b5, rfl, rfl, hv5, hb5⟩ := hcut
                  have c2' := (HJ.out.keep (hop HB3.out hb5)).j.at.c2
                  have l4' := (hb5.cell (p := ⟨bl, ol + t, none⟩) (block_lt_of_cell l4)).trans l4
                  have t0 : wc.cell? ⟨bv, ov + t * 4, none⟩ = some (.int .i64 vi) := (HVT.out.keep hb5).c0
                  have y0 : wc.cell? ⟨b5, 0, none⟩ = some (.int .i64 vi) := hv5.at.c0
                  have HB5 : Hid (Below U.heap.size U wc) := hop HB3.out hb5
                  have hvy : vi = y := HVY.out
                  subst hvy
                  clear hv5 hb5 q1 q2 HS c0 c1 c2 l4 HVT HB3
                  go_upto_region 32 with fail
                  go_quiet (fail)
                  go_wp2
                  go_round
                  case rel => exact ⟨t + 1, by omega, by go_num, hop HB5.out (bdn _ _)⟩
                  case measure => simp [intOf]; omega
              · have htm : t = m := by omega
                subst htm
                have ik3 : decide ((t : Int) < (t : Int)) = false := by simp
                have hVr := HVs.out.keep hB3
                obtain ⟨c0, c1, c2⟩ := (HJ.out.keep hB3).j.at
                have cL : Calls Tryd.prog 8 #[.agg #[.int .i64 0, .string { data := #[120] }, .slice av t ca]] wr fun e w' => LateEnd G t wr e w' := latest_any 0 sX av t ca G wr hVr (by unfold maxLen; omega)
                have cM : ∀ X, Below wr.heap.size wr X → Calls Tryd.prog 9 #[.agg #[.int .i64 0, .string { data := #[120] }, .slice av t ca]] X fun e w' => Below wr.heap.size wr w' ∧ e = .returned (.bool true) := fun X hX => by
                  refine (may_any 0 sX av t ca G X (hVr.keep hX) (by show 1 ≤ maxLen; unfold maxLen; omega) (by unfold maxLen; omega)).mono ?_
                  rintro e w' ⟨h, b⟩
                  rw [show mayJ 0 sX.size t G = true from HM.out] at h
                  exact ⟨hop hX b, h⟩
                have HCM : Hid (∀ X, Below wr.heap.size wr X → Calls Tryd.prog 9 #[.agg #[.int .i64 0, .string { data := #[120] }, .slice av t ca]] X fun e w' => Below wr.heap.size wr w' ∧ e = .returned (.bool true)) := cM
                have HJ3 : Hid (∀ X, Below wr.heap.size wr X → X.cell? ⟨w1.heap.size, 0, none⟩ = some (.int .i64 0) ∧ X.cell? ⟨w1.heap.size, 1, none⟩ = some (.string { data := #[120] }) ∧ X.cell? ⟨w1.heap.size, 2, none⟩ = some (.slice av t ca)) := fun X hX => by
                  obtain ⟨e0, e1, e2⟩ := (HJ.out.keep (hop hB3 hX)).j.at
                  exact ⟨e0, e1, e2⟩
                have HBE : Hid (Below w.heap.size w wr) := hop HB1.out (hop HBr.out hB3)
                have HlR3 : Hid (IR wr la t L) := HlR.out.keep hB3
                have HV3 : Hid (Vs wr av t G) := hVr
                unfold sX at c1
                clear hVr cM hB3
                by_cases h0 : t = 0
                · have cL0 : Calls Tryd.prog 8 #[.agg #[.int .i64 0, .string { data := #[120] }, .slice av t ca]] wr fun e w' => e = .returned (.tuple #[.agg #[.int .i64 0, .bool false, .int .i64 0, .int .u32 0], .bool false]) ∧ Below wr.heap.size wr w' := by
                    refine cL.mono ?_
                    rintro e w' ⟨⟨h, _⟩ | ⟨_, h⟩, b⟩
                    · exact absurd h0 h
                    · exact ⟨h, b⟩
                  have tz : decide ((0 : Int) < (t : Int)) = false := decide_eq_false (by omega)
                  have tz' : decide (0 < t) = false := decide_eq_false (by omega)
                  have H0 : Hid (t = 0) := h0
                  clear cL h0
                  go_wp2_with fail
                  go_at_call 8
                  refine cL0.mono ?_
                  rintro e w5 ⟨rfl, b5⟩
                  clear cL0 c0 c1 c2
                  obtain ⟨Y, hY⟩ : ∃ Y, w5.alloc (.cells #[.int .i64 0, .bool false, .int .i64 0, .int .u32 0] 33) = Y := ⟨_, rfl⟩
                  have hvY : VerB Y w5.heap.size zeroV := by rw [← hY]; exact heap_alloc_new _ _
                  have bY : Below w5.heap.size w5 Y := by rw [← hY]; exact bal _ _
                  obtain ⟨y0, y1, y2, y3⟩ := hvY.at
                  dsimp only [zeroV] at y0 y1 y2 y3
                  have fY : ∀ j, Y.frozen? ⟨w5.heap.size, j, none⟩ = false := hvY.soft
                  obtain ⟨Y1, hY1⟩ : ∃ Y1, (((Y.setCell ⟨w5.heap.size, 0, none⟩ (.int .i64 0)).setCell ⟨w5.heap.size, 1, none⟩ (.bool false)).setCell ⟨w5.heap.size, 2, none⟩ (.int .i64 0)).setCell ⟨w5.heap.size, 3, none⟩ (.int .u32 0) = Y1 := ⟨_, rfl⟩
                  have bY1 : Below w5.heap.size w5 Y1 := by rw [← hY1]; exact below4 bY (Nat.le_refl _) _ _ _ _
                  have B6 : Below wr.heap.size wr Y1 := hop b5 bY1
                  have HB6 : Hid (Below wr.heap.size wr Y1) := B6
                  have e3 := HJ3.out _ B6
                  obtain ⟨c0, c1, c2⟩ := e3
                  have ne : Nonempty (Grw Y1) := ⟨⟨Y1, Below.refl _ _⟩⟩
                  have s0 := fun p : Grw Y1 => Grw.cell c0 p
                  have s1 := fun p : Grw Y1 => Grw.cell c1 p
                  have s2 := fun p : Grw Y1 => Grw.cell c2 p
                  have cG : ∀ p : Grw Y1, Calls Tryd.prog 9 #[.agg #[.int .i64 0, .string { data := #[120] }, .slice av t ca]] p.to fun e w'' => e = .returned (.bool true) ∧ ∃ q : Grw Y1, w'' = q.to := fun p => Calls.grw (by
                    refine (may_any 0 sX av t ca G p.to (HV3.out.keep (hop B6 p.be)) (by show 1 ≤ maxLen; unfold maxLen; omega) (by unfold maxLen; omega)).mono ?_
                    rintro e w' ⟨h, b⟩
                    rw [show mayJ 0 sX.size t G = true from HM.out] at h
                    exact ⟨h, b⟩)
                  clear hvY bY bY1 b5 B6 c0 c1 c2
                  go_upto_region 35 with fail
                  clear hY hY1 y0 y1 y2 y3 fY
                  refine wp_region_grw (by kernel_rfl) (by kernel_rfl) ?_
                  repeat (go_big_quiet_step ((go_at_call 9; exact cG _)))
                  refine wpQuiet_nil ?_
                  rintro _ ⟨⟨wx, bx⟩, rfl⟩
                  go_wp2
                  go_ret
                  exact ⟨rfl, hop HBE.out (hop HB6.out bx)⟩
                · have t0 : (0 : Int) < (t : Int) := by omega
                  have t0' : 0 < t := by omega
                  obtain ⟨t1, ht1⟩ : ∃ t1, t - 1 = t1 := ⟨_, rfl⟩
                  have t2 : (t : Int) - 1 = (t1 : Int) := by omega
                  have t3 : IntKind.i64.wrap ((t : Int) - 1) = (t1 : Int) := by rw [wraps_i64' _ (by omega) (by omega)]; omega
                  have t4 : (t1 : Int) < (t : Int) := by omega
                  have t5 : t1 < t := by omega
                  obtain ⟨bl, ol, rfl, hL⟩ := HlR3.out (by omega)
                  obtain ⟨y, hy⟩ : ∃ y, L t1 = y := ⟨_, rfl⟩
                  have l4 := hL t1 t5
                  rw [hy] at l4
                  obtain ⟨v, hvv⟩ : ∃ v, G t1 = v := ⟨_, rfl⟩
                  have hvy : v.id = y := by rw [← hvv, ← hy]; exact HGL.out t1 t5
                  have cL1 : Calls Tryd.prog 8 #[.agg #[.int .i64 0, .string { data := #[120] }, .slice av t ca]] wr fun e w' => e = .returned (.tuple #[.agg #[.int .i64 v.id, .bool v.mr, .int .i64 v.sz, .int .u32 (v.sm : Int)], .bool true]) ∧ Below wr.heap.size wr w' := by
                    refine cL.mono ?_
                    rintro e w' ⟨⟨_, h⟩ | ⟨h, _⟩, b⟩
                    · rw [ht1, hvv] at h; exact ⟨h, b⟩
                    · exact absurd h h0
                  clear cL h0 ht1 hL hy hvv
                  obtain ⟨vi, vm, vz, vs⟩ := v
                  dsimp only at cL1 hvy
                  subst hvy
                  go_wp2_with fail
                  go_at_call 8
                  refine cL1.mono ?_
                  rintro e w5 ⟨rfl, b5⟩
                  clear cL1 c0 c1 c2
                  obtain ⟨X, hX⟩ : ∃ X, w5.alloc (.cells #[.int .i64 vi, .bool vm, .int .i64 vz, .int .u32 (vs : Int)] 33) = X := ⟨_, rfl⟩
                  have hvX : VerB X w5.heap.size ⟨vi, vm, vz, vs⟩ := by rw [← hX]; exact heap_alloc_new _ _
                  have bX : Below w5.heap.size w5 X := by rw [← hX]; exact bal _ _
                  have B6 : Below wr.heap.size wr X := hop b5 bX
                  have HB6 : Hid (Below wr.heap.size wr X) := B6
                  obtain ⟨c0, c1, c2⟩ := HJ3.out _ B6
                  have c3 : X.cell? ⟨w5.heap.size, 0, none⟩ = some (.int .i64 vi) := hvX.at.c0
                  have c4 : X.cell? ⟨bl, ol + t1, none⟩ = some (.int .i64 vi) := (B6.cell (p := ⟨bl, ol + t1, none⟩) (block_lt_of_cell l4)).trans l4
                  have ne : Nonempty (Grw X) := ⟨⟨X, Below.refl _ _⟩⟩
                  have s0 := fun p : Grw X => Grw.cell c0 p
                  have s1 := fun p : Grw X => Grw.cell c1 p
                  have s2 := fun p : Grw X => Grw.cell c2 p
                  have s3 := fun p : Grw X => Grw.cell c3 p
                  have s4 := fun p : Grw X => Grw.cell c4 p
                  have cG : ∀ p : Grw X, Calls Tryd.prog 9 #[.agg #[.int .i64 0, .string { data := #[120] }, .slice av t ca]] p.to fun e w'' => e = .returned (.bool true) ∧ ∃ q : Grw X, w'' = q.to := fun p => Calls.grw (by
                    refine (may_any 0 sX av t ca G p.to (HV3.out.keep (hop B6 p.be)) (by show 1 ≤ maxLen; unfold maxLen; omega) (by unfold maxLen; omega)).mono ?_
                    rintro e w' ⟨h, b⟩
                    rw [show mayJ 0 sX.size t G = true from HM.out] at h
                    exact ⟨h, b⟩)
                  clear hvX bX b5 B6 c0 c1 c2 c3 c4 l4
                  go_upto_region 35 with fail
                  clear hX
                  refine wp_region_grw (by kernel_rfl) (by kernel_rfl) ?_
                  repeat (go_big_quiet_step ((go_at_call 9; exact cG _)))
                  refine wpQuiet_nil ?_
                  rintro _ ⟨⟨wx, bx⟩, rfl⟩
                  go_wp2
                  go_ret
                  exact ⟨rfl, hop HBE.out (hop HB6.out bx)⟩


set_option maxRecDepth 100000 in
theorem lifted (os : Os) (started : os.Started) (H : Type) (enc : TypeId × Value → H) :
    ReturnsInHanded {} Tryd.checked os 3 .any (fun w args => (Rows.journalAddsSpec.pre enc Tryd.prog Tryd.f3 [] false w args ∧ laidMetH Tryd.prog laidAll w) ∧ sizedMet enc Tryd.prog Tryd.f3 (OpenSpec.ofChange Rows.journalAddsSpec) false w args) (Rows.journalAddsSpec.post enc Tryd.prog Tryd.f3 false true false false) := by
  refine returnsInHanded_of_change_and (C := Tryd.checked) (X := fun w _ => laidMetH Tryd.prog laidAll w) (fun _ _ _ hh h => h.of_heap hh) own started (by kernel_rfl) Tryd.func3
    (ChangeSpec.witness_shaped (enc := enc) (C := Tryd.checked) (os := os) (X := fun w _ => laidMetH Tryd.prog laidAll w) false (World.doorLaid Tryd.prog 400 os) #[.slice none 0 0, .slice none 0 0] 8 rfl (World.shaped_of_RefB (by kernel_rfl) (by kernel_rfl)) (by kernel_rfl) (by kernel_rfl) (by kernel_rfl) (door_met os _)) ?_
  intro W base args ds gs before hval0 hW _ hsz0 hL _
  have hval : ∀ (j : Nat) t v, Tryd.f3.params[j]? = some t → args[j]? = some v → Value.okWide Tryd.prog W .any base t v := hval0
  have hW' := hW
  obtain ⟨p, q, hA0, hV, rfl, hfz, hnd⟩ := hW
  have hA : DataW.TrodAll enc Tryd.prog W 0 (fun _ => true) true Tryd.f3.params.toList args.toList ds p := hA0
  rw [Tryd.params3] at hA hval
  have T := halfT_of hL
  obtain ⟨v0, vs0, d0, ds0, p0, q0, hargs, rfl, rfl, h0, r0⟩ := trodAll_cons hA
  obtain ⟨v1, vs1, d1, ds1, p1, q1, rfl, rfl, rfl, h1, r1⟩ := trodAll_cons r0
  obtain ⟨rfl, rfl, rfl⟩ := trodAll_nil r1
  obtain rfl : args = #[v0, v1] := by cases args; simp_all
  obtain ⟨rfl, rfl⟩ := trodVars_none hV
  obtain ⟨a0, len0, cap0, rfl⟩ := okWide_slice Tryd.underlying22 (hval 0 22 v0 rfl rfl)
  have k0 := h0
  have lt0 : ∀ x ∈ p0, x.block < W.heap.size := by obtain ⟨m, hm⟩ := k0; exact DataW.trod_lt m _ _ _ hm
  obtain ⟨f0, m0, z0, e0, c0⟩ := open_row h0
  obtain ⟨a1, len1, cap1, rfl⟩ := okWide_slice Tryd.underlying22 (hval 1 22 v1 rfl rfl)
  have k1 := h1
  have lt1 : ∀ x ∈ p1, x.block < W.heap.size := by obtain ⟨m, hm⟩ := k1; exact DataW.trod_lt m _ _ _ hm
  obtain ⟨f1, m1, z1, e1, c1⟩ := open_row h1
  clear hA0 hval0 hsz0 hL
  refine (core a0 len0 cap0 f0 a1 len1 cap1 f1 W T m0 z0 e0 c0 m1 z1 e1 c1).mono fun e W' ⟨he, bel⟩ => ?_
  subst he
  exact ⟨_, rfl, _, _, _, [], _, [], hW', trodAll_mk1 (shut_bool Tryd.underlying4 _), (trodAll_cons_mk (Below.trod laidOut (by kernel_rfl) (of_decide_eq_true (by kernel_rfl)) k0 bel lt0) (trodAll_cons_mk (Below.trod laidOut (by kernel_rfl) (of_decide_eq_true (by kernel_rfl)) k1 bel lt1) trodAll_mk0)), rfl, bel.frame _, fun h => by cases h⟩

theorem over : Rows.journalAddsRow.holds Tryd.pinned (OpenSpec.ofChange Rows.journalAddsSpec) :=
  OpenClaim.holds_of_wide 3 Tryd.f3 rfl rfl rfl rfl rfl rfl rfl ⟨rfl, rfl, rfl, rfl, rfl⟩ rfl rfl rfl rfl rfl (by kernel_rfl) Tryd.func3 (by kernel_rfl)
    (of_decide_eq_true (by kernel_rfl)) (by unfold Func.isWrapper; first | (rw [if_pos (by decide +kernel)]; kernel_rfl) | (rw [if_neg (by decide +kernel)]; exact ⟨rfl, rfl⟩))
    (fun os started H enc _ => lifted os started H enc)

end journalAdds

/-- The statement. -/
theorem journalAdds_holds : Rows.JournalAddsCardSaid :=
  Claim7.holds_tied_plain_at .later [] [.data] true (true, "497c9fcee55a3fade83f51c87b98e9e5e34b1782e48742e354b0676792619ff0") false
    journalAdds.over (fun _ h => by cases h) (by kernel_rfl) (fun _ h => by cases h) journalAdds_row_tie rfl ⟨rfl, rfl⟩ (by kernel_rfl) rfl
    (fun f fn hf hfn => by
      obtain rfl : f = 3 := Option.some.inj ((show Tryd.prog.funcNamed "strongbox/strongboxlaw7.JournalAdds" = some 3 by kernel_rfl).symm.trans hf) |>.symm
      obtain rfl : fn = Tryd.f3 := (Option.some.inj (Tryd.func3.symm.trans hfn)).symm
      exact ⟨by kernel_rfl, fun j t ht => by
        rw [Tryd.params3] at ht
        have hm : t ∈ [22, 22] := by simpa using Array.mem_of_getElem? ht
        have hall : ([22, 22].all fun u => !Tryd.prog.wantsStandIn u) = true := by kernel_rfl
        exact (show Tryd.prog.wantsStandIn t = false by simpa using List.all_eq_true.1 hall t hm)⟩)
    (by kernel_rfl)
#print axioms journalAdds_holds
end Go.Proofs.YtfgngecenbopnaaDoor
