/-
  What pivotRow and clearColumn do.
-/
import Derived.Test.YtbfhmdphhhjlnaaBeside
import Derived.Test.YtbfhmdphhhjlnaaWide
import Derived.Deep.DeepCutAuto
namespace Go.Proofs.Ytbfhmdphhhjlnaa
open Go.RowKit Gf
attribute [local go_sem ↓] Go.wp_at_zero Go.wp_at_succ

set_option maxRecDepth 100000 in
set_option maxHeartbeats 1000000 in
theorem pivot_any (h n l c c0 : Nat) (A : Nat → Option Addr) (C : Nat → Nat) (W : Nat → Nat → Nat) (w : World) (m : Mat w (some ⟨h, 0, none⟩) n A (fun _ => l) C W) (hn : n ≤ 255) (hc : c < n) (hl : c < l) :
    Calls Try.prog 69 #[.slice (some ⟨h, 0, none⟩) n c0, .int .i64 c] w fun e w' => ((∃ p : Nat, e = .returned (.tuple #[.int .i64 p, .bool true]) ∧ c ≤ p ∧ p < n ∧ W p c ≠ 0) ∨ (e = .returned (.tuple #[.int .i64 0, .bool false]) ∧ ∀ r, r < n → c ≤ r → W r c = 0)) ∧ w = w' := by
  have HM : Hid (Mat w (some ⟨h, 0, none⟩) n A (fun _ => l) C W) := m
  clear m
  go_enter Try.func69, Try.ntmps69
  go_wp2
  go_loop [6] (fun v => ∃ k : Nat, c ≤ k ∧ k ≤ n ∧ v = .int .i64 k ∧ ∀ r, r < k → c ≤ r → W r c = 0) (fun v => n - (intOf v).toNat)
  case atStart => exact ⟨c, Nat.le_refl _, by omega, rfl, fun r h1 h2 => by omega⟩
  case round =>
    obtain ⟨k, hck, hk, rfl, hz⟩ := hrel
    by_cases hlt : k < n
    · have ik : (k : Int) < (n : Int) := by omega
      have ic : (c : Int) < (l : Int) := by omega
      have ck := HM.out.cellAt hlt
      obtain ⟨b, o, hA, hr⟩ := (HM.out.row k hlt).lies (by omega)
      rw [hA] at ck
      have ckc := hr c hl
      have lW := HM.out.lt k c
      have HZ : Hid (∀ r, r < k → c ≤ r → W r c = 0) := hz
      clear hr hA hz HM
      generalize C k = cc at ck
      by_cases hw : W k c = 0
      · rw [hw] at ckc
        go_wp2
        go_round
        case rel => exact ⟨k + 1, by omega, by omega, by go_num, fun r h1 h2 => by
          by_cases e : r = k
          · rw [e]; exact hw
          · exact HZ.out r (by omega) h2⟩
        case measure => simp [intOf]; omega
      · have HW : Hid (W k c ≠ 0) := hw
        have hx0 : ((W k c : Nat) : Int) ≠ 0 := by omega
        clear hw
        generalize W k c = x at ckc lW hx0
        go_wp2
        go_ret2
        exact ⟨.inl ⟨k, rfl, hck, hlt, HW.out⟩, rfl⟩
    · have : k = n := by omega
      subst this
      have HZ : Hid (∀ r, r < k → c ≤ r → W r c = 0) := hz
      clear hz
      go_wp2
      go_ret2
      exact ⟨.inr ⟨rfl, HZ.out⟩, rfl⟩

theorem Out.drewN {w : World} {h n l : Nat} {F : Nat → Nat → Nat} (o : Out w h n l F) (k : Nat) : Out (w.drewN k) h n l F := by
  obtain ⟨A, C, m, s, q⟩ := o
  exact ⟨A, C, m.drewN k, s, q⟩
theorem Out.lt {w : World} {h n l : Nat} {F : Nat → Nat → Nat} (o : Out w h n l F) : B F := by
  obtain ⟨A, C, m, s, q⟩ := o
  exact m.lt
theorem made_row (w : World) (n : Nat) : Row (w.alloc (.cells (madeCells #[.int .u8 0] n) 5)) (some ⟨w.heap.size, 0, none⟩) n (fun _ => 0) := by
  refine ⟨fun _ => by omega, fun _ => ⟨w.heap.size, 0, rfl, fun i hi => ?_⟩⟩
  rw [Nat.zero_add, World.cell?_alloc_new, ← Array.getElem?_toList, toList_madeCells_one, List.getElem?_replicate, if_pos (by omega)]
  rfl

/-- Two headers exchanged. -/
theorem Mat.swap {w : World} {h n l c p : Nat} {A : Nat → Option Addr} {C : Nat → Nat} {W : Nat → Nat → Nat} (m : Mat w (some ⟨h, 0, none⟩) n A (fun _ => l) C W) (s : ∀ i, i < n → w.frozen? ⟨h, i, none⟩ = false) (q : ∀ i, i < n → l ≤ C i) (hc : c < n) (hp : p < n) :
    Out ((w.setCell ⟨h, c, none⟩ (.slice (A p) l (C p))).setCell ⟨h, p, none⟩ (.slice (A c) l (C c))) h n l (swp c p W) := by
  have o : Out w h n l W := ⟨A, C, m, s, q⟩
  have o1 := o.set (G := fun i => if i = c then W p else W i) hc (m.row p hp) (m.nil p hp) (q p hp) (fun i j => by dsimp only; split <;> exact m.lt _ _) (fun j _ => by rw [if_pos rfl]) (fun i _ hne j _ => by rw [if_neg hne])
  refine o1.set hp ((m.row c hc).hset (m.cellAt hc) _) (m.nil c hc) (q c hc) (swp_B m.lt) (fun j _ => ?_) (fun i _ hne j _ => ?_)
  · unfold swp
    by_cases e : p = c
    · subst e; rw [if_pos rfl]
    · rw [if_neg e, if_pos rfl]
  · unfold swp
    by_cases e : i = c
    · rw [if_pos e, if_pos e]
    · rw [if_neg e, if_neg e, if_neg hne]

set_option maxRecDepth 100000 in
set_option maxHeartbeats 4000000 in
theorem clear_any (b h n l c c0 : Nat) (W : Nat → Nat → Nat) (w : World) (ht : Tab w b) (o : Out w h n l W) (hn : n ≤ 255) (hc : c < n) (hl : c < l) (hl2 : l ≤ 510) (hbh : b < h) :
    Calls Try.prog 58 #[.pointer (some ⟨b, 0, none⟩), .slice (some ⟨h, 0, none⟩) n c0, .int .i64 c] w fun e w' =>
      ((e = .returned (.bool false) ∧ ∀ r, r < n → c ≤ r → W r c = 0) ∨ (e = .returned (.bool true) ∧ ∃ p, c ≤ p ∧ p < n ∧ W p c ≠ 0 ∧ Out w' h n l (clr n c p W))) ∧ Below h w w' := by
  obtain ⟨A, C, m, s, q⟩ := o
  have cP := pivot_any h n l c c0 A C W w m hn hc hl
  have hh : h < w.heap.size := block_lt_of_cell (m.cellAt hc)
  have HT : Hid (Tab w b) := ht
  have HM : Hid (Mat w (some ⟨h, 0, none⟩) n A (fun _ => l) C W) := m
  have HS : Hid (∀ i, i < n → w.frozen? ⟨h, i, none⟩ = false) := s
  have HQ : Hid (∀ i, i < n → l ≤ C i) := q
  have mk := run_make_row' (P := Try.prog) 30 5 (.int .u8 0) 1 Try.underlying30 info5 rfl .i64 .i64 l (by omega) (by omega)
  have ic : (c : Int) < (n : Int) := by omega
  have icl : (c : Int) < (l : Int) := by omega
  clear ht m s q
  go_enter Try.func58, Try.ntmps58
  go_wp2_with fail
  go_at_call 69
  refine cP.mono ?_
  rintro e w' ⟨hcase, rfl⟩
  clear cP
  rcases hcase with ⟨p, rfl, hcp, hp, hne⟩ | ⟨rfl, hz⟩
  · have ip : (p : Int) < (n : Int) := by omega
    have HN : Hid (W p c ≠ 0) := hne
    clear hne
    have kc := HM.out.cellAt hc
    have kp := HM.out.cellAt hp
    have fc := HS.out c hc
    have fp := HS.out p hp
    have kcp : ∃ u, (w.setCell ⟨h, c, none⟩ (.slice (A p) l (C p))).cell? ⟨h, p, none⟩ = some u := by
      by_cases e : p = c
      · subst e
        exact ⟨_, cell_same kc⟩
      · exact ⟨_, (cell_other (fun q => e q.symm)).trans kp⟩
    obtain ⟨u, ku⟩ := kcp
    have H2 : Hid (Out ((w.setCell ⟨h, c, none⟩ (.slice (A p) l (C p))).setCell ⟨h, p, none⟩ (.slice (A c) l (C c))).drew h n l (swp c p W) ∧ Below h w ((w.setCell ⟨h, c, none⟩ (.slice (A p) l (C p))).setCell ⟨h, p, none⟩ (.slice (A c) l (C c))).drew) :=
      ⟨(HM.out.swap HS.out HQ.out hc hp).drewN 1, (((Below.refl h w).setCell (Nat.le_refl _) _).setCell (Nat.le_refl _) _).drew⟩
    go_upto_region 4 with fail
    generalize A p = ap at *
    generalize A c = ac at *
    generalize C p = xp at *
    generalize C c = xc at *
    go_cut [] (fun wx => Out wx h n l (swp c p W) ∧ Below h w wx)
    case first =>
      go_region
      all_goals (go_wp2_with fail; go_meet; exact H2.out)
    case rest =>
    obtain ⟨o1, hb1⟩ := hcut
    clear H2 HM HS HQ kc kp fc fp ku
    have lS := o1.lt
    obtain ⟨A1, C1, m1, s1, q1⟩ := o1
    have O1 : Hid (Out wc h n l (swp c p W)) := ⟨A1, C1, m1, s1, q1⟩
    have k1 := m1.cellAt hc
    have R1 := m1.row c hc
    obtain ⟨bc, oc, hA1, hr1⟩ := R1.lies (by omega)
    rw [hA1] at k1 R1
    have k2 := hr1 c hl
    have ex : swp c p W c c = W p c := by unfold swp; rw [if_pos rfl]
    have lx := lS c c
    rw [ex] at k2 lx
    have hT := HT.out.keep hb1 hbh
    have cI := inv_any b (W p c) wc hT lx
    have x0 : 0 < W p c := by have := HN.out; omega
    rw [dv_one x0] at cI
    have lf := inv_lt (W p c)
    have hD : decide (0 < W p c) = true := decide_eq_true x0
    rw [hD] at cI
    obtain ⟨x, hx⟩ : ∃ x, W p c = x := ⟨_, rfl⟩
    obtain ⟨f, hf⟩ : ∃ f, inv (W p c) = f := ⟨_, rfl⟩
    have HF : Hid (inv (W p c) = f) := hf
    rw [hf] at lf cI
    rw [hx] at cI k2 lx x0
    have F1 := s1 c hc
    have hhc : h < wc.heap.size := block_lt_of_cell k1
    have HK : Hid (∀ w3, Below wc.heap.size wc w3 → ∃ W4, Sem.run Try.prog (Instr.makeSlice 30 (.int .i64 (l : Int)) (.int .i64 (l : Int))) w3 = .ok (.slice (some ⟨w3.heap.size, 0, none⟩) l l) W4 ∧ W4.cell? ⟨h, c, none⟩ = some (.slice (some ⟨bc, oc, none⟩) l (C1 c)) ∧
        Calls Try.prog 45 #[.pointer (some ⟨b, 0, none⟩), .slice (some ⟨w3.heap.size, 0, none⟩) l l, .slice (some ⟨bc, oc, none⟩) l (C1 c), .int .u8 ((f : Nat) : Int)] W4 fun e w' =>
        ∃ y, e = .returned (.slice (some ⟨y, 0, none⟩) l l) ∧ w'.cell? ⟨h, c, none⟩ = some (.slice (some ⟨bc, oc, none⟩) l (C1 c)) ∧ w'.frozen? ⟨h, c, none⟩ = false ∧ Out (w'.setCell ⟨h, c, none⟩ (.slice (some ⟨y, 0, none⟩) l l)) h n l (scl c f (swp c p W)) ∧ Below h w (w'.setCell ⟨h, c, none⟩ (.slice (some ⟨y, 0, none⟩) l l))) := by
      intro w3 hb3'
      have hbA : Below wc.heap.size wc (w3.alloc (.cells (madeCells #[.int .u8 0] l) 5)) := hb3'.alloc hb3'.size _
      refine ⟨_, mk w3, (hbA.cell (p := ⟨h, c, none⟩) hhc).trans k1, ?_⟩
      refine (mulAdd_row b f l l l (C1 c) (some ⟨w3.heap.size, 0, none⟩) (some ⟨bc, oc, none⟩) (fun _ => 0) (swp c p W c) _ (hT.keep hbA (by omega)) lf (made_row w3 l) (R1.keep hbA) (by omega) (by omega)).mono ?_
      rintro e w' ⟨rfl, hrow, hbel⟩
      have hb3 : Below wc.heap.size wc w' := hbA.trans (hbel.mono hbA.size)
      refine ⟨_, rfl, (hb3.cell (p := ⟨h, c, none⟩) hhc).trans k1, (hb3.frozen (p := ⟨h, c, none⟩) hhc).trans F1, ?_, (hb1.trans (hb3.mono (by omega))).setCell (Nat.le_refl _) _⟩
      refine (O1.out.keep hb3).set hc hrow (fun e => by cases e) (Nat.le_refl _) (scl_B lS) (fun j hj => ?_) fun i hi hne j hj => ?_
      · unfold ad scl; rw [if_pos hj, if_pos rfl, Nat.zero_xor, M_comm lf (lS c j)]
      · unfold scl; rw [if_neg hne]
    clear m1 s1 q1 hA1 hr1 R1 ex hT lS hD hx hf O1 mk
    generalize C1 c = xc1 at *
    go_wp2_with fail
    go_at_call 70
    refine cI.mono ?_
    rintro e w2 ⟨rfl, nI, rfl⟩
    clear cI k2
    obtain ⟨W4, mk4, kc4, K4⟩ := HK.out (wc.drewN nI).drew (below_drewN (Below.refl _ _) nI).drew
    have k13 : (wc.drewN nI).cell? ⟨h, c, none⟩ = some (.slice (some ⟨bc, oc, none⟩) l xc1) := k1
    have hb13 : Below h w (wc.drewN nI) := below_drewN hb1 nI
    clear k1 hb1 HK F1 hhc
    have H4 : Hid (Calls Try.prog 45 #[.pointer (some ⟨b, 0, none⟩), .slice (some ⟨(wc.drewN nI).heap.size, 0, none⟩) l l, .slice (some ⟨bc, oc, none⟩) l xc1, .int .u8 ((f : Nat) : Int)] W4 fun e w' =>
        ∃ y, e = .returned (.slice (some ⟨y, 0, none⟩) l l) ∧ w'.cell? ⟨h, c, none⟩ = some (.slice (some ⟨bc, oc, none⟩) l xc1) ∧ w'.frozen? ⟨h, c, none⟩ = false ∧ Out (w'.setCell ⟨h, c, none⟩ (.slice (some ⟨y, 0, none⟩) l l)) h n l (scl c f (swp c p W)) ∧ Below h w (w'.setCell ⟨h, c, none⟩ (.slice (some ⟨y, 0, none⟩) l l))) := K4
    clear K4
    have mk5 : Sem.run Try.prog (Instr.makeSlice 30 (.int .i64 (l : Int)) (.int .i64 (l : Int))) (wc.drewN nI).drew = .ok (.slice (some ⟨(wc.drewN nI).heap.size, 0, none⟩) l l) W4 := mk4
    clear mk4
    generalize wc.drewN nI = w3 at *
    go_upto_region 6 with fail
    go_cut [] (fun wx => Out wx h n l (scl c f (swp c p W)) ∧ Below h w wx)
    case first =>
      go_region_with (go_at_call 45; refine H4.out.mono ?_; rintro e w' ⟨y, rfl, y1, y2, y3, y4⟩)
      all_goals (go_wp2_with fail; go_meet; exact ⟨y3, y4⟩)
    case rest =>
    obtain ⟨o2, hb2⟩ := hcut
    clear H4 mk5 kc4 k13 hb13
    obtain ⟨S, hS⟩ : ∃ S, scl c f (swp c p W) = S := ⟨_, rfl⟩
    rw [hS] at o2
    have HSS : Hid (scl c f (swp c p W) = S) := hS
    have HO2 : Hid (Out wc h n l S) := o2
    clear hS o2
    go_wp2
    go_loopw [65] (fun v wr => ∃ k : Nat, k ≤ n ∧ v = .int .i64 k ∧ Out wr h n l (stp c k S) ∧ Below h w wr) (fun v _ => n - (intOf v).toNat)
    case atStart => exact ⟨0, by omega, rfl, by rw [stp_zero]; exact HO2.out, hb2⟩
    case round =>
      obtain ⟨k, hk, rfl, ho, hb⟩ := hrel
      have lS := HO2.out.lt
      clear HO2 hb2
      by_cases hlt : k < n
      · have ik : (k : Int) < (n : Int) := by omega
        obtain ⟨A3, C3, m3, s3, q3⟩ := ho
        have ck := m3.cellAt hlt
        have HO : Hid (Out wr h n l (stp c k S)) := ⟨A3, C3, m3, s3, q3⟩
        by_cases hkc : k = c
        · subst hkc
          have HE : Hid (Out wr h n l (stp k (k + 1) S)) := by rw [stp_own]; exact HO.out
          clear m3 s3 q3 lS HO
          generalize A3 k = a3 at ck
          generalize C3 k = c3 at ck
          go_wp2
          go_round
          case rel => exact ⟨k + 1, by omega, by go_num, HE.out, hb⟩
          case measure => simp [intOf]; omega
        · have hkc' : ((k : Nat) : Int) ≠ (c : Int) := by omega
          have cc := m3.cellAt hc
          have fk := s3 k hlt
          have Rk := m3.row k hlt
          have Rc := m3.row c hc
          obtain ⟨bk, ok, hAk, hrk⟩ := Rk.lies (by omega)
          rw [hAk] at ck Rk
          have kk := hrk c hl
          have e1 : stp c k S k c = S k c := by unfold stp; rw [if_neg (by omega)]
          rw [e1] at kk
          have lx' := lS k c
          have hT := HT.out.keep hb hbh
          have hhr : h < wr.heap.size := block_lt_of_cell ck
          have K : Hid (Calls Try.prog 45 #[.pointer (some ⟨b, 0, none⟩), .slice (some ⟨bk, ok, none⟩) l (C3 k), .slice (A3 c) l (C3 c), .int .u8 ((S k c : Nat) : Int)] wr.drew fun e w' =>
              e = .returned (.slice (some ⟨wr.heap.size, 0, none⟩) l l) ∧ w'.cell? ⟨h, k, none⟩ = some (.slice (some ⟨bk, ok, none⟩) l (C3 k)) ∧ w'.frozen? ⟨h, k, none⟩ = false ∧ Out (w'.setCell ⟨h, k, none⟩ (.slice (some ⟨wr.heap.size, 0, none⟩) l l)) h n l (stp c (k + 1) S) ∧ Below h w (w'.setCell ⟨h, k, none⟩ (.slice (some ⟨wr.heap.size, 0, none⟩) l l))) := by
            refine (mulAdd_row b (S k c) l (C3 k) l (C3 c) (some ⟨bk, ok, none⟩) (A3 c) (stp c k S k) (stp c k S c) wr.drew (hT.drewN 1) lx' (Rk.drewN 1) (Rc.drewN 1) (by omega) (by omega)).mono ?_
            rintro e w' ⟨rfl, hrow, hbel⟩
            have hb3 : Below wr.heap.size wr w' := (Below.refl wr.heap.size wr).drew.trans hbel
            refine ⟨rfl, (hb3.cell (p := ⟨h, k, none⟩) hhr).trans ck, (hb3.frozen (p := ⟨h, k, none⟩) hhr).trans fk, ?_, (hb.trans (hb3.mono (by omega))).setCell (Nat.le_refl _) _⟩
            refine (HO.out.keep hb3).set hlt hrow (fun e => by cases e) (Nat.le_refl _) (stp_B lS) (fun j hj => ?_) fun i hi hne j hj => ?_
            · unfold ad stp; rw [if_pos hj, if_neg (by omega), if_neg (by omega), if_pos (by omega)]
            · unfold stp
              by_cases e : i ≠ c ∧ i < k
              · rw [if_pos e, if_pos (by omega)]
              · rw [if_neg e, if_neg (by omega)]
          clear m3 s3 q3 lS HO Rk Rc hAk hrk e1 hT hb hhr
          generalize S k c = x3 at *
          generalize C3 k = c3 at *
          generalize A3 c = a4 at *
          generalize C3 c = c4 at *
          go_wp2
          go_region_with (go_at_call 45; refine K.out.mono ?_; rintro e w' ⟨rfl, y1, y2, y3, y4⟩)
          all_goals
            go_wp2
            go_round
            case rel => exact ⟨k + 1, by omega, by go_num, y3, y4⟩
            case measure => simp [intOf]; omega
      · have : k = n := by omega
        subst this
        have HE : Hid (Out wr h k l (clr k c p W)) := by unfold clr; rw [HF.out, HSS.out]; exact ho
        clear ho lS
        go_wp2
        go_ret
        exact ⟨.inr ⟨rfl, p, hcp, hp, HN.out, HE.out⟩, hb⟩
  · have HZ : Hid (∀ r, r < n → c ≤ r → W r c = 0) := hz
    clear hz mk
    go_wp2
    go_ret
    exact ⟨.inl ⟨rfl, HZ.out⟩, Below.refl _ _⟩
end Go.Proofs.Ytbfhmdphhhjlnaa
