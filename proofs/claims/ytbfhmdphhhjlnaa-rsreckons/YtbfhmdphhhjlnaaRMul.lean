/-
  What the document's own MulMatrix does with two matrices that fit.
-/
import Derived.Test.YtbfhmdphhhjlnaaSq
import Derived.StillTailTactics
namespace Go.Proofs.Ytbfhmdphhhjlnaa
open Go.RowKit Gf
attribute [local go_sem ↓] Go.wp_at_zero Go.wp_at_succ

theorem rmul_still (x y : Nat) (w : World) (hx : x < 256) (hy : y < 256) :
    Calls Try.prog 40 #[.int .u8 x, .int .u8 y] w fun e w'' => e = .returned (.int .u8 (M x y : Nat)) ∧ w'' = w :=
  (rmul_any x y w hx hy).mono fun _ _ h => ⟨h.1, h.2.symm⟩

set_option maxRecDepth 100000 in
set_option maxHeartbeats 1000000 in
theorem rmulMat_any (a a' : Option Addr) (n m l c c' : Nat) (A A' : Nat → Option Addr) (C C' : Nat → Nat) (F G : Nat → Nat → Nat) (w : World) (h1 : Mat w a n A (fun _ => m) C F) (h2 : Mat w a' m A' (fun _ => l) C' G)
    (n1 : 1 ≤ n) (n2 : n ≤ 255) (m1 : 1 ≤ m) (m2 : m ≤ 255) (l1 : 1 ≤ l) (l2 : l ≤ 255) :
    Calls Try.prog 48 #[.slice a n c, .slice a' m c'] w fun e w' => ∃ v, e = .returned (.tuple #[v, .bool true]) ∧ Built w' w.heap.size v n (fun _ => l) (mm m F G) ∧ Below w.heap.size w w' := by
  have mk := run_make_row' (P := Try.prog) 30 5 (.int .u8 0) 1 Try.underlying30 info5 rfl .i64 .i64 l (by omega) (by omega)
  have H1 : Hid (Mat w a n A (fun _ => m) C F) := h1
  have H2 : Hid (Mat w a' m A' (fun _ => l) C' G) := h2
  have q1 := good_yes a n c A (fun _ => m) C F w h1 (isM_const n1 n2 m1 m2)
  have q2 := fun k => good_yes a' m c' A' (fun _ => l) C' G (w.drewN k) (h2.drewN k) (isM_const m1 m2 l1 l2)
  obtain ⟨ba, oa, rfl, hca⟩ := h1.lies (by omega)
  obtain ⟨bb, ob, rfl, hcb⟩ := h2.lies (by omega)
  have d1 := hca 0 (by omega)
  have d2 := hcb 0 (by omega)
  simp only [Nat.add_zero] at d1 d2
  have i1 : (0 : Int) < (n : Int) := by omega
  have i2 : (0 : Int) < (m : Int) := by omega
  have Ba : ba < w.heap.size := block_lt_of_cell d1
  have Bb : bb < w.heap.size := block_lt_of_cell d2
  have HCA : Hid (∀ i, i < n → w.cell? ⟨ba, oa + i, none⟩ = some (.slice (A i) m (C i))) := hca
  have HCB : Hid (∀ i, i < m → w.cell? ⟨bb, ob + i, none⟩ = some (.slice (A' i) l (C' i))) := hcb
  clear h1 h2 hca hcb
  have HD2 : Hid (∃ x y, w.cell? ⟨bb, ob, none⟩ = some (.slice x l y)) := ⟨_, _, d2⟩
  generalize A 0 = x1 at d1
  generalize C 0 = y1 at d1
  generalize A' 0 = x2 at d2
  generalize C' 0 = y2 at d2
  go_enter Try.func48, Try.ntmps48
  go_wp2_with fail
  go_at_call_of 49 (Value.slice (some ⟨ba, oa, none⟩) n c)
  refine q1.mono ?_
  rintro e w' ⟨rfl, k1, rfl⟩
  go_wp2_with fail
  go_at_call 49
  refine (q2 k1).mono ?_
  rintro e w' ⟨rfl, k2, rfl⟩
  clear q1 q2
  have b0 : Below w.heap.size w (w.drewN (k1 + k2)) := below_drewN (Below.refl _ _) (k1 + k2)
  have hB0 : Hid (Below w.heap.size w (w.drewN (k1 + k2))) := b0
  clear b0
  go_wp2
  go_loopw [6, 7] (fun v i wr => ∃ k : Nat, k ≤ n ∧ i = .int .i64 k ∧ Built wr w.heap.size v k (fun _ => l) (mm m F G) ∧ Below w.heap.size w wr) (fun _ i _ => n - (intOf i).toNat)
  case atStart => exact ⟨0, by omega, rfl, ⟨_, _, Bld.start _ w.heap.size (fun _ => none) (fun _ => l) (fun _ => 0) _⟩, hB0.out⟩
  case round =>
  obtain ⟨i, hi, rfl, hbl, hb⟩ := hrel
  rename World => wo
  by_cases hlt : i < n
  · have ii : (i : Int) < (n : Int) := by omega
    have d2' := (hb.cell (p := ⟨bb, ob, none⟩) Bb).trans d2
    obtain ⟨W, hW⟩ : ∃ W, W = wo.alloc (.cells (madeCells #[.int .u8 0] l) 5) := ⟨_, rfl⟩
    have mkr : Sem.run Try.prog (Instr.makeSlice 30 (.int .i64 (l : Int)) (.int .i64 (l : Int))) wo = .ok (.slice (some ⟨wo.heap.size, 0, none⟩) l l) W := by rw [hW]; exact mk wo
    have M0 : Hid (Made W wo.heap.size l (fun _ => 0)) := by rw [hW]; exact Made.start wo l
    have hb0 : Below wo.heap.size wo W := by rw [hW]; exact (Below.refl _ _).alloc (Nat.le_refl _) _
    have HBL : Hid (Built wo w.heap.size _ i (fun _ => l) (mm m F G)) := hbl
    have HAI : Hid (∃ b1 o1, A i = some ⟨b1, o1, none⟩ ∧ b1 < w.heap.size ∧ ∀ j, j < m → w.cell? ⟨b1, o1 + j, none⟩ = some (.int .u8 ((F i j : Nat) : Int))) := by
      obtain ⟨b1, o1, e, hr⟩ := (H1.out.row i hlt).lies (by omega)
      exact ⟨b1, o1, e, block_lt_of_cell (hr 0 (by omega)), hr⟩
    obtain ⟨b1, o1, eA, B1, hra⟩ := HAI.out
    have HRA : Hid (∀ j, j < m → w.cell? ⟨b1, o1 + j, none⟩ = some (.int .u8 ((F i j : Nat) : Int))) := hra
    have hci := HCA.out i hlt
    rw [eA] at hci
    have HCI : Hid (w.cell? ⟨ba, oa + i, none⟩ = some (.slice (some ⟨b1, o1, none⟩) m (C i))) := hci
    clear hW mk hbl HAI eA hra hci
    obtain ⟨G0, hG0⟩ : ∃ G0, wo.heap.size = G0 := ⟨_, rfl⟩
    have HG0 : Hid (wo.heap.size = G0) := hG0
    have hwG : w.heap.size ≤ G0 := by have := hb.size; omega
    rw [hG0] at mkr M0 hb0
    clear hG0
    go_wp2
    clear mkr d2'
    go_loopw [9] (fun v wr => ∃ k : Nat, k ≤ m ∧ v = .int .i64 k ∧ Made wr G0 l (fun c => xs k (fun s => M (F i s) (G s c))) ∧ Below G0 wo wr) (fun v _ => m - (intOf v).toNat)
    case atStart => exact ⟨0, by omega, rfl, M0.out, hb0⟩
    case round =>
    obtain ⟨k, hk, rfl, hmd, hbk⟩ := hrel
    clear M0 hb0
    have HMD : Hid (Made wr G0 l (fun c => xs k (fun s => M (F i s) (G s c)))) := hmd
    clear hmd
    by_cases hltk : k < m
    · have ikm : (k : Int) < (m : Int) := by omega
      obtain ⟨b2, o2, eB, hrb⟩ := (H2.out.row k hltk).lies (by omega)
      have B2 : b2 < w.heap.size := block_lt_of_cell (hrb 0 (by omega))
      have HRB : Hid (∀ j, j < l → w.cell? ⟨b2, o2 + j, none⟩ = some (.int .u8 ((G k j : Nat) : Int))) := hrb
      have hcb := HCB.out k hltk
      rw [eB] at hcb
      have HCK : Hid (w.cell? ⟨bb, ob + k, none⟩ = some (.slice (some ⟨b2, o2, none⟩) l (C' k))) := hcb
      clear eB hrb hcb
      go_wp2
      go_loopw [10] (fun v wr => ∃ t : Nat, t ≤ l ∧ v = .int .i64 t ∧ Made wr G0 l (fun c => if c < t then xs (k + 1) (fun s => M (F i s) (G s c)) else xs k (fun s => M (F i s) (G s c))) ∧ Below G0 wo wr) (fun v _ => l - (intOf v).toNat)
      case atStart => exact ⟨0, by omega, rfl, HMD.out.congr fun j _ => by rw [if_neg (by omega)], hbk⟩
      case round =>
      obtain ⟨t, ht, rfl, hmd, hbt⟩ := hrel
      clear HMD hbk
      by_cases hltt : t < l
      · have itl : (t : Int) < (l : Int) := by omega
        have hbw : Below w.heap.size w wr := hb.trans (hbt.mono hwG)
        have c0 := hmd.cell t hltt
        rw [if_neg (by omega)] at c0
        have f0 := hmd.soft t hltt
        have ca := (hbw.cell (p := ⟨ba, oa + i, none⟩) Ba).trans HCI.out
        have cai := (hbw.cell (p := ⟨b1, o1 + k, none⟩) B1).trans (HRA.out k hltk)
        have cb := (hbw.cell (p := ⟨bb, ob + k, none⟩) Bb).trans HCK.out
        have cbk := (hbw.cell (p := ⟨b2, o2 + t, none⟩) B2).trans (HRB.out t hltt)
        have lF := H1.out.lt i k
        have lG := H2.out.lt k t
        have lM := M_lt (G k t) lF
        have lu : xs k (fun s => M (F i s) (G s t)) < 256 := xs_lt fun s _ => M_lt _ (H1.out.lt i s)
        have cM := fun w => rmul_still (F i k) (G k t) w lF lG
        have hxx : bits .xor .u8 ((xs k (fun s => M (F i s) (G s t)) : Nat) : Int) ((M (F i k) (G k t) : Nat) : Int) = ((xs k (fun s => M (F i s) (G s t)) ^^^ M (F i k) (G k t) : Nat) : Int) := u8_xor_nat _ _ lu lM
        have lx := xor_lt lu lM
        have S1 : Hid (Made (wr.setCell ⟨G0, t, none⟩ (.int .u8 ((xs k (fun s => M (F i s) (G s t)) ^^^ M (F i k) (G k t) : Nat) : Int))).drew G0 l (fun c => if c < t + 1 then xs (k + 1) (fun s => M (F i s) (G s c)) else xs k (fun s => M (F i s) (G s c)))) := by
          have := (hmd.put (x := xs k (fun s => M (F i s) (G s t)) ^^^ M (F i k) (G k t)) hltt).congr (f' := fun c => if c < t + 1 then xs (k + 1) (fun s => M (F i s) (G s c)) else xs k (fun s => M (F i s) (G s c))) fun j hj => by
            unfold upd
            by_cases e : j = t
            · subst e; rw [if_pos rfl, if_pos (by omega)]; rfl
            · rw [if_neg e]
              dsimp only
              by_cases q : j < t
              · rw [if_pos q, if_pos (by omega)]
              · rw [if_neg q, if_neg (by omega)]
          exact ⟨this.cell, this.soft⟩
        have S2 : Hid (Below G0 wo (wr.setCell ⟨G0, t, none⟩ (.int .u8 ((xs k (fun s => M (F i s) (G s t)) ^^^ M (F i k) (G k t) : Nat) : Int))).drew) := (hbt.setCell (p := ⟨G0, t, none⟩) (Nat.le_refl _) _).drew
        clear hmd hbt hbw
        generalize xs k (fun s => M (F i s) (G s t)) = u at *
        generalize M (F i k) (G k t) = p at *
        generalize F i k = fx at *
        generalize G k t = gx at *
        generalize u ^^^ p = z at *
        generalize C i = cci at *
        generalize C' k = cck at *
        go_wp2
        refine wp_region_still_tail 22 (by kernel_rfl) (by kernel_rfl) ?_
        change wpStill _ _ wr.drew _ _ _
        simp only [List.take_succ_cons, List.take_zero, List.drop_succ_cons, List.drop_zero]
        repeat still_step
        still_call (cM _)
        repeat still_step
        refine wpStill_nil ?_
        go_wp2
        go_round
        case rel => exact ⟨t + 1, by omega, by go_num, S1.out, S2.out⟩
        case measure => simp [intOf]; omega
      · have : t = l := by omega
        subst this
        have HE : Hid (Made wr G0 t (fun c => xs (k + 1) (fun s => M (F i s) (G s c)))) := hmd.congr fun j hj => by rw [if_pos hj]
        clear hmd
        go_wp2
        go_round
        case rel => exact ⟨k + 1, by omega, by go_num, HE.out, hbt⟩
        case measure => simp [intOf]; omega
    · have : k = m := by omega
      subst this
      have hmd' : Made wr wo.heap.size l (mm k F G i) := by rw [HG0.out]; exact HMD.out
      have hbk' : Below wo.heap.size wo wr := by rw [HG0.out]; exact hbk
      obtain ⟨v', W2, hr2, hbl2, hb2⟩ := HBL.out.push (c := l) Try.underlying27 hbk' hb.size (hmd'.new (Nat.le_refl _) l1 (fun j => mm_B H1.out.lt i j)) (fun _ _ => rfl) (mm_B H1.out.lt) (by omega)
      rw [HG0.out] at hr2
      have R2 : Hid _ := hr2
      have HB : Hid (Built W2 w.heap.size v' (i + 1) (fun _ => l) (mm k F G)) := hbl2
      have HW : Hid (Below w.heap.size w W2) := hb.trans hb2
      clear hr2 hbl2 hb2 hb hmd' hbk hbk' HBL HMD
      go_wp2_with (at_builtin; refine wpList_append_ran (by rfl) _ _ 27 (by rfl) _ _ _ _ (by rfl) (by rfl) R2.out ?_)
      go_wp2
      go_round
      case rel => exact ⟨i + 1, by omega, by go_num, HB.out, HW.out⟩
      case measure => simp [intOf]; omega
  · have : i = n := by omega
    subst this
    have HB : Hid (Built wo w.heap.size _ i (fun _ => l) (mm m F G)) := hbl
    clear hbl mk
    go_wp2
    go_ret2
    exact ⟨_, rfl, HB.out, hb⟩
end Go.Proofs.Ytbfhmdphhhjlnaa
