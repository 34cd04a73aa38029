/-
  What rs.Code.Encode does: the rows of data and those of parity behind them, all in new memory; or nothing, and ErrArg.
-/
import Derived.Test.YtbfhmdphhhjlnaaComb
namespace Go.Proofs.Ytbfhmdphhhjlnaa
open Go.RowKit Gf
attribute [local go_sem ↓] Go.wp_at_zero Go.wp_at_succ

set_option maxRecDepth 100000 in
set_option maxHeartbeats 4000000 in
theorem encode_yes (p k N : Nat) (S : Nat → Nat → Nat) (w : World) (a : Option Addr) (c l : Nat) (A : Nat → Option Addr) (C : Nat → Nat) (F : Nat → Nat → Nat) (hcode : Code w p k N S) (h : Mat w a k A (fun _ => l) C F) (hl : l ≤ 140737488355328) :
    Calls Try.prog 11 #[.pointer (some ⟨p, 0, none⟩), .slice a k c] w fun e w' => ∃ v, e = .returned (.tuple #[v, .int .i64 0]) ∧ Rws w' w.heap.size v N (fun _ => l) (mm k S F) ∧ Below w.heap.size w w' := by
  have cMd := made_any p k N S w hcode
  have cN := N_any p k N S w hcode
  have k1 := hcode.k1
  have kN := hcode.kN
  have N2 := hcode.N2
  have cA := alike_yes a k c A (fun _ => l) C F w h (by omega) (fun _ _ => rfl)
  have HC : Hid (Code w p k N S) := hcode
  have HM : Hid (Mat w a k A (fun _ => l) C F) := h
  obtain ⟨hh, bt, AS, CS, c0, c1, c2, mS, _⟩ := hcode.ex
  have MS : Hid (Mat w (some ⟨hh, 0, none⟩) N AS (fun _ => k) CS S) := mS
  clear mS
  obtain ⟨i27, hi27, hzz⟩ := Option.map_eq_some_iff.1 info27
  simp only [Prod.mk.injEq] at hzz
  obtain ⟨hz, hs, hby⟩ := hzz
  obtain ⟨W0, mk, own0, gr0⟩ := run_make_own (P := Try.prog) w w.heap.size 27 30 i27 (.slice none 0 0) 1 Try.underlying27 hi27 hz hs .i64 .i64 N (by rw [hby]; omega) (by unfold maxLen; omega) (Nat.le_refl _)
  have HB0 : Hid (Below w.heap.size w W0) := (Below.refl w.heap.size w).grown gr0 (Nat.le_refl _) (fun k hk => by cases hk)
  have HO : Hid (Rws W0 w.heap.size (.slice (some ⟨w.heap.size, 0, none⟩) 0 N) 0 (fun _ => l) (mm k S F)) := Rws.empty own0 _ _
  clear h hcode own0 gr0 hz hs hby hi27
  go_enter Try.func11, Try.ntmps11
  go_wp2_with fail
  go_at_call 26
  refine cMd.mono ?_
  rintro e w' ⟨rfl, rfl⟩
  go_wp2_with fail
  go_at_call 27
  refine cA.mono ?_
  rintro e w' ⟨rfl, rfl⟩
  go_wp2_with fail
  go_at_call 22
  refine cN.mono ?_
  rintro e w' ⟨rfl, rfl⟩
  clear cMd cA cN
  go_wp2
  clear mk
  go_loopw [6, 33] (fun v i wr => ∃ t : Nat, t ≤ k ∧ i = .int .i64 t ∧ Rws wr w.heap.size v t (fun _ => l) (mm k S F) ∧ Below w.heap.size w wr) (fun _ i _ => k - (intOf i).toNat)
  case atStart => exact ⟨0, by omega, rfl, HO.out, HB0.out⟩
  case round =>
    obtain ⟨t, ht, rfl, hbl, hb⟩ := hrel
    clear HO HB0
    have HBL : Hid (Rws wr w.heap.size _ t (fun _ => l) (mm k S F)) := hbl
    clear hbl
    by_cases hlt : t < k
    · have it : (t : Int) < (k : Int) := by omega
      have hM := HM.out.keep hb
      obtain ⟨b, o, rfl, hc⟩ := hM.lies (by omega)
      have ct := hc t hlt
      have cc := copied_any (A t) l (C t) (F t) wr (hM.row t hlt) (hM.nil t hlt) hl
      clear hM hc c0 c1 c2
      generalize A t = at' at *
      generalize C t = ct' at *
      go_wp2_with fail
      go_at_call 28
      refine cc.mono ?_
      rintro e w1 ⟨g, c', rfl, hrow, hg, hb1⟩
      obtain ⟨v', W2, hr2, hbl2, hb2⟩ := HBL.out.pushNew (c := c') Try.underlying27 hb1 hb.size hrow hg (fun j _ => (enc_top HC.out.sys HM.out.lt hlt).symm) (mm_B HC.out.sys.lt) (by omega)
      have R2 : Hid _ := hr2
      have HB : Hid (Rws W2 w.heap.size v' (t + 1) (fun _ => l) (mm k S F)) := hbl2
      have HW : Hid (Below w.heap.size w W2) := hb.trans hb2
      clear hr2 hbl2 hb2 hb1 hb hrow cc HBL
      go_wp2_with (at_builtin; refine wpList_append_ran (by rfl) _ _ 27 (by rfl) _ _ _ _ (by rfl) (by rfl) R2.out ?_)
      go_wp2
      go_round
      case rel => exact ⟨t + 1, by omega, by go_num, HB.out, HW.out⟩
      case measure => simp [intOf]; omega
    · have : t = k := by omega
      subst this
      have q0 := (hb.cell (p := ⟨p, 0, none⟩) (block_lt_of_cell c0)).trans c0
      have q1 := (hb.cell (p := ⟨p, 1, none⟩) (block_lt_of_cell c1)).trans c1
      have HBb : Hid (Below w.heap.size w wr) := hb
      clear c0 c1 c2 hb
      have ikN : (t : Int) ≤ (N : Int) := by omega
      go_wp2
      go_quiet (fail)
      go_wp2
      have HB0 : Hid (Below w.heap.size w (wr.drewN nq)) := below_drewN HBb.out nq
      have HO : Hid (Rws (wr.drewN nq) w.heap.size u6 t (fun _ => l) (mm t S F)) := by
        obtain ⟨A', C', b'⟩ := HBL.out
        exact ⟨A', C', b'.own, fun i hi => (b'.row i hi).drewN nq, b'.blk, b'.nil⟩
      clear HBL HBb q0 q1
      rename World => wo
      go_loopw [6, 53] (fun v i wr => ∃ r : Nat, t + r ≤ N ∧ i = .int .i64 r ∧ Rws wr w.heap.size v (t + r) (fun _ => l) (mm t S F) ∧ Below w.heap.size w wr) (fun _ i _ => N - t - (intOf i).toNat)
      case atStart => exact ⟨0, by omega, rfl, HO.out, HB0.out⟩
      case round =>
        obtain ⟨r, hr, rfl, hbl, hb⟩ := hrel
        clear HO HB0
        have HBL : Hid (Rws wr w.heap.size _ (t + r) (fun _ => l) (mm t S F)) := hbl
        clear hbl
        by_cases hlt2 : t + r < N
        · have ir : (r : Int) < (N : Int) - (t : Int) := by omega
          have mS := MS.out.keep hb
          have cS := mS.cellAt hlt2
          have cc := combine_any p t N S wr (AS (t + r)) a (CS (t + r)) t c l (S (t + r)) A C F (HC.out.keep hb) (mS.row _ hlt2) (HM.out.keep hb) (Nat.le_refl _) (by omega) hl
          clear mS
          generalize AS (t + r) = as' at *
          generalize CS (t + r) = cs' at *
          go_wp2_with fail
          go_at_call 29
          refine cc.mono ?_
          rintro e w1 ⟨g, c', rfl, hrow, hg, hb1⟩
          obtain ⟨v', W2, hr2, hbl2, hb2⟩ := HBL.out.pushNew (c := c') Try.underlying27 hb1 hb.size hrow hg (fun j _ => rfl) (mm_B HC.out.sys.lt) (by omega)
          have R2 : Hid _ := hr2
          have HB : Hid (Rws W2 w.heap.size v' (t + r + 1) (fun _ => l) (mm t S F)) := hbl2
          have HW : Hid (Below w.heap.size w W2) := hb.trans hb2
          clear hr2 hbl2 hb2 hb1 hb hrow cc HBL
          go_wp2_with (at_builtin; refine wpList_append_ran (by rfl) _ _ 27 (by rfl) _ _ _ _ (by rfl) (by rfl) R2.out ?_)
          go_wp2
          go_round
          case rel => exact ⟨r + 1, by omega, by go_num, HB.out, HW.out⟩
          case measure => simp [intOf]; omega
        · have e : t + r = N := by omega
          rw [e] at HBL
          have ir : ¬ (r : Int) < (N : Int) - (t : Int) := by omega
          go_wp2
          go_ret2
          exact ⟨_, rfl, HBL.out, hb⟩

set_option maxRecDepth 100000 in
theorem encode_no (p k N : Nat) (S : Nat → Nat → Nat) (w : World) (a : Option Addr) (n c : Nat) (A : Nat → Option Addr) (L C : Nat → Nat) (F : Nat → Nat → Nat) (hcode : Code w p k N S) (h : Mat w a n A L C F) (hn : n ≤ 9223372036854775807) (hno : ¬ (n = k ∧ ∀ i, i < n → L i = L 0)) :
    Calls Try.prog 11 #[.pointer (some ⟨p, 0, none⟩), .slice a n c] w fun e w' => e = .returned (.tuple #[.slice none 0 0, .int .i64 1]) ∧ w = w' := by
  have cMd := made_any p k N S w hcode
  obtain ⟨hh, bt, AS, CS, c0, c1, c2, mS, _⟩ := hcode.ex
  have k2 := hcode.kN
  have k3 := hcode.N2
  by_cases hk : n = k
  · have cA := alike_no a n c A L C F w h hn (fun q => hno ⟨hk, q⟩)
    clear hno mS h hcode
    rw [← hk] at c0
    clear hk
    go_enter Try.func11, Try.ntmps11
    go_wp2_with fail
    go_at_call 26
    refine cMd.mono ?_
    rintro e w' ⟨rfl, rfl⟩
    go_wp2_with fail
    go_at_call 27
    refine cA.mono ?_
    rintro e w' ⟨rfl, rfl⟩
    go_wp2
    go_ret2
    exact ⟨rfl, rfl⟩
  · have hk' : ((n : Nat) : Int) ≠ (k : Int) := by omega
    clear hno mS h hcode hk
    go_enter Try.func11, Try.ntmps11
    go_wp2_with fail
    go_at_call 26
    refine cMd.mono ?_
    rintro e w' ⟨rfl, rfl⟩
    go_wp2
    go_ret2
    exact ⟨rfl, rfl⟩
end Go.Proofs.Ytbfhmdphhhjlnaa
