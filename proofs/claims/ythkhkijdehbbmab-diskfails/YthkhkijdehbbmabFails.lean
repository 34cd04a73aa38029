/-
  Just so many operations fail as was said, with an error of input or output, and do nothing; a disk that is offline does nothing either, and has all when it is back: for every number and every row of deeds. No condition.
-/
import Derived.Test.YthkhkijdehbbmabRows
import Derived.WalkKit
import Derived.ProofKit
import Derived.OpenShut
import Derived.ShutString
import Derived.ChangeOld
import Derived.Below
import Derived.SizedLaws
import Derived.ChangeSame
import Derived.ChangeMaps5
import Derived.Test.YthkhkijdehbbmabSmZ
set_option maxRecDepth 100000
namespace Go.Proofs.Ythkhkijdehbbmab
namespace diskFails
open Go.ChangeShapes Go.WideShapes Go.ChangeAt Go.RowKit
open _root_.Go.Proofs.Ythkhkijdehbbmab.Nm _root_.Go.Proofs.Ythkhkijdehbbmab.Dk
set_option linter.unusedVariables false
attribute [local go_sem ↓] Go.wp_at_zero Go.wp_at_succ

theorem own : ownKnob Try.prog.godebug = none := by kernel_rfl
theorem laidOut : laidOutB Try.prog = true := by kernel_rfl

def tX : ByteArray := ⟨#[120]⟩
def tY : ByteArray := ⟨#[121]⟩
def tZ : ByteArray := ⟨#[122]⟩
def tE : ByteArray := ⟨#[]⟩
def tW : ByteArray := ⟨#[119, 97, 115]⟩
/-- A disk that has x, and y or not. -/
def gS (o : Option ByteArray) (b : Int) (f : Bool) : St := ⟨⟨tX, tW, false⟩ :: (match o with | none => [] | some d => [⟨tY, d, false⟩]), 1000000, f, b⟩
def okO (o : Option ByteArray) : Prop := ∀ d, o = some d → d.size ≤ 5000
theorem gs_full {o : Option ByteArray} {b : ByteArray} (ho : okO o) (hb : b.size ≤ 5000) : full (gS o 0 false) tY b = false := by
  unfold full oldN
  cases o with
  | none =>
    show (decide ((1000000 : Int) < ((3 : Nat) : Int) + ((b.size : Nat) : Int) - ((0 : Nat) : Int)) || _) = false
    rw [decide_eq_false (by omega)]; rfl
  | some d =>
    have := ho d rfl
    show (decide ((1000000 : Int) < ((used [(⟨tX, tW, false⟩ : Fl), (⟨tY, d, false⟩ : Fl)] : Nat) : Int) + ((b.size : Nat) : Int) - ((d.size : Nat) : Int)) || _) = false
    have e : used [(⟨tX, tW, false⟩ : Fl), (⟨tY, d, false⟩ : Fl)] = 3 + d.size := by
      unfold used
      simp
      rfl
    rw [e, decide_eq_false (by omega)]; rfl
theorem gs_put (o : Option ByteArray) (b : ByteArray) : ({ gS o 0 false with fs := Dk.put (gS o 0 false).fs ⟨tY, b, false⟩ } : St) = gS (some b) 0 false := by
  cases o with
  | none => rfl
  | some d => rfl
theorem gs_look (d : ByteArray) : fileL tY (gS (some d) 0 false).fs = ⟨tY, d, false⟩ ∧ there tY (gS (some d) 0 false).fs = true := ⟨rfl, rfl⟩
theorem gs_none (b : Int) : fileL tY (gS none b false).fs = ⟨⟨#[]⟩, ⟨#[]⟩, false⟩ ∧ there tY (gS none b false).fs = false := ⟨rfl, rfl⟩
theorem gs_ok (o : Option ByteArray) (ps : List ByteArray) (h : ps.all okPath = true) : askZ none (gS o 0 false) ps = (0, none, gS o 0 false) := by
  have : askD (gS o 0 false) ps = (0, gS o 0 false) := askD_go rfl rfl h
  unfold askZ
  dsimp only
  rw [this]
theorem gs_bad (o : Option ByteArray) (b : Int) (ps : List ByteArray) (h : 0 < b) : askZ none (gS o b false) ps = (9, none, gS o (b - 1) false) := by
  have : askD (gS o b false) ps = (9, gS o (b - 1) false) := askD_bad rfl h
  unfold askZ
  dsimp only
  rw [this]
theorem gs_off (o : Option ByteArray) (ps : List ByteArray) : askZ none (gS o 0 true) ps = (10, none, gS o 0 true) := by
  have : askD (gS o 0 true) ps = (10, gS o 0 true) := askD_off rfl
  unfold askZ
  dsimp only
  rw [this]
theorem gs_w9 (o : Option ByteArray) (b : Int) (x d : ByteArray) (h : 0 < b) : wriZ none (gS o b false) x d = (9, gS o (b - 1) false) := by
  unfold wriZ
  rw [gs_bad o b _ h, if_pos (show (9 : Int) ≠ 0 by decide)]
theorem gs_w0 {o : Option ByteArray} {d : ByteArray} (ho : okO o) (hb : d.size ≤ 5000) : wriZ none (gS o 0 false) tY d = (0, gS (some d) 0 false) := by
  rw [wri_ok rfl rfl rfl rfl (by omega) (gs_full ho hb), gs_put]
theorem gs_wo (o : Option ByteArray) (x d : ByteArray) : wriZ none (gS o 0 true) x d = (10, gS o 0 true) := by
  unfold wriZ
  rw [gs_off, if_pos (show (10 : Int) ≠ 0 by decide)]
theorem gs_so (o : Option ByteArray) (x : ByteArray) : synZ none (gS o 0 true) x = (10, gS o 0 true) := by
  unfold synZ
  rw [gs_off, if_pos (show (10 : Int) ≠ 0 by decide)]
theorem gs_ro (o : Option ByteArray) (x y : ByteArray) : renZ none (gS o 0 true) x y = (10, gS o 0 true) := by
  unfold renZ
  rw [gs_off, if_pos (show (10 : Int) ≠ 0 by decide)]
theorem gs_do (o : Option ByteArray) (x : ByteArray) : delZ none (gS o 0 true) x = (10, gS o 0 true) := by
  unfold delZ
  rw [gs_off, if_pos (show (10 : Int) ≠ 0 by decide)]
theorem gs_eo (o : Option ByteArray) (x : ByteArray) : readZ none (gS o 0 true) x = (⟨#[]⟩, 10) := by
  unfold readZ
  rw [gs_off, if_pos (show (10 : Int) ≠ 0 by decide)]
theorem gs_lo (o : Option ByteArray) (x : ByteArray) : lisZ none (gS o 0 true) x = ([], 10) := by
  unfold lisZ
  rw [gs_off, if_pos (show (10 : Int) ≠ 0 by decide)]
theorem gs_e0 (o : Option ByteArray) : readZ none (gS o 0 false) tX = (tW, 0) := by
  unfold readZ
  rw [gs_ok o _ rfl, if_neg (fun k => k rfl)]
  cases o <;> rfl
theorem litW (w : World) : Inp (w.alloc (.cells #[.int .u8 119, .int .u8 97, .int .u8 115] 5 (3, 4))) (some ⟨w.heap.size, 0, none⟩) 3 3 tW := by
  have hf : ∀ i, (if i = 0 then 119 else if i = 1 then 97 else 115 : Nat) < 256 := fun i => by split <;> (try split) <;> omega
  refine ⟨⟨fun i => if i = 0 then 119 else if i = 1 then 97 else 115, hf, ⟨hf, fun _ => ⟨w.heap.size, 0, rfl, fun i hi => ?_⟩⟩, by rfl⟩, rfl, fun e => by cases e⟩
  match i, hi with
  | 0, _ => exact cell_of_row _ w.heap.size 0 _ _ _ (heap_alloc_new _ _)
  | 1, _ => exact cell_of_row _ w.heap.size 1 _ _ _ (heap_alloc_new _ _)
  | 2, _ => exact cell_of_row _ w.heap.size 2 _ _ _ (heap_alloc_new _ _)
theorem ask_zn (s : St) (ps : List ByteArray) : (askZ none s ps).2.1 = none := rfl
theorem zbN : Zb none := fun y e => by cases e
/-- The round's relation. -/
structure FaW (w0 : World) (p m K j : Nat) (o : Option ByteArray) (w : World) : Prop where
  h : On w0 w p m none (gS o (((K - j : Nat)) : Int) false) none
  ok1 : okO o
  n : j ≤ K → o = none
set_option maxHeartbeats 8000000 in
theorem core (n : Nat) (a : Option Addr) (c : Nat) (L : List Dd) (w0 : World) (hn : n ≤ 255) (hD : Ds w0 a L) (hz : a = none → L.length = 0 ∧ c = 0) (hl : L.length ≤ maxLen) (hok : ∀ i, i < L.length → Dok L[i]!) :
    Calls Try.prog 5 #[.int .u8 (n : Int), .slice a L.length c] w0 fun e w' => e = .returned (.bool true) ∧ Below w0.heap.size w0 w' := by
  have cA := awake_any w0
  go_enter Try.func5, Try.ntmps5
  go_wp2_with fail
  go_at_call 6
  refine cA.mono ?_
  rintro e w ⟨rfl, b0⟩
  clear cA
  have HB0 : Hid (Below w0.heap.size w0 w) := b0
  have cR := room_any a c L 50 w (hD.keep b0) hl
  have HD : Hid (Ds w0 a L) := hD
  clear b0 hD hok
  go_wp2_with fail
  go_at_call 7
  refine cR.mono ?_
  rintro e w ⟨rfl, rfl⟩
  clear cR
  cases hR : roomB L 50 with
  | false =>
    go_wp2
    go_ret
    exact ⟨rfl, HB0.out⟩
  | true =>
    obtain ⟨hlen, hsm⟩ := roomB_out hR
    have HSM : Hid (∀ i, i < L.length → L[i]!.a.size ≤ 1000 ∧ L[i]!.b.size ≤ 1000 ∧ L[i]!.v.2.1 ≤ 5000) := hsm
    clear hR hsm
    have cW := on_new w0 w HB0.out none none trivial (fun j e => by cases e) 1000000 (by decide) (by decide)
    dsimp only [Option.map] at cW
    go_wp2_with fail
    go_at_call 9
    refine cW.mono ?_
    rintro e x1 ⟨rfl, h1, _⟩
    obtain ⟨m, hm⟩ : ∃ m, w.heap.size = m := ⟨_, rfl⟩
    rw [hm] at h1
    obtain ⟨y1, hy1⟩ : ∃ y, x1.alloc (.cells #[.int .u8 119, .int .u8 97, .int .u8 115] 5 (3, 4)) = y := ⟨_, rfl⟩
    have cs : Sem.run Try.prog (convert 29 29 (.slice (some ⟨x1.heap.size, 0, none⟩) 3 3)) (x1.alloc (.cells #[.int .u8 119, .int .u8 97, .int .u8 115] 5)) = .ok (.slice (some ⟨x1.heap.size, 0, none⟩) 3 3) y1 := by rw [← hy1]; exact Lib.run_convert_bytes_const (P := Try.prog) x1 29 5 #[.int .u8 119, .int .u8 97, .int .u8 115] 3 3 Try.underlying29 Try.underlying5
    have bb : Below x1.heap.size x1 y1 := by rw [← hy1]; exact bal _ _
    have hi := litW x1
    rw [hy1] at hi
    have c1 := on_write (h1.keep bb) zbN (x := tX) (show tX.size ≤ maxLen by decide) hi (by decide)
    rw [show wriZ none (newSt 1000000) tX tW = (0, gS none 0 false) from rfl, show (askZ none (newSt 1000000) [tX]).2.1 = none from rfl] at c1
    clear h1 bb hi hy1 cW
    go_wp2_with fail
    go_at_call 10
    refine c1.mono ?_
    rintro e x2 ⟨rfl, h2, _⟩
    clear c1 cs
    obtain ⟨K, hKK⟩ : ∃ K, n % 20 = K := ⟨_, rfl⟩
    have hK39 : K ≤ 19 := by omega
    have tm : ((n : Nat) : Int).tmod 20 = (K : Int) := by
      rw [← hKK]
      show (n : Int).tmod ((20 : Nat) : Int) = _
      rw [Int.ofNat_tmod]
    have cv : Sem.run Try.prog (convert 5 3 (.int .u8 (n : Int))) x2 = .ok (.int .i64 (n : Int)) x2 := by
      simp [convert, run_underlying Try.underlying5, run_underlying Try.underlying3, Conv.intToInt]
      rw [IntKind.wrap_i64]; omega
    have cS := on_fail h2 (n := (K : Int)) (by omega) (by omega)
    clear h2 hKK
    go_wp2_with fail
    go_at_call 18
    refine cS.mono ?_
    rintro e x3 ⟨rfl, h3, _⟩
    have HW0 : Hid (FaW w0 (m + 1) m K 0 none x3) := by
      have e0 : ({ gS none 0 false with bad := max (K : Int) 0 } : St) = gS none (((K - 0 : Nat)) : Int) false := by
        rw [show max (K : Int) 0 = ((K - 0 : Nat) : Int) by omega]
        rfl
      rw [e0] at h3
      exact ⟨h3, fun d e => (nomatch e), fun _ => rfl⟩
    clear cS h3 cv
    go_wp2_with fail
    go_loopw [7] (fun i wr => ∃ (j : Nat) (o : Option ByteArray), j ≤ L.length ∧ i = .int .i64 j ∧ FaW w0 (m + 1) m K j o wr) (fun i _ => L.length - (intOf i).toNat)
    case atStart => exact ⟨0, none, by omega, rfl, HW0.out⟩
    case round =>
      obtain ⟨j, o, hj, rfl, hW⟩ := hrel
      have HW : Hid (FaW w0 (m + 1) m K j o wr) := hW
      have hb := hW.h.b
      clear hW
      by_cases hlt : j < L.length
      · have ij : (j : Int) < (L.length : Int) := by omega
        obtain ⟨bb, oo, rfl, hA⟩ := (HD.out.keep hb) (by omega)
        have HA : Hid (∀ wr, Below w0.heap.size w0 wr → DAt wr bb (oo + j * 5) L[j]!) := fun wr hb' => by
          obtain ⟨b', o', e, hA'⟩ := (HD.out.keep hb') (by omega)
          injection e with e
          injection e with e1 e2
          subst e1; subst e2
          exact hA' j hlt
        have t4 := (hA j hlt).c4
        have hinp := (hA j hlt).i
        have hs5 := (HSM.out j hlt).2.2
        obtain ⟨e, he⟩ : ∃ e, L[j]! = e := ⟨_, rfl⟩
        rw [he] at t4 hinp hs5 HA
        obtain ⟨ed, en, ea, eb, ⟨va, vn, vc⟩, ex⟩ := e
        dsimp only at t4 hinp hs5
        have hx5 : ex.size ≤ 5000 := by rw [← hinp.len]; exact hs5
        clear hA he
        by_cases q1 : j < K
        · have i1 : (j : Int) < (K : Int) := by omega
          have i2 : decide ((K : Int) ≤ (j : Int)) = false := decide_eq_false (by omega)
          have i3 : ¬ K ≤ j := by omega
          have ho : o = none := HW.out.n (by omega)
          subst ho
          have c1 := on_write HW.out.h zbN (x := tY) (show tY.size ≤ maxLen by decide) hinp (by unfold maxLen; omega)
          rw [gs_w9 none _ _ _ (by omega), ask_zn] at c1
          clear hinp hb hx5 hs5
          go_wp2_with fail
          go_at_call 10
          refine c1.mono ?_
          rintro e w5 ⟨rfl, h5, _⟩
          have h5 : On w0 w5 (m + 1) m none (gS none (((K - (j + 1) : Nat)) : Int) false) none := by
            have e : ((K - j : Nat) : Int) - 1 = ((K - (j + 1) : Nat) : Int) := by omega
            rw [← e]; exact h5
          have c2 := on_look h5 (x := tY) (show tY.size ≤ maxLen by decide)
          rw [(gs_none _).1, (gs_none _).2] at c2
          clear c1 h5 t4
          go_wp2_with fail
          go_at_call 19
          refine c2.mono ?_
          rintro e w6 ⟨la, ln, lc, rfl, HH⟩
          clear c2
          dsimp only
          go_wp2_with fail
          go_quiet (fail)
          go_wp2
          go_round
          case rel => exact ⟨j + 1, none, by omega, by go_num, ⟨HH.out.2.1.keep (bdn' _ nq), fun d e => (nomatch e), fun _ => rfl⟩⟩
          case measure => simp [intOf]; omega
        · have i1 : decide ((j : Int) < (K : Int)) = false := decide_eq_false (by omega)
          have i2 : (K : Int) ≤ (j : Int) := by omega
          have i3 : K ≤ j := by omega
          have hh : On w0 wr (m + 1) m none (gS o 0 false) none := by
            have := HW.out.h
            rw [show ((K - j : Nat) : Int) = 0 by omega] at this
            exact this
          have c1 := on_write hh zbN (x := tY) (show tY.size ≤ maxLen by decide) hinp (by unfold maxLen; omega)
          rw [gs_w0 HW.out.ok1 hx5, ask_zn] at c1
          have HX5 : Hid (ex.size ≤ 5000) := hx5
          clear hinp hb hx5 hs5 hh
          go_wp2_with fail
          go_at_call 10
          refine c1.mono ?_
          rintro e w5 ⟨rfl, h5, _⟩
          have c2 := on_look h5 (x := tY) (show tY.size ≤ maxLen by decide)
          rw [(gs_look _).1, (gs_look _).2] at c2
          clear c1 h5 t4
          go_wp2_with fail
          go_at_call 19
          refine c2.mono ?_
          rintro e w6 ⟨la, ln, lc, rfl, HH⟩
          clear c2
          have hA6 := HA.out w6 HH.out.2.1.b
          have t6 := hA6.c4
          dsimp only at t6
          have cv1 : ∀ n, Sem.run Try.prog (convert 29 9 (.slice la ln lc)) (w6.drewN n) = .ok (.string ex) (w6.drewN n) := fun n => (HH.out.1.keep (bdn' _ n)).conv
          have cv2 : ∀ n, Sem.run Try.prog (convert 29 9 (.slice va vn vc)) (w6.drewN n) = .ok (.string ex) (w6.drewN n) := fun n => (hA6.i.keep (bdn' _ n)).conv
          clear hA6
          dsimp only
          go_wp2_with fail
          go_quiet (fail)
          go_wp2
          go_round
          case rel => exact ⟨j + 1, some ex, by omega, by go_num, ⟨by rw [show ((K - (j + 1) : Nat) : Int) = 0 by omega]; exact HH.out.2.1.keep (bdn' _ nq), fun d e => (by injection e with e; rw [← e]; exact HX5.out), fun e => absurd e (by omega)⟩⟩
          case measure => simp [intOf]; omega
      · have hjn : j = L.length := by omega
        subst hjn
        have ij : decide ((L.length : Int) < (L.length : Int)) = false := by simp
        have c1 := on_fail HW.out.h (n := 0) (by decide) (by decide)
        clear hlt hb HW
        go_wp2_with fail
        go_at_call 18
        refine c1.mono ?_
        rintro e w1 ⟨rfl, h1, _⟩
        have c2 := on_offline h1 true
        rw [show ({ ({ gS o (((K - L.length : Nat)) : Int) false with bad := max 0 0 } : St) with off := true } : St) = gS o 0 true from rfl] at c2
        clear c1 h1
        go_wp2_with fail
        go_at_call 20
        refine c2.mono ?_
        rintro e w2 ⟨rfl, h2, _⟩
        have c3 := on_write h2 zbN (x := tX) (show tX.size ≤ maxLen by decide) (Inp.none _) (by decide)
        rw [gs_wo, ask_zn] at c3
        clear c2 h2
        go_wp2_with fail
        go_at_call 10
        refine c3.mono ?_
        rintro e w3 ⟨rfl, h3, _⟩
        have c4 := on_sync h3 zbN (x := tX) (show tX.size ≤ maxLen by decide)
        rw [gs_so, ask_zn] at c4
        clear c3 h3
        go_wp2_with fail
        go_at_call 21
        refine c4.mono ?_
        rintro e w4 ⟨rfl, h4, _⟩
        have c5 := on_rename h4 zbN (x := tX) (y := tZ) (show tX.size ≤ maxLen by decide) (show tZ.size ≤ maxLen by decide)
        rw [gs_ro, ask_zn] at c5
        clear c4 h4
        go_wp2_with fail
        go_at_call 22
        refine c5.mono ?_
        rintro e w5 ⟨rfl, h5, _⟩
        have c6 := on_delete h5 zbN (x := tX) (show tX.size ≤ maxLen by decide)
        rw [gs_do, ask_zn] at c6
        clear c5 h5
        go_wp2_with fail
        go_at_call 11
        refine c6.mono ?_
        rintro e w6 ⟨rfl, h6, _⟩
        have c7 := on_read h6 zbN (x := tX) (show tX.size ≤ maxLen by decide)
        rw [gs_eo, gs_off] at c7
        clear c6 h6
        go_wp2_with fail
        go_at_call 23
        refine c7.mono ?_
        rintro e w7 ⟨ra, rn, rc, rfl, HH⟩
        have c8 := on_list HH.out.2.1 zbN (x := tE) (show tE.size ≤ maxLen by decide)
        rw [gs_lo, gs_off] at c8
        clear c7 HH
        dsimp only
        go_wp2_with fail
        go_at_call 24
        refine c8.mono ?_
        rintro e w8 ⟨rv, rM, rfl, HH⟩
        have c9 := on_offline HH.out.2.2.1 false
        rw [show ({ gS o 0 true with off := false } : St) = gS o 0 false from rfl] at c9
        clear c8 HH
        dsimp only
        go_wp2_with fail
        go_at_call 20
        refine c9.mono ?_
        rintro e w9 ⟨rfl, h9, _⟩
        have c10 := on_read h9 zbN (x := tX) (show tX.size ≤ maxLen by decide)
        rw [gs_e0, gs_ok o _ rfl] at c10
        clear c9 h9
        go_wp2_with fail
        go_at_call 23
        refine c10.mono ?_
        rintro e w10 ⟨sa, sn, sc, rfl, HH⟩
        have cv : Sem.run Try.prog (convert 29 9 (.slice sa sn sc)) w10 = .ok (.string { data := #[119, 97, 115] }) w10 := HH.out.1.conv
        have hxy : ({ data := #[119, 97, 115] } : ByteArray).toList = [119, 97, 115] := by rw [ByteArray.toList_eq]
        have HB : Hid (Below w0.heap.size w0 w10) := HH.out.2.1.b
        clear c10 HH
        dsimp only
        go_wp2
        go_ret
        exact ⟨rfl, HB.out⟩


set_option maxRecDepth 100000 in
theorem lifted (os : Os) (started : os.Started) (H : Type) (enc : TypeId × Value → H) :
    ReturnsInHanded {} Try.checked os 5 .any (Rows.diskFailsSpec.pre6 enc Try.prog Try.f5 Rows.diskFailsRow.domain false) (Rows.diskFailsSpec.post enc Try.prog Try.f5 false true false false) := by
  refine returnsInHanded_of_change_sized (C := Try.checked) own started (by kernel_rfl) Try.func5
    (ChangeSpec.witness6 (enc := enc) (C := Try.checked) false ⟨#[], #[.int .u8 0, .slice none 0 0], []⟩ 8 (by kernel_rfl) (by kernel_rfl) (by kernel_rfl) (by kernel_rfl)) ?_
  intro W base args ds gs before hval0 hW hcnd hsz0 _
  have hval : ∀ (j : Nat) t v, Try.f5.params[j]? = some t → args[j]? = some v → Value.okWide Try.prog W .any base t v := hval0
  have hsz : (DataW.weightsEach Try.prog (Try.f5.params.toList ++ Rows.diskFailsSpec.plain.varTypes Try.prog) (ds ++ gs)).all (· ≤ reachBytes) = true := hsz0
  have hW' := hW
  obtain ⟨p, q, hA0, hV, rfl, hfz, hnd⟩ := hW
  have hA : DataW.TrodAll enc Try.prog W 0 (fun _ => true) true Try.f5.params.toList args.toList ds p := hA0
  rw [Try.params5] at hA hval hsz
  obtain ⟨v0, vs0, d0, ds0, p0, q0, hargs, rfl, rfl, h0, r0⟩ := trodAll_cons hA
  obtain ⟨v1, vs1, d1, ds1, p1, q1, rfl, rfl, rfl, h1, r1⟩ := trodAll_cons r0
  obtain ⟨rfl, rfl, rfl⟩ := trodAll_nil r1
  obtain rfl : args = #[v0, v1] := by cases args; simp_all
  obtain ⟨rfl, rfl⟩ := trodVars_none hV
  have k0 := h0
  have lt0 : ∀ x ∈ p0, x.block < W.heap.size := by obtain ⟨m, hm⟩ := k0; exact DataW.trod_lt m _ _ _ hm
  obtain ⟨y0, rfl, _, _, w0⟩ := open_int Try.underlying5 (hval 0 5 v0 rfl rfl) h0
  have e0 : 0 ≤ y0 ∧ y0 ≤ 255 := by simpa [Lit.wf, IntKind.min, IntKind.max, IntKind.signed, IntKind.bits] using w0
  obtain ⟨x0, rfl⟩ : ∃ x : Nat, y0 = (x : Int) := ⟨y0.toNat, by omega⟩
  have k1 := h1
  have lt1 : ∀ x ∈ p1, x.block < W.heap.size := by obtain ⟨m, hm⟩ := k1; exact DataW.trod_lt m _ _ _ hm
  obtain ⟨a1, c1, L1, rfl, m1, z1, e1, g1⟩ := open_deeds (hval 1 22 v1 rfl rfl) h1
  clear hA0 hval0 hsz0
  refine (core x0 a1 c1 L1 W (by omega) m1 z1 e1 g1).mono fun e W' ⟨he, bel⟩ => ?_
  subst he
  exact ⟨_, rfl, _, _, _, [], _, [], hW', trodAll_mk1 (shut_bool Try.underlying4 _), (trodAll_cons_mk (Below.trod laidOut (by kernel_rfl) (of_decide_eq_true (by kernel_rfl)) k0 bel lt0) (trodAll_cons_mk (Below.trod laidOut (by kernel_rfl) (of_decide_eq_true (by kernel_rfl)) k1 bel lt1) trodAll_mk0)), rfl, bel.frame _, fun h => by cases h⟩

theorem over : Rows.diskFailsRow.holds Try.pinned (OpenSpec.ofChange Rows.diskFailsSpec) :=
  OpenClaim.holds_of_wide 5 Try.f5 rfl rfl rfl rfl rfl rfl rfl ⟨rfl, rfl, rfl, rfl, rfl⟩ rfl rfl rfl rfl rfl (by kernel_rfl) Try.func5 (by kernel_rfl)
    (of_decide_eq_true (by kernel_rfl)) (by unfold Func.isWrapper; first | (rw [if_pos (by decide +kernel)]; kernel_rfl) | (rw [if_neg (by decide +kernel)]; exact ⟨rfl, rfl⟩))
    (fun os started H enc _ => lifted os started H enc)

end diskFails

/-- The statement. -/
theorem diskFails_holds : Rows.DiskFailsSaid := diskFails.over
#print axioms diskFails_holds
end Go.Proofs.Ythkhkijdehbbmab
