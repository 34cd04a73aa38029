/-
  Two disks with one fuse share nothing else: what is done on one is not seen on the other: for every row of deeds. No condition.
-/
import Derived.Test.YthkhkijdehbbmabRows
import Derived.WalkKit
import Derived.ProofKit
import Derived.OpenShut
import Derived.ShutString
import Derived.ChangeOld
import Derived.Below
import Derived.SizedLaws
import Derived.ChangeSame
import Derived.ChangeMaps5
import Derived.Test.YthkhkijdehbbmabSmZ
set_option maxRecDepth 100000
namespace Go.Proofs.Ythkhkijdehbbmab
namespace diskApart
open Go.ChangeShapes Go.WideShapes Go.ChangeAt Go.RowKit
open _root_.Go.Proofs.Ythkhkijdehbbmab.Nm _root_.Go.Proofs.Ythkhkijdehbbmab.Dk
set_option linter.unusedVariables false
attribute [local go_sem ↓] Go.wp_at_zero Go.wp_at_succ

theorem own : ownKnob Try.prog.godebug = none := by kernel_rfl
theorem laidOut : laidOutB Try.prog = true := by kernel_rfl

def zf (d : Nat) : Option Fz := some ⟨0, (d : Int), false⟩
theorem zf_tick (d : Nat) : tickO (zf d) = zf (d + 1) := by
  show some (⟨0, (d : Int) + 1, decide ((0 : Int) < 0 ∧ (0 : Int) ≤ (d : Int) + 1)⟩ : Fz) = _
  rw [decide_eq_false (by omega)]; rfl
theorem zf_b (d : Nat) : blB (zf d) = false := rfl
theorem zf_z (d : Nat) (h : d ≤ 100) : Zb (zf d) := fun y e => by
  injection e with e
  subst e
  exact ⟨by show 0 ≤ (d : Int); omega, by show (d : Int) ≤ _; omega⟩
/-- The round's relation. -/
def ApW (w0 : World) (ma mb mc k g j : Nat) (w : World) : Prop :=
  ∃ (s sb : St) (df dg : Nat), On w0 w (ma + 1) ma (some k) s (zf df) ∧ On w0 w (mb + 1) mb (some k) sb (zf df) ∧ On w0 w (mc + 1) mc (some g) s (zf dg) ∧ dg ≤ df ∧ df ≤ j
structure ApD (ma mb mc k g : Nat) : Prop where
  ab : ma ≠ mb
  ac : ma ≠ mc
  bc : mb ≠ mc
  kg : k ≠ g
theorem ApW.keep {w0 w w' : World} {ma mb mc k g j : Nat} (h : ApW w0 ma mb mc k g j w) (b : Below w.heap.size w w') : ApW w0 ma mb mc k g j w' := by
  obtain ⟨s, sb, df, dg, h1, h2, h3, h4, h5⟩ := h
  exact ⟨s, sb, df, dg, h1.keep b, h2.keep b, h3.keep b, h4, h5⟩
theorem ApW.more {w0 w : World} {ma mb mc k g j j' : Nat} (h : ApW w0 ma mb mc k g j w) (hj : j ≤ j') : ApW w0 ma mb mc k g j' w := by
  obtain ⟨s, sb, df, dg, h1, h2, h3, h4, h5⟩ := h
  exact ⟨s, sb, df, dg, h1, h2, h3, h4, by omega⟩
theorem ApW.below {w0 w : World} {ma mb mc k g j : Nat} (h : ApW w0 ma mb mc k g j w) : Below w0.heap.size w0 w := by
  obtain ⟨s, sb, df, dg, h1, _⟩ := h
  exact h1.b
theorem ap_wa {w0 wr : World} {ma mb mc k g j : Nat} (h : ApW w0 ma mb mc k g j wr) (D : ApD ma mb mc k g) (hj : j ≤ 99) {x : ByteArray} (hx : x.size ≤ maxLen) {va : Option Addr} {vn vc : Nat} {b : ByteArray} (hi : Inp w0 va vn vc b) (hn : vn ≤ maxLen) :
    Calls Try.prog 10 #[.pointer (some ⟨ma + 1, 0, none⟩), .string x, .slice va vn vc] wr fun e w' => ∃ r : Int, e = .returned (.int .i64 r) ∧ Hid (Upd (Ms (ma + 1) ma (some k)) wr w' ∧ Calls Try.prog 10 #[.pointer (some ⟨mc + 1, 0, none⟩), .string x, .slice va vn vc] w' fun e w'' => e = .returned (.int .i64 r) ∧ Hid (ApW w0 ma mb mc k g (j + 1) w'' ∧ Upd (Ms (mc + 1) mc (some g)) w' w'')) := by
  obtain ⟨s, sb, df, dg, h1, h2, h3, h4, h5⟩ := h
  refine (on_write h1 (zf_z df (by omega)) hx (hi.keep h1.b) hn).mono ?_
  rintro e w1 ⟨rfl, k1, u1⟩
  refine ⟨_, rfl, u1, ?_⟩
  have k2 := h1.other h2 (by have := D.ab; omega) D.ab u1 k1.fz
  have k3 := h1.other2 h3 (by have := D.ac; omega) D.ac (fun i e e2 => D.kg (by injection e with e; injection e2 with e2; omega)) u1
  refine (on_write k3 (zf_z dg (by omega)) hx (hi.keep k3.b) hn).mono ?_
  rintro e w2 ⟨rfl, n3, u2⟩
  have n1 := k3.other2 k1 (by have := D.ac; omega) D.ac.symm (fun i e e2 => D.kg (by injection e with e; injection e2 with e2; omega)) u2
  have n2 := k3.other2 k2 (by have := D.bc; omega) D.bc.symm (fun i e e2 => D.kg (by injection e with e; injection e2 with e2; omega)) u2
  rw [ask_z, zf_tick] at n1 n2 n3
  rw [wri_same (zf_b df) (zf_b dg)] at n1 ⊢
  exact ⟨rfl, ⟨_, _, _, _, n1, n2, n3, by omega, by omega⟩, u2⟩
theorem ap_wb {w0 wr : World} {ma mb mc k g j : Nat} (h : ApW w0 ma mb mc k g j wr) (D : ApD ma mb mc k g) (hj : j ≤ 99) {x : ByteArray} (hx : x.size ≤ maxLen) {va : Option Addr} {vn vc : Nat} {b : ByteArray} (hi : Inp w0 va vn vc b) (hn : vn ≤ maxLen) :
    Calls Try.prog 10 #[.pointer (some ⟨mb + 1, 0, none⟩), .string x, .slice va vn vc] wr fun e w' => ∃ r : Int, e = .returned (.int .i64 r) ∧ Hid (ApW w0 ma mb mc k g (j + 1) w' ∧ Upd (Ms (mb + 1) mb (some k)) wr w') := by
  obtain ⟨s, sb, df, dg, h1, h2, h3, h4, h5⟩ := h
  refine (on_write h2 (zf_z df (by omega)) hx (hi.keep h2.b) hn).mono ?_
  rintro e w1 ⟨rfl, k2, u1⟩
  have k1 := h2.other h1 (by have := D.ab; omega) D.ab.symm u1 k2.fz
  have k3 := h2.other2 h3 (by have := D.bc; omega) D.bc (fun i e e2 => D.kg (by injection e with e; injection e2 with e2; omega)) u1
  rw [ask_z, zf_tick] at k1 k2
  exact ⟨_, rfl, ⟨_, _, _, _, k1, k2, k3, by omega, by omega⟩, u1⟩
theorem ap_da {w0 wr : World} {ma mb mc k g j : Nat} (h : ApW w0 ma mb mc k g j wr) (D : ApD ma mb mc k g) (hj : j ≤ 99) {x : ByteArray} (hx : x.size ≤ maxLen) :
    Calls Try.prog 11 #[.pointer (some ⟨ma + 1, 0, none⟩), .string x] wr fun e w' => ∃ r : Int, e = .returned (.int .i64 r) ∧ Hid (Upd (Ms (ma + 1) ma (some k)) wr w' ∧ Calls Try.prog 11 #[.pointer (some ⟨mc + 1, 0, none⟩), .string x] w' fun e w'' => e = .returned (.int .i64 r) ∧ Hid (ApW w0 ma mb mc k g (j + 1) w'' ∧ Upd (Ms (mc + 1) mc (some g)) w' w'')) := by
  obtain ⟨s, sb, df, dg, h1, h2, h3, h4, h5⟩ := h
  refine (on_delete h1 (zf_z df (by omega)) hx).mono ?_
  rintro e w1 ⟨rfl, k1, u1⟩
  refine ⟨_, rfl, u1, ?_⟩
  have k2 := h1.other h2 (by have := D.ab; omega) D.ab u1 k1.fz
  have k3 := h1.other2 h3 (by have := D.ac; omega) D.ac (fun i e e2 => D.kg (by injection e with e; injection e2 with e2; omega)) u1
  refine (on_delete k3 (zf_z dg (by omega)) hx).mono ?_
  rintro e w2 ⟨rfl, n3, u2⟩
  have n1 := k3.other2 k1 (by have := D.ac; omega) D.ac.symm (fun i e e2 => D.kg (by injection e with e; injection e2 with e2; omega)) u2
  have n2 := k3.other2 k2 (by have := D.bc; omega) D.bc.symm (fun i e e2 => D.kg (by injection e with e; injection e2 with e2; omega)) u2
  rw [ask_z, zf_tick] at n1 n2 n3
  rw [del_same (zf_b df) (zf_b dg)] at n1 ⊢
  exact ⟨rfl, ⟨_, _, _, _, n1, n2, n3, by omega, by omega⟩, u2⟩
theorem ap_db {w0 wr : World} {ma mb mc k g j : Nat} (h : ApW w0 ma mb mc k g j wr) (D : ApD ma mb mc k g) (hj : j ≤ 99) {x : ByteArray} (hx : x.size ≤ maxLen) :
    Calls Try.prog 11 #[.pointer (some ⟨mb + 1, 0, none⟩), .string x] wr fun e w' => ∃ r : Int, e = .returned (.int .i64 r) ∧ Hid (ApW w0 ma mb mc k g (j + 1) w' ∧ Upd (Ms (mb + 1) mb (some k)) wr w') := by
  obtain ⟨s, sb, df, dg, h1, h2, h3, h4, h5⟩ := h
  refine (on_delete h2 (zf_z df (by omega)) hx).mono ?_
  rintro e w1 ⟨rfl, k2, u1⟩
  have k1 := h2.other h1 (by have := D.ab; omega) D.ab.symm u1 k2.fz
  have k3 := h2.other2 h3 (by have := D.bc; omega) D.bc (fun i e e2 => D.kg (by injection e with e; injection e2 with e2; omega)) u1
  rw [ask_z, zf_tick] at k1 k2
  exact ⟨_, rfl, ⟨_, _, _, _, k1, k2, k3, by omega, by omega⟩, u1⟩
theorem ap_pa {w0 wr : World} {ma mb mc k g j : Nat} (h : ApW w0 ma mb mc k g j wr) (D : ApD ma mb mc k g) :
    Calls Try.prog 12 #[.pointer (some ⟨ma + 1, 0, none⟩)] wr fun e w' => e = .returned (.tuple #[]) ∧ Hid (Upd (Ms (ma + 1) ma (some k)) wr w' ∧ Calls Try.prog 12 #[.pointer (some ⟨mc + 1, 0, none⟩)] w' fun e w'' => e = .returned (.tuple #[]) ∧ Hid (ApW w0 ma mb mc k g (j + 1) w'' ∧ Upd (Ms (mc + 1) mc (some g)) w' w'')) := by
  obtain ⟨s, sb, df, dg, h1, h2, h3, h4, h5⟩ := h
  refine (on_wipe h1).mono ?_
  rintro e w1 ⟨rfl, k1, u1⟩
  refine ⟨rfl, u1, ?_⟩
  have k2 := h1.other h2 (by have := D.ab; omega) D.ab u1 k1.fz
  have k3 := h1.other2 h3 (by have := D.ac; omega) D.ac (fun i e e2 => D.kg (by injection e with e; injection e2 with e2; omega)) u1
  refine (on_wipe k3).mono ?_
  rintro e w2 ⟨rfl, n3, u2⟩
  have n1 := k3.other2 k1 (by have := D.ac; omega) D.ac.symm (fun i e e2 => D.kg (by injection e with e; injection e2 with e2; omega)) u2
  have n2 := k3.other2 k2 (by have := D.bc; omega) D.bc.symm (fun i e e2 => D.kg (by injection e with e; injection e2 with e2; omega)) u2
  exact ⟨rfl, ⟨_, _, _, _, n1, n2, n3, h4, by omega⟩, u2⟩
theorem ap_pb {w0 wr : World} {ma mb mc k g j : Nat} (h : ApW w0 ma mb mc k g j wr) (D : ApD ma mb mc k g) :
    Calls Try.prog 12 #[.pointer (some ⟨mb + 1, 0, none⟩)] wr fun e w' => e = .returned (.tuple #[]) ∧ Hid (ApW w0 ma mb mc k g (j + 1) w' ∧ Upd (Ms (mb + 1) mb (some k)) wr w') := by
  obtain ⟨s, sb, df, dg, h1, h2, h3, h4, h5⟩ := h
  refine (on_wipe h2).mono ?_
  rintro e w1 ⟨rfl, k2, u1⟩
  have k1 := h2.other h1 (by have := D.ab; omega) D.ab.symm u1 k2.fz
  have k3 := h2.other2 h3 (by have := D.bc; omega) D.bc (fun i e e2 => D.kg (by injection e with e; injection e2 with e2; omega)) u1
  exact ⟨rfl, ⟨_, _, _, _, k1, k2, k3, h4, by omega⟩, u1⟩
theorem simInfo : ∃ j, Try.prog.info? 59 = some j ∧ j.size ≠ 0 := by
  have h : (Try.prog.info? 59).map (·.size) = some 6 := by kernel_rfl
  obtain ⟨j, hj, e⟩ := Option.map_eq_some_iff.1 h
  exact ⟨j, hj, by rw [e]; decide⟩
/-- Is the one the other? -/
theorem eq_same (w : World) (a : Addr) : (binOp .eql 27 (.pointer (some a)) (.pointer (some a))).run Try.prog w = .ok (.bool true) w := by
  obtain ⟨j, hj, _⟩ := simInfo
  exact run_eql_ptr_same w a Try.underlying27 hj
theorem eq_other {w0 w : World} {ma mb mc k g j : Nat} (h : ApW w0 ma mb mc k g j w) (D : ApD ma mb mc k g) : (binOp .eql 27 (.pointer (some ⟨mb + 1, 0, none⟩)) (.pointer (some ⟨ma + 1, 0, none⟩))).run Try.prog w = .ok (.bool false) w := by
  obtain ⟨s, sb, df, dg, h1, h2, h3, h4, h5⟩ := h
  obtain ⟨c1, e1⟩ := h1.cells
  obtain ⟨c2, e2⟩ := h2.cells
  obtain ⟨i, hi, hsz⟩ := simInfo
  exact run_eql_ptr_other w Try.underlying27 hi hsz (fun e => by injection e with e; have := D.ab; omega) e2 e1
set_option maxHeartbeats 8000000 in
theorem core (a : Option Addr) (c : Nat) (L : List Dd) (w0 : World) (hD : Ds w0 a L) (hz : a = none → L.length = 0 ∧ c = 0) (hl : L.length ≤ maxLen) (hok : ∀ i, i < L.length → Dok L[i]!) :
    Calls Try.prog 3 #[.slice a L.length c] w0 fun e w' => e = .returned (.bool true) ∧ Below w0.heap.size w0 w' := by
  have cA := awake_any w0
  go_enter Try.func3, Try.ntmps3
  go_wp2_with fail
  go_at_call 6
  refine cA.mono ?_
  rintro e w ⟨rfl, b0⟩
  clear cA
  have HB0 : Hid (Below w0.heap.size w0 w) := b0
  have cR := room_any a c L 50 w (hD.keep b0) hl
  have HD : Hid (Ds w0 a L) := hD
  have HOK : Hid (∀ i, i < L.length → Dok L[i]!) := hok
  clear b0 hD hok
  go_wp2_with fail
  go_at_call 7
  refine cR.mono ?_
  rintro e w ⟨rfl, rfl⟩
  clear cR
  cases hR : roomB L 50 with
  | false =>
    go_wp2
    go_ret
    exact ⟨rfl, HB0.out⟩
  | true =>
    obtain ⟨hlen, hsm⟩ := roomB_out hR
    have HSM : Hid (∀ i, i < L.length → L[i]!.a.size ≤ 1000 ∧ L[i]!.b.size ≤ 1000 ∧ L[i]!.v.2.1 ≤ 5000) := hsm
    clear hR hsm
    have cN := newfuse_any w
    go_wp2_with fail
    go_at_call 8
    refine cN.mono ?_
    rintro e w1 ⟨rfl, hz1, b1⟩
    clear cN
    obtain ⟨k, hk⟩ : ∃ k, w.heap.size = k := ⟨_, rfl⟩
    rw [hk] at hz1
    have HK0 : Hid (w0.heap.size ≤ k) := by unfold Hid; rw [← hk]; exact HB0.out.size
    have HK1 : Hid (k < w1.heap.size) := by
      obtain ⟨cs, e⟩ := hz1.type
      exact (Array.getElem?_eq_some_iff.1 e).1
    have HB1 : Hid (Below w0.heap.size w0 w1) := HB0.out.trans (b1.mono HB0.out.size)
    have HZ1 : Hid (FZ w1 (some k) (some z0)) := hz1
    have cN := newfuse_any w1
    clear hz1 b1
    go_wp2_with fail
    go_at_call 8
    refine cN.mono ?_
    rintro e w2 ⟨rfl, hz2, b2⟩
    clear cN
    obtain ⟨g, hg⟩ : ∃ g, w1.heap.size = g := ⟨_, rfl⟩
    rw [hg] at hz2
    have HG0 : Hid (w0.heap.size ≤ g ∧ k < g) := ⟨by rw [← hg]; exact HB1.out.size, by rw [← hg]; exact HK1.out⟩
    have HB2 : Hid (Below w0.heap.size w0 w2) := HB1.out.trans (b2.mono HB1.out.size)
    have HZ2 : Hid (FZ w2 (some g) (some z0)) := hz2
    have cW := on_new w0 w2 HB2.out (some k) (some z0) (HZ1.out.keep b2) (fun j e => by injection e with e; subst e; exact HK0.out) 5000 (by decide) (by decide)
    dsimp only [Option.map] at cW
    clear hz2 b2
    go_wp2_with fail
    go_at_call 9
    refine cW.mono ?_
    rintro e x1 ⟨rfl, h1, b1⟩
    obtain ⟨ma, hma⟩ : ∃ m, w2.heap.size = m := ⟨_, rfl⟩
    rw [hma] at h1
    have cW2 := on_new w0 x1 h1.b (some k) (some z0) h1.fz (fun j e => by injection e with e; subst e; exact HK0.out) 5000 (by decide) (by decide)
    dsimp only [Option.map] at cW2
    have hlt1 := h1.lt (ma + 1) (.inl rfl)
    have H1 : Hid (On w0 x1 (ma + 1) ma (some k) (newSt 5000) (some z0)) := h1
    have HZ2 : Hid (FZ x1 (some g) (some z0)) := HZ2.out.keep b1
    clear cW h1 b1
    go_wp2_with fail
    go_at_call 9
    refine cW2.mono ?_
    rintro e x2 ⟨rfl, h2, b2⟩
    obtain ⟨mb, hmb⟩ : ∃ m, x1.heap.size = m := ⟨_, rfl⟩
    rw [hmb] at h2 hlt1
    have cW3 := on_new w0 x2 h2.b (some g) (some z0) (HZ2.out.keep b2) (fun j e => by injection e with e; subst e; exact HG0.out.1) 5000 (by decide) (by decide)
    dsimp only [Option.map] at cW3
    have hlt2 := h2.lt (mb + 1) (.inl rfl)
    have H1 : Hid (On w0 x2 (ma + 1) ma (some k) (newSt 5000) (some z0)) := H1.out.keep b2
    have H2 : Hid (On w0 x2 (mb + 1) mb (some k) (newSt 5000) (some z0)) := h2
    clear cW2 h2 b2
    go_wp2_with fail
    go_at_call 9
    refine cW3.mono ?_
    rintro e x3 ⟨rfl, h3, b3⟩
    obtain ⟨mc, hmc⟩ : ∃ m, x2.heap.size = m := ⟨_, rfl⟩
    rw [hmc] at h3 hlt2
    have HDD : Hid (ApD ma mb mc k g) := ⟨by omega, by omega, by omega, by have := HG0.out.2; omega⟩
    have HW0 : Hid (ApW w0 ma mb mc k g 0 x3) := ⟨newSt 5000, newSt 5000, 0, 0, H1.out.keep b3, H2.out.keep b3, h3, Nat.le_refl _, Nat.le_refl _⟩
    clear cW3 h3 b3 hlt1 hlt2
    go_wp2_with fail
    go_loopw [8] (fun i wr => ∃ j : Nat, j ≤ L.length ∧ i = .int .i64 j ∧ ApW w0 ma mb mc k g j wr) (fun i _ => L.length - (intOf i).toNat)
    case atStart => exact ⟨0, by omega, rfl, HW0.out⟩
    case round =>
      obtain ⟨j, hj, rfl, hW⟩ := hrel
      have HW : Hid (ApW w0 ma mb mc k g j wr) := hW
      have hb := hW.below
      clear hW
      by_cases hlt : j < L.length
      · have ij : (j : Int) < (L.length : Int) := by omega
        obtain ⟨bb, oo, rfl, hA⟩ := (HD.out.keep hb) (by omega)
        have t0 := (hA j hlt).c0
        have t1 := (hA j hlt).c1
        have t2 := (hA j hlt).c2
        have t3 := (hA j hlt).c3
        have t4 := (hA j hlt).c4
        have hinp : Inp w0 L[j]!.v.1 L[j]!.v.2.1 L[j]!.v.2.2 L[j]!.x := by
          obtain ⟨b', o', e, hA'⟩ := HD.out (by omega)
          exact (hA' j hlt).i
        have hs := HSM.out j hlt
        obtain ⟨e, he⟩ : ∃ e, L[j]! = e := ⟨_, rfl⟩
        rw [he] at t0 t1 t2 t3 t4 hinp hs
        obtain ⟨ed, en, ea, eb, ⟨va, vn, vc⟩, ex⟩ := e
        dsimp only at t0 t1 t2 t3 t4 hinp hs
        clear hA he
        obtain ⟨N1, hN1⟩ : ∃ N1, bits .and .i64 en 1 = N1 := ⟨_, rfl⟩
        obtain ⟨w2, hw2⟩ : ∃ w2, wr.alloc (.cells #[.int .i64 ed, .int .i64 en, .string ea, .string eb, .slice va vn vc] 31) = w2 := ⟨_, rfl⟩
        have b2 : Below wr.heap.size wr w2 := by rw [← hw2]; exact bal _ _
        have hx2 : w2.heap[wr.heap.size]? = some (.cells #[.int .i64 ed, .int .i64 en, .string ea, .string eb, .slice va vn vc] 31) := by rw [← hw2]; exact heap_alloc_new _ _
        have HX2 : Hid (∀ w' : World, w'.heap[wr.heap.size]? = w2.heap[wr.heap.size]? → w'.cell? ⟨wr.heap.size, 0, none⟩ = some (.int .i64 ed) ∧ w'.cell? ⟨wr.heap.size, 1, none⟩ = some (.int .i64 en) ∧ w'.cell? ⟨wr.heap.size, 2, none⟩ = some (.string ea) ∧ w'.cell? ⟨wr.heap.size, 4, none⟩ = some (.slice va vn vc)) := fun w' e => by
          have h9 := e.trans hx2
          exact ⟨cell_of_row w' wr.heap.size 0 _ _ _ h9, cell_of_row w' wr.heap.size 1 _ _ _ h9, cell_of_row w' wr.heap.size 2 _ _ _ h9, cell_of_row w' wr.heap.size 4 _ _ _ h9⟩
        have HLT : Hid (∀ i, (Ms (ma + 1) ma (some k) i ∨ Ms (mc + 1) mc (some g) i) → i < wr.heap.size) := fun i e => by
          obtain ⟨s, sb, df, dg, h1, h2, h3, _⟩ := HW.out
          rcases e with e | e
          · exact h1.lt i e
          · exact h3.lt i e
        obtain ⟨x0, x1, x2, x4⟩ := HX2.out w2 rfl
        have HSZ : Hid (wr.heap.size < w2.heap.size) := (Array.getElem?_eq_some_iff.1 hx2).1
        have W2 : ApW w0 ma mb mc k g j w2 := HW.out.keep b2
        have HW2 : Hid (ApW w0 ma mb mc k g j w2) := W2
        have qo := eq_other W2 HDD.out
        have HJ : Hid (j ≤ 99) := by unfold Hid; omega
        have hea : ea.size ≤ maxLen := by unfold maxLen; omega
        have hvn : vn ≤ maxLen := by unfold maxLen; omega
        clear W2 b2 hb hx2 hs
        by_cases q1 : N1 = 1
        · subst q1
          by_cases r1 : ed = 1
          · subst r1
            have c1 := ap_wb HW2.out HDD.out HJ.out hea hinp hvn
            clear hinp hea hvn
            go_wp2_with fail
            go_at_call 10
            refine c1.mono ?_
            rintro e w5 ⟨r, rfl, HH⟩
            clear c1
            have q5 := eq_other HH.out.1 HDD.out
            clear qo
            go_wp2
            go_round
            case rel => exact ⟨j + 1, by omega, by go_num, HH.out.1⟩
            case measure => simp [intOf]; omega
          have g1 : (ed == 1) = false := by simpa using r1
          by_cases r2 : ed = 2
          · subst r2
            have c1 := ap_wb HW2.out HDD.out HJ.out hea hinp hvn
            clear hinp hea hvn
            go_wp2_with fail
            go_at_call 10
            refine c1.mono ?_
            rintro e w5 ⟨r, rfl, HH⟩
            clear c1
            have q5 := eq_other HH.out.1 HDD.out
            clear qo
            go_wp2
            go_round
            case rel => exact ⟨j + 1, by omega, by go_num, HH.out.1⟩
            case measure => simp [intOf]; omega
          have g2 : (ed == 2) = false := by simpa using r2
          by_cases r5 : ed = 5
          · subst r5
            have c1 := ap_db HW2.out HDD.out HJ.out hea
            clear hinp hea hvn
            go_wp2_with fail
            go_at_call 11
            refine c1.mono ?_
            rintro e w5 ⟨r, rfl, HH⟩
            clear c1
            have q5 := eq_other HH.out.1 HDD.out
            clear qo
            go_wp2
            go_round
            case rel => exact ⟨j + 1, by omega, by go_num, HH.out.1⟩
            case measure => simp [intOf]; omega
          have g5 : (ed == 5) = false := by simpa using r5
          by_cases r9 : ed = 9
          · subst r9
            have c1 := ap_pb HW2.out HDD.out
            clear hinp hea hvn
            go_wp2_with fail
            go_at_call 12
            refine c1.mono ?_
            rintro e w5 ⟨rfl, HH⟩
            clear c1
            have q5 := eq_other HH.out.1 HDD.out
            clear qo
            go_wp2
            go_round
            case rel => exact ⟨j + 1, by omega, by go_num, HH.out.1⟩
            case measure => simp [intOf]; omega
          have g9 : (ed == 9) = false := by simpa using r9
          clear hinp hea hvn qo
          go_wp2
          go_round
          case rel => exact ⟨j + 1, by omega, by go_num, HW2.out.more (by omega)⟩
          case measure => simp [intOf]; omega
        · have q2 : (N1 == 1) = false := by simpa using q1
          by_cases r1 : ed = 1
          · subst r1
            have c1 := ap_wa HW2.out HDD.out HJ.out hea hinp hvn
            clear hinp hea hvn
            clear qo
            go_wp2_with fail
            go_at_call 10
            refine c1.mono ?_
            rintro e w5 ⟨r, rfl, HH⟩
            clear c1
            have q5 := eq_same w5 ⟨ma + 1, 0, none⟩
            obtain ⟨y0, y1, y2, y4⟩ := HX2.out w5 (HH.out.1.block _ HSZ.out (fun e => absurd (HLT.out _ (.inl e)) (Nat.lt_irrefl _)))
            have c2 := HH.out.2
            clear x0 x1 x2 x4
            go_wp2_with fail
            go_at_call 10
            refine c2.mono ?_
            rintro e w6 ⟨rfl, H6⟩
            clear c2 q5
            go_wp2
            go_round
            case rel => exact ⟨j + 1, by omega, by go_num, H6.out.1⟩
            case measure => simp [intOf]; omega
          have g1 : (ed == 1) = false := by simpa using r1
          by_cases r2 : ed = 2
          · subst r2
            have c1 := ap_wa HW2.out HDD.out HJ.out hea hinp hvn
            clear hinp hea hvn
            clear qo
            go_wp2_with fail
            go_at_call 10
            refine c1.mono ?_
            rintro e w5 ⟨r, rfl, HH⟩
            clear c1
            have q5 := eq_same w5 ⟨ma + 1, 0, none⟩
            obtain ⟨y0, y1, y2, y4⟩ := HX2.out w5 (HH.out.1.block _ HSZ.out (fun e => absurd (HLT.out _ (.inl e)) (Nat.lt_irrefl _)))
            have c2 := HH.out.2
            clear x0 x1 x2 x4
            go_wp2_with fail
            go_at_call 10
            refine c2.mono ?_
            rintro e w6 ⟨rfl, H6⟩
            clear c2 q5
            go_wp2
            go_round
            case rel => exact ⟨j + 1, by omega, by go_num, H6.out.1⟩
            case measure => simp [intOf]; omega
          have g2 : (ed == 2) = false := by simpa using r2
          by_cases r5 : ed = 5
          · subst r5
            have c1 := ap_da HW2.out HDD.out HJ.out hea
            clear hinp hea hvn
            clear qo
            go_wp2_with fail
            go_at_call 11
            refine c1.mono ?_
            rintro e w5 ⟨r, rfl, HH⟩
            clear c1
            have q5 := eq_same w5 ⟨ma + 1, 0, none⟩
            obtain ⟨y0, y1, y2, y4⟩ := HX2.out w5 (HH.out.1.block _ HSZ.out (fun e => absurd (HLT.out _ (.inl e)) (Nat.lt_irrefl _)))
            have c2 := HH.out.2
            clear x0 x1 x2 x4
            go_wp2_with fail
            go_at_call 11
            refine c2.mono ?_
            rintro e w6 ⟨rfl, H6⟩
            clear c2 q5
            go_wp2
            go_round
            case rel => exact ⟨j + 1, by omega, by go_num, H6.out.1⟩
            case measure => simp [intOf]; omega
          have g5 : (ed == 5) = false := by simpa using r5
          by_cases r9 : ed = 9
          · subst r9
            have c1 := ap_pa HW2.out HDD.out
            clear hinp hea hvn
            clear qo
            go_wp2_with fail
            go_at_call 12
            refine c1.mono ?_
            rintro e w5 ⟨rfl, HH⟩
            clear c1
            have q5 := eq_same w5 ⟨ma + 1, 0, none⟩
            obtain ⟨y0, y1, y2, y4⟩ := HX2.out w5 (HH.out.1.block _ HSZ.out (fun e => absurd (HLT.out _ (.inl e)) (Nat.lt_irrefl _)))
            have c2 := HH.out.2
            clear x0 x1 x2 x4
            go_wp2_with fail
            go_at_call 12
            refine c2.mono ?_
            rintro e w6 ⟨rfl, H6⟩
            clear c2 q5
            go_wp2
            go_round
            case rel => exact ⟨j + 1, by omega, by go_num, H6.out.1⟩
            case measure => simp [intOf]; omega
          have g9 : (ed == 9) = false := by simpa using r9
          clear hinp hea hvn qo
          go_wp2
          go_round
          case rel => exact ⟨j + 1, by omega, by go_num, HW2.out.more (by omega)⟩
          case measure => simp [intOf]; omega
      · have hjn : j = L.length := by omega
        subst hjn
        have ij : decide ((L.length : Int) < (L.length : Int)) = false := by simp
        obtain ⟨s, sb, df, dg, h1, h2, h3, h4, h5⟩ := HW.out
        have c1 := on_files h1
        have H1 : Hid (On w0 wr (ma + 1) ma (some k) s (zf df)) := h1
        have H3 : Hid (On w0 wr (mc + 1) mc (some g) s (zf dg)) := h3
        have HDG : Hid (dg ≤ df) := h4
        clear hlt hb h1 h2 h3 h4 h5 HW
        go_wp2_with fail
        go_at_call 14
        refine c1.mono ?_
        rintro e w5 ⟨v1, M1, rfl, HH⟩
        obtain ⟨ho1, hm1, hn1, hb1⟩ := HH.out
        obtain ⟨a1, c1', rfl, hs1⟩ := ho1.ss
        have c2 := on_files (H3.out.keep hb1)
        have HS1 : Hid (Ss w5 a1 M1 ∧ (M1.map fun y => y.s) = s.fs.map fun f => f.path) := ⟨hs1, hm1⟩
        have HN1 : Hid (On w0 w5 (ma + 1) ma (some k) s (zf df)) := hn1
        clear c1 HH ho1 hm1 hn1 hb1 hs1
        go_wp2_with fail
        go_at_call 14
        refine c2.mono ?_
        rintro e w6 ⟨v2, M2, rfl, HH⟩
        obtain ⟨ho2, hm2, hn2, hb2⟩ := HH.out
        obtain ⟨a2, c2', rfl, hs2⟩ := ho2.ss
        have hlen : ∀ M : List Sv, (M.map fun y => y.s) = (s.fs.map fun f => f.path) → M.length ≤ 1000000 := fun M e => by
          have := congrArg List.length e
          obtain ⟨V, F, x⟩ := hn2.px
          have h9 := x.wf.n
          simp at this
          omega
        have c3 := texts_any a1 c1' M1 a2 c2' M2 w6 (HS1.out.1.keep hb2) hs2 (hlen M1 HS1.out.2) (hlen M2 hm2)
        rw [decide_eq_true (HS1.out.2.trans hm2.symm)] at c3
        have HN1 : Hid (On w0 w6 (ma + 1) ma (some k) s (zf df)) := HN1.out.keep hb2
        have HN3 : Hid (On w0 w6 (mc + 1) mc (some g) s (zf dg)) := hn2
        clear c2 HH ho2 hm2 hn2 hb2 hs2 hlen
        go_wp2_with fail
        go_at_call 13
        refine c3.mono ?_
        rintro e w7 ⟨rfl, dn, rfl⟩
        have k1 := HN1.out.keep (bdn' _ dn)
        have k3 := HN3.out.keep (bdn' _ dn)
        have c4 := on_used k1
        have c5 := on_used k3
        have c6 := ops_any k ⟨0, (df : Int), false⟩ _ k1.fz
        have c7 := ops_any g ⟨0, (dg : Int), false⟩ _ k3.fz
        dsimp only at c6 c7
        obtain ⟨u, hu⟩ : ∃ u : Nat, used s.fs = u := ⟨_, rfl⟩
        rw [hu] at c4 c5
        have HB : Hid (Below w0.heap.size w0 (w6.drewN dn)) := k1.b
        have i9 : (dg : Int) ≤ (df : Int) := by have := HDG.out; omega
        have i8 : dg ≤ df := HDG.out
        clear c3 k1 k3 hu
        go_wp2_with fail
        go_at_call 15
        refine c4.mono ?_
        rintro e w8 ⟨rfl, rfl⟩
        clear c4
        go_wp2_with fail
        go_at_call 15
        refine c5.mono ?_
        rintro e w8 ⟨rfl, rfl⟩
        clear c5
        go_wp2_with fail
        go_at_call_of 16 (Value.pointer (some ⟨k, 0, none⟩))
        refine c6.mono ?_
        rintro e w8 ⟨rfl, rfl⟩
        clear c6
        go_wp2_with fail
        go_at_call 16
        refine c7.mono ?_
        rintro e w8 ⟨rfl, rfl⟩
        clear c7
        go_wp2
        go_ret
        exact ⟨rfl, HB.out⟩


set_option maxRecDepth 100000 in
theorem lifted (os : Os) (started : os.Started) (H : Type) (enc : TypeId × Value → H) :
    ReturnsInHanded {} Try.checked os 3 .any (Rows.diskApartSpec.pre6 enc Try.prog Try.f3 Rows.diskApartRow.domain false) (Rows.diskApartSpec.post enc Try.prog Try.f3 false true false false) := by
  refine returnsInHanded_of_change_sized (C := Try.checked) own started (by kernel_rfl) Try.func3
    (ChangeSpec.witness6 (enc := enc) (C := Try.checked) false ⟨#[], #[.slice none 0 0], []⟩ 8 (by kernel_rfl) (by kernel_rfl) (by kernel_rfl) (by kernel_rfl)) ?_
  intro W base args ds gs before hval0 hW hcnd hsz0 _
  have hval : ∀ (j : Nat) t v, Try.f3.params[j]? = some t → args[j]? = some v → Value.okWide Try.prog W .any base t v := hval0
  have hsz : (DataW.weightsEach Try.prog (Try.f3.params.toList ++ Rows.diskApartSpec.plain.varTypes Try.prog) (ds ++ gs)).all (· ≤ reachBytes) = true := hsz0
  have hW' := hW
  obtain ⟨p, q, hA0, hV, rfl, hfz, hnd⟩ := hW
  have hA : DataW.TrodAll enc Try.prog W 0 (fun _ => true) true Try.f3.params.toList args.toList ds p := hA0
  rw [Try.params3] at hA hval hsz
  obtain ⟨v0, vs0, d0, ds0, p0, q0, hargs, rfl, rfl, h0, r0⟩ := trodAll_cons hA
  obtain ⟨rfl, rfl, rfl⟩ := trodAll_nil r0
  obtain rfl : args = #[v0] := by cases args; simp_all
  obtain ⟨rfl, rfl⟩ := trodVars_none hV
  have k0 := h0
  have lt0 : ∀ x ∈ p0, x.block < W.heap.size := by obtain ⟨m, hm⟩ := k0; exact DataW.trod_lt m _ _ _ hm
  obtain ⟨a0, c0, L0, rfl, m0, z0, e0, g0⟩ := open_deeds (hval 0 22 v0 rfl rfl) h0
  clear hA0 hval0 hsz0
  refine (core a0 c0 L0 W m0 z0 e0 g0).mono fun e W' ⟨he, bel⟩ => ?_
  subst he
  exact ⟨_, rfl, _, _, _, [], _, [], hW', trodAll_mk1 (shut_bool Try.underlying4 _), (trodAll_cons_mk (Below.trod laidOut (by kernel_rfl) (of_decide_eq_true (by kernel_rfl)) k0 bel lt0) trodAll_mk0), rfl, bel.frame _, fun h => by cases h⟩

theorem over : Rows.diskApartRow.holds Try.pinned (OpenSpec.ofChange Rows.diskApartSpec) :=
  OpenClaim.holds_of_wide 3 Try.f3 rfl rfl rfl rfl rfl rfl rfl ⟨rfl, rfl, rfl, rfl, rfl⟩ rfl rfl rfl rfl rfl (by kernel_rfl) Try.func3 (by kernel_rfl)
    (of_decide_eq_true (by kernel_rfl)) (by unfold Func.isWrapper; first | (rw [if_pos (by decide +kernel)]; kernel_rfl) | (rw [if_neg (by decide +kernel)]; exact ⟨rfl, rfl⟩))
    (fun os started H enc _ => lifted os started H enc)

end diskApart

/-- The statement. -/
theorem diskApart_holds : Rows.DiskApartSaid := diskApart.over
#print axioms diskApart_holds
end Go.Proofs.Ythkhkijdehbbmab
