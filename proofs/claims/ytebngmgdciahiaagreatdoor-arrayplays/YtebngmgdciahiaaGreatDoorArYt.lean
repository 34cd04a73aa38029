/-
  An act of the program's array and of the document's, one behind the other.
-/
import Derived.Test.YtebngmgdciahiaaGreatDoorArYd
set_option maxRecDepth 100000
namespace Go.Proofs.YtebngmgdciahiaaGreatDoor
open Go.RowKit Crc
open _root_.Go.Proofs.YtebngmgdciahiaaGreatDoor.Nm _root_.Go.Proofs.YtebngmgdciahiaaGreatDoor.Dk
set_option linter.unusedVariables false
/-- Where a block is as it was told already. -/
theorem Ar.less' {w0 w : World} {R : Rg} {q g : Option Nat} {S T : Nat → St} {z z2 : Option Fz} {k : Nat} {o : Obj} (h : Ar w0 w (R.more k o) q g S T z z2) (hk : ∀ o', R.K k = some o' → o' = o) : Ar w0 w R q g S T z z2 := by
  obtain ⟨y, hy⟩ := h.ex
  have hne : ∀ k' o', R.K k' = some o' → (R.more k o).K k' = some o' := fun k' o' e => by
    by_cases hn : k' = k
    · subst hn
      rw [hk o' e]; exact more_at R k' o
    · show up R.K k (some o) k' = _
      rw [up_of _ _ hn]; exact e
  exact ⟨h.fz, h.zs, h.b, h.q0, h.g0, fun k' o' e => h.kp k' o' (hne k' o' e), y, hy.al, hy.sp, hy.vl, fun i hi k' o' e => hy.vk i hi k' o' (hne k' o' e)⟩
/-- The pair, with the fuse's count. -/
def Sy (w0 w : World) (R : Rg) (kq kg j : Nat) : Prop := ∃ S zz, Hid (Ar w0 w R (some kq) (some kg) S S (some zz) (some zz) ∧ ZN j (some zz))
theorem Sy.keep {w0 w w' : World} {R : Rg} {kq kg j : Nat} (h : Sy w0 w R kq kg j) (b : Below w.heap.size w w') : Sy w0 w' R kq kg j := by
  obtain ⟨S, zz, k⟩ := h
  exact ⟨S, zz, k.out.1.keep b, k.out.2⟩
theorem Sy.up {w0 w : World} {R : Rg} {kq kg j j' : Nat} (h : Sy w0 w R kq kg j) (l : j ≤ j') : Sy w0 w R kq kg j' := by
  obtain ⟨S, zz, k⟩ := h
  exact ⟨S, zz, k.out.1, zn_up k.out.2 l⟩
/-- Any state at all, where the cells of the pair are. -/
def Any (w0 w : World) (R : Rg) (kq kg : Nat) : Prop := ∃ S T z z2, Ar w0 w R (some kq) (some kg) S T z z2
theorem does_keep {w0 w : World} {R : Rg} {pp ab vb kq kg N gd gcap gv vcap j : Nat} {k : Nat} {o : Obj} (h : Sy w0 w R kq kg j) (P : Pd w0 R pp ab vb kq kg N gd gcap gv vcap) (hj : j ≤ 900000) (at_ dv n : Int) (x y : ByteArray) (va : Option Addr) (vn vc : Nat) (b : ByteArray) (hx : x.size ≤ maxLen) (hy : y.size ≤ 1000) (hi : Inp w0 va vn vc b) (hvn : vn ≤ maxLen) (hn0 : -9223372036854775808 ≤ n) (hn1 : n ≤ 9223372036854775807) (hN : N ≤ 1000)
    (hk : w.heap[k]? = some o) (ho : kO o) (hu : ∀ cur, o ≠ .cells cur 5 (0, 0)) :
    Calls Tryz.prog 17 #[.pointer (some ⟨pp, 0, none⟩), .agg #[.int .i64 at_, .int .i64 dv, .int .i64 n, .string x, .string y, .slice va vn vc]] w fun e w' => e = .returned (.bool true) ∧ Sy w0 w' R kq kg (j + 1) ∧ w'.heap[k]? = some o := by
  obtain ⟨S, zz, hs⟩ := h
  have hA := hs.out.1
  have hz := hs.out.2
  have hkk : ∀ o', R.K k = some o' → o' = o := fun o' e => by
    have := hA.kept e
    rw [hk] at this
    injection this with this
    exact this.symm
  have hM := hA.more hk ho hu
  have PM : Pd w0 (R.more k o) pp ab vb kq kg N gd gcap gv vcap := ⟨fun w q g S T z z2 h => P.c w q g S T z z2 (h.less' hkk), P.n⟩
  by_cases ha : at_ < 0 ∨ (N : Int) ≤ at_
  · refine (does_no hA P at_ dv n x y va vn vc ha).mono fun e w' r => ⟨r.1, ⟨S, zz, hA.keep r.2, hz.same⟩, (r.2.block k (Array.getElem?_eq_some_iff.1 hk).1).trans hk⟩
  · obtain ⟨i, rfl⟩ : ∃ i : Nat, at_ = (i : Int) := ⟨at_.toNat, by omega⟩
    refine (does_yes hM PM hz hj dv n x y va vn vc b (by omega) hx hy hi hvn hn0 hn1 hN).mono fun e w' r => ⟨r.1, ?_⟩
    obtain ⟨S', zz', r2⟩ := r.2
    exact ⟨⟨S', zz', r2.out.1.less' hkk, r2.out.2 j hz⟩, r2.out.1.kept (more_at R k o)⟩
theorem fmt_both {w0 w : World} {R : Rg} {kq kg ab vb k m bl j : Nat} (h : Sy w0 w R kq kg j) (t : HalfT w0) (a : Hs R ab k m bl) (v : Vs R vb k m bl) (hn : k + m ≤ 255) (hj : j ≤ 800000) (at_ : Int) :
    Calls Tryz.prog 8 #[.pointer (some ⟨ab, 0, none⟩), .int .i64 at_] w fun e w1 => ∃ r : Int, e = .returned (.int .i64 r) ∧ (Any w0 w1 R kq kg ∧ Kd w w1) ∧ Hid (Calls Tryz.prog 9 #[.pointer (some ⟨vb, 0, none⟩), .int .i64 at_] w1 fun e w2 => e = .returned (.int .i64 r) ∧ Sy w0 w2 R kq kg (j + 3) ∧ Kd w w2) := by
  obtain ⟨S, zz, hs⟩ := h
  have hA := hs.out.1
  have hz := hs.out.2
  by_cases ha : at_ < 0 ∨ ((k + m : Nat) : Int) ≤ at_
  · refine (format_no (hA.ax a) (hA.tab t) ha).mono ?_
    rintro e w1 ⟨rfl, b1⟩
    refine ⟨1, rfl, ⟨⟨_, _, _, _, hA.keep b1⟩, Kd.of b1⟩, ?_⟩
    refine (rformat_no ((hA.keep b1).vx v) ha).mono ?_
    rintro e w2 ⟨rfl, rfl⟩
    exact ⟨rfl, ⟨S, zz, hA.keep b1, zn_up hz (by omega)⟩, Kd.of b1⟩
  · obtain ⟨i, rfl⟩ : ∃ i : Nat, at_ = (i : Int) := ⟨at_.toNat, by omega⟩
    refine (format_any hA t a (i := i) (by omega) hz (by omega)).mono ?_
    rintro e w1 ⟨rfl, a1, k1⟩
    refine ⟨_, rfl, ⟨⟨_, _, _, _, a1⟩, k1⟩, ?_⟩
    refine (rformat_any a1 v a.N hn (i := i) (by omega) hz (by omega)).mono ?_
    rintro e w2 ⟨rfl, a2, k2⟩
    have hzn := savZ_zn hz (S i) pFmt (fmtB k m i)
    obtain ⟨y, hy, h0, h1⟩ := hzn
    rw [hy] at a2
    exact ⟨rfl, ⟨_, y, a2, y, rfl, h0, h1⟩, k1.trans k2⟩
theorem voice_both {w0 w : World} {R : Rg} {kq kg ab vb k m bl j : Nat} (h : Sy w0 w R kq kg j) (t : HalfT w0) (a : Hs R ab k m bl) (v : Vs R vb k m bl) (hn : k + m ≤ 255) (hj : j ≤ 800000) (at_ : Int) :
    Calls Tryz.prog 10 #[.pointer (some ⟨ab, 0, none⟩), .int .i64 at_] w fun e w1 => ∃ (r0 : Bool) (r : Int), e = .returned (.tuple #[.bool r0, .int .i64 r]) ∧ (Any w0 w1 R kq kg ∧ Kd w w1) ∧ Hid (∀ w1', Below w1.heap.size w1 w1' → Calls Tryz.prog 11 #[.pointer (some ⟨vb, 0, none⟩), .int .i64 at_] w1' fun e w2 => e = .returned (.tuple #[.bool r0, .int .i64 r]) ∧ Sy w0 w2 R kq kg (j + 1) ∧ Kd w w2) := by
  obtain ⟨S, zz, hs⟩ := h
  have hA := hs.out.1
  have hz := hs.out.2
  by_cases ha : at_ < 0 ∨ ((k + m : Nat) : Int) ≤ at_
  · refine (voice_no (hA.ax a) ha).mono ?_
    rintro e w1 ⟨rfl, rfl⟩
    refine ⟨false, 1, rfl, ⟨⟨_, _, _, _, hA⟩, Kd.refl _⟩, fun w1' b => ?_⟩
    refine (rvoice_no ((hA.keep b).vx v) ha).mono ?_
    rintro e w2 ⟨rfl, rfl⟩
    exact ⟨rfl, ⟨S, zz, hA.keep b, zn_up hz (by omega)⟩, Kd.of b⟩
  · obtain ⟨i, rfl⟩ : ∃ i : Nat, at_ = (i : Int) := ⟨at_.toNat, by omega⟩
    refine (voice_any hA t a (i := i) (by omega) (zn_zb hz (by omega))).mono ?_
    rintro e w1 ⟨rfl, a1, k1⟩
    refine ⟨_, _, rfl, ⟨⟨_, _, _, _, a1⟩, k1⟩, fun w1' b => ?_⟩
    refine (rvoice_any (a1.keep b) v a.N hn (i := i) (by omega) (zn_zb hz (by omega))).mono ?_
    rintro e w2 ⟨rfl, a2, k2⟩
    obtain ⟨y, hy, h0, h1⟩ := hz.tick
    rw [hy] at a2
    exact ⟨rfl, ⟨_, y, a2, y, rfl, h0, h1⟩, (k1.trans (Kd.of b)).trans k2⟩
theorem save_both {w0 w : World} {R : Rg} {kq kg ab vb k m bl j : Nat} (h : Sy w0 w R kq kg j) (a : Hs R ab k m bl) (v : Vs R vb k m bl) (hj : j ≤ 800000) (at_ : Int) {x : ByteArray} (hx : x.size ≤ maxLen) {va : Option Addr} {vn vc : Nat} {y : ByteArray} (hin : Inp w0 va vn vc y) (hvn : vn ≤ maxLen) :
    Calls Tryz.prog 12 #[.pointer (some ⟨ab, 0, none⟩), .int .i64 at_, .string x, .slice va vn vc] w fun e w1 => ∃ r : Int, e = .returned (.int .i64 r) ∧ (Any w0 w1 R kq kg ∧ Kd w w1) ∧ Hid (Calls Tryz.prog 13 #[.pointer (some ⟨vb, 0, none⟩), .int .i64 at_, .string x, .slice va vn vc] w1 fun e w2 => e = .returned (.int .i64 r) ∧ Sy w0 w2 R kq kg (j + 3) ∧ Kd w w2) := by
  obtain ⟨S, zz, hs⟩ := h
  have hA := hs.out.1
  have hz := hs.out.2
  by_cases ha : at_ < 0 ∨ ((k + m : Nat) : Int) ≤ at_
  · refine (save_no (hA.ax a) ha x _).mono ?_
    rintro e w1 ⟨rfl, rfl⟩
    refine ⟨1, rfl, ⟨⟨_, _, _, _, hA⟩, Kd.refl _⟩, ?_⟩
    refine (rsave_no (hA.vx v) ha x _).mono ?_
    rintro e w2 ⟨rfl, rfl⟩
    exact ⟨rfl, ⟨S, zz, hA, zn_up hz (by omega)⟩, Kd.refl _⟩
  · obtain ⟨i, rfl⟩ : ∃ i : Nat, at_ = (i : Int) := ⟨at_.toNat, by omega⟩
    refine (save_q hA a (i := i) (by omega) hz (by omega) hx (hin.keep hA.b) hvn).mono ?_
    rintro e w1 ⟨rfl, a1, k1, hq⟩
    refine ⟨_, rfl, ⟨⟨_, _, _, _, a1⟩, k1⟩, ?_⟩
    refine (rsave_any a1 v a.N (i := i) (by omega) hz (by omega) hx (hin.keep a1.b) hvn hq).mono ?_
    rintro e w2 ⟨rfl, a2, k2⟩
    obtain ⟨y', hy, h0, h1⟩ := savZ_zn hz (S i) x y
    rw [hy] at a2
    exact ⟨rfl, ⟨_, y', a2, y', rfl, h0, h1⟩, k1.trans k2⟩
theorem voices_both {w0 w : World} {R : Rg} {kq kg ab vb k m bl j : Nat} (h : Sy w0 w R kq kg j) (t : HalfT w0) (a : Hs R ab k m bl) (v : Vs R vb k m bl) (hn : k + m ≤ 24) (hj : j ≤ 800000) :
    Calls Tryz.prog 15 #[.pointer (some ⟨ab, 0, none⟩)] w fun e w1 => ∃ r, e = .returned r ∧ (Any w0 w1 R kq kg ∧ Kd w w1) ∧ Hid (Calls Tryz.prog 16 #[.pointer (some ⟨vb, 0, none⟩)] w1 fun e w2 => ∃ r2, e = .returned r2 ∧ (Sy w0 w2 R kq kg (j + 24) ∧ Kd w w2) ∧ Hid (Calls Tryz.prog 14 #[r, r2] w2 fun e w3 => e = .returned (.bool true) ∧ ∃ n, w3 = w2.drewN n)) := by
  obtain ⟨S, zz, hs⟩ := h
  have hA := hs.out.1
  have hz := hs.out.2
  refine (voices_any hA t a hz (by omega)).mono ?_
  rintro e w1 ⟨r, rfl, o1, a1, k1⟩
  refine ⟨r, rfl, ⟨⟨_, _, _, _, a1⟩, k1⟩, ?_⟩
  refine (rvoices_any a1 v a.N (by omega) hz (by omega)).mono ?_
  rintro e w2 ⟨r2, rfl, o2, a2, k2⟩
  have hl := vcs_len k m (some zz) S (k + m)
  refine ⟨r2, rfl, ⟨?_, k1.trans k2⟩, ints_same (o1.kd k2 kT_int) o2 (by omega)⟩
  obtain ⟨y, hy, h0, h1⟩ := vcs_zn (k := k) (m := m) (S := S) hz (k + m)
  rw [hy] at a2
  exact ⟨_, y, a2, y, rfl, h0, by omega⟩
end Go.Proofs.YtebngmgdciahiaaGreatDoor
