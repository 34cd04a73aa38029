/-
  Texts of earlier stages, one behind the other: SmW, SmX, SmY, SmZ, SmMg.
-/
import Derived.Test.YtebngmgdciahiaaGreatDoorG5
import Derived.Lib.SlBytesConst
import Derived.ChangeSame
import Derived.ChangeMaps5
import Derived.LaidEqlPtr
set_option maxRecDepth 100000
namespace Go.Proofs.YtebngmgdciahiaaGreatDoor
open Go.RowKit
open _root_.Go.Proofs.YtebngmgdciahiaaGreatDoor.Nm _root_.Go.Proofs.YtebngmgdciahiaaGreatDoor.Dk
attribute [local go_sem ↓] Go.wp_at_zero Go.wp_at_succ
set_option linter.unusedVariables false

/-- A disk that came behind w0. -/
structure On (w0 w : World) (p m : Nat) (q : Option Nat) (s : St) (z : Option Fz) : Prop where
  px : ∃ V F, PX w p m V q s F
  fz : FZ w q z
  b : Below w0.heap.size w0 w
  p0 : w0.heap.size ≤ p
  m0 : w0.heap.size ≤ m
  q0 : ∀ k, q = some k → w0.heap.size ≤ k
section
variable {w0 w : World} {p m : Nat} {q : Option Nat} {s : St} {z : Option Fz}
theorem On.go {w' : World} {s' : St} {z' : Option Fz} (h : On w0 w p m q s z) (px : ∃ V F, PX w' p m V q s' F) (fz : FZ w' q z') (u : Upd (Ms p m q) w w') : On w0 w' p m q s' z' :=
  ⟨px, fz, Upd.below h.b u (fun i k => by
    rcases k with k | k | k
    · rw [k]; exact h.p0
    · rw [k]; exact h.m0
    · exact h.q0 i k) h.b.size, h.p0, h.m0, h.q0⟩
theorem On.keep {w' : World} (h : On w0 w p m q s z) (k : Below w.heap.size w w') : On w0 w' p m q s z := by
  obtain ⟨V, F, x⟩ := h.px
  exact ⟨⟨V, F, x.keep k⟩, h.fz.keep k, h.b.trans (k.mono h.b.size), h.p0, h.m0, h.q0⟩
theorem pm_ms {k : Nat} (e : k = p ∨ k = m) : Ms p m q k := by
  rcases e with e | e
  · exact .inl e
  · exact .inr (.inl e)
theorem fz_pm (h : On w0 w p m q s z) {w' : World} (u : Upd (fun k => k = p ∨ k = m) w w') : FZ w' q z := by
  obtain ⟨V, F, x⟩ := h.px
  refine h.fz.upd u fun k e k2 => ?_
  rcases k2 with k2 | k2
  · exact (fz_off x h.fz e).1 k2.symm
  · exact (fz_off x h.fz e).2 k2.symm
theorem on_write (h : On w0 w p m q s z) (hb : Zb z) {x : ByteArray} (hx : x.size ≤ maxLen) {a : Option Addr} {n c : Nat} {b : ByteArray} (hi : Inp w a n c b) (hn : n ≤ maxLen) :
    Calls Tryz.prog 61 #[.pointer (some ⟨p, 0, none⟩), .string x, .slice a n c] w fun e w' => e = .returned (.int .i64 (wriZ z s x b).1) ∧ On w0 w' p m q (wriZ z s x b).2 (askZ z s [x]).2.1 ∧ Upd (Ms p m q) w w' := by
  obtain ⟨V, F, k⟩ := h.px
  refine (pwrite_any p m V q s F z x a n c b w k h.fz hb hx hi hn).mono ?_
  rintro e w' ⟨rfl, V', F', k1, k2, k3, _⟩
  exact ⟨rfl, h.go ⟨V', F', k1⟩ k2 k3, k3⟩
theorem on_sync (h : On w0 w p m q s z) (hb : Zb z) {x : ByteArray} (hx : x.size ≤ maxLen) :
    Calls Tryz.prog 62 #[.pointer (some ⟨p, 0, none⟩), .string x] w fun e w' => e = .returned (.int .i64 (synZ z s x).1) ∧ On w0 w' p m q (synZ z s x).2 (askZ z s [x]).2.1 ∧ Upd (Ms p m q) w w' := by
  obtain ⟨V, F, k⟩ := h.px
  refine (psync_any p m V q s F z x w k h.fz hb hx).mono ?_
  rintro e w' ⟨rfl, V', F', k1, k2, k3, _⟩
  exact ⟨rfl, h.go ⟨V', F', k1⟩ k2 k3, k3⟩
theorem on_rename (h : On w0 w p m q s z) (hb : Zb z) {x y : ByteArray} (hx : x.size ≤ maxLen) (hy : y.size ≤ maxLen) :
    Calls Tryz.prog 63 #[.pointer (some ⟨p, 0, none⟩), .string x, .string y] w fun e w' => e = .returned (.int .i64 (renZ z s x y).1) ∧ On w0 w' p m q (renZ z s x y).2 (askZ z s [x, y]).2.1 ∧ Upd (Ms p m q) w w' := by
  obtain ⟨V, F, k⟩ := h.px
  refine (prename_any p m V q s F z x y w k h.fz hb hx hy).mono ?_
  rintro e w' ⟨rfl, V', F', k1, k2, k3, _⟩
  exact ⟨rfl, h.go ⟨V', F', k1⟩ k2 k3, k3⟩
theorem on_delete (h : On w0 w p m q s z) (hb : Zb z) {x : ByteArray} (hx : x.size ≤ maxLen) :
    Calls Tryz.prog 64 #[.pointer (some ⟨p, 0, none⟩), .string x] w fun e w' => e = .returned (.int .i64 (delZ z s x).1) ∧ On w0 w' p m q (delZ z s x).2 (askZ z s [x]).2.1 ∧ Upd (Ms p m q) w w' := by
  obtain ⟨V, F, k⟩ := h.px
  refine (pdelete_any p m V q s F z x w k h.fz hb hx).mono ?_
  rintro e w' ⟨rfl, V', F', k1, k2, k3, _⟩
  exact ⟨rfl, h.go ⟨V', F', k1⟩ k2 k3, k3⟩
theorem on_read (h : On w0 w p m q s z) (hb : Zb z) {x : ByteArray} (hx : x.size ≤ maxLen) :
    Calls Tryz.prog 60 #[.pointer (some ⟨p, 0, none⟩), .string x] w fun e w' => ∃ a n c, e = .returned (.tuple #[.slice a n c, .int .i64 (readZ z s x).2]) ∧ Hid (Inp w' a n c (readZ z s x).1 ∧ On w0 w' p m q (askZ z s [x]).2.2 (askZ z s [x]).2.1 ∧ Upd (Ms p m q) w w') := by
  obtain ⟨V, F, k⟩ := h.px
  refine (pread_any p m V q s F z x w k h.fz hb hx).mono ?_
  rintro e w' ⟨⟨a, n, c⟩, rfl, k0, F', k1, k2, k3⟩
  have hp := k0 ⟨#[]⟩ false
  obtain ⟨f, h1, h2, h3⟩ := hp.row
  have hn : n = (readZ z s x).1.size := hp.n
  have k4 : Upd (Ms p m q) w w' := k3.mono fun k _ e => mk_ms e
  refine ⟨a, n, c, rfl, ⟨⟨f, h1, by rw [hn]; exact h2, by rw [hn]; exact h3⟩, hn, fun e => ?_⟩, h.go ⟨V, F', k1⟩ k2 k4, k4⟩
  have hz : c = 0 := hp.z e
  have hc : (readZ z s x).1.size ≤ c := hp.c
  exact ⟨by omega, hz⟩
theorem on_list (h : On w0 w p m q s z) (hb : Zb z) {x : ByteArray} (hx : x.size ≤ maxLen) :
    Calls Tryz.prog 66 #[.pointer (some ⟨p, 0, none⟩), .string x] w fun e w' => ∃ v M, e = .returned (.tuple #[v, .int .i64 (lisZ z s x).2]) ∧ Hid (SOwn w' w.heap.size v M ∧ (M.map fun y => y.s) = (lisZ z s x).1 ∧ On w0 w' p m q (askZ z s []).2.2 (askZ z s []).2.1 ∧ Upd (Ms p m q) w w') := by
  obtain ⟨V, F, k⟩ := h.px
  refine (plist_any p m V q s F z x w k h.fz hb hx).mono ?_
  rintro e w' ⟨v, M, rfl, k0, k5, F', k1, k2, k3⟩
  have k4 : Upd (Ms p m q) w w' := k3.mono fun k _ e => mk_ms e
  exact ⟨v, M, rfl, k0, k5, h.go ⟨V, F', k1⟩ k2 k4, k4⟩
theorem on_crash (h : On w0 w p m q s z) {k : Int} (hk0 : -9223372036854775808 ≤ k) (hk1 : k ≤ 9223372036854775807) :
    Calls Tryz.prog 24 #[.pointer (some ⟨p, 0, none⟩), .int .i64 k] w fun e w' => e = .returned (.tuple #[]) ∧ On w0 w' p m q { s with fs := crashS k s.fs } z ∧ Upd (Ms p m q) w w' := by
  obtain ⟨V, F, x⟩ := h.px
  refine (pcrash_any p m V q s F k w x hk0 hk1).mono ?_
  rintro e w' ⟨rfl, V', k1, k2, _⟩
  have k4 : Upd (Ms p m q) w w' := k2.mono fun k _ e => pm_ms e
  exact ⟨rfl, h.go ⟨V', F, k1⟩ (fz_pm h k2) k4, k4⟩
theorem on_files (h : On w0 w p m q s z) :
    Calls Tryz.prog 76 #[.pointer (some ⟨p, 0, none⟩)] w fun e w' => ∃ v M, e = .returned v ∧ Hid (SOwn w' w.heap.size v M ∧ (M.map fun y => y.s) = (s.fs.map fun f => f.path) ∧ On w0 w' p m q s z ∧ Below w.heap.size w w') := by
  obtain ⟨V, F, x⟩ := h.px
  refine (files_any p m V q s F w x).mono ?_
  rintro e w' ⟨v, M, rfl, k0, k5, k1⟩
  exact ⟨v, M, rfl, k0, k5, h.keep k1, k1⟩
theorem on_look (h : On w0 w p m q s z) {x : ByteArray} (hx : x.size ≤ maxLen) :
    Calls Tryz.prog 25 #[.pointer (some ⟨p, 0, none⟩), .string x] w fun e w' => ∃ a n c, e = .returned (.tuple #[.slice a n c, .bool (fileL x s.fs).sure, .bool (there x s.fs)]) ∧ Hid (Inp w' a n c (fileL x s.fs).b ∧ On w0 w' p m q s z ∧ Below w.heap.size w w') := by
  obtain ⟨V, F, k⟩ := h.px
  refine (look_any p m V q s F x w k hx).mono ?_
  rintro e w' ⟨⟨a, n, c⟩, rfl, k0, k1⟩
  have hp := k0 ⟨#[]⟩ false
  obtain ⟨f, h1, h2, h3⟩ := hp.row
  have hn : n = (fileL x s.fs).b.size := hp.n
  refine ⟨a, n, c, rfl, ⟨⟨f, h1, by rw [hn]; exact h2, by rw [hn]; exact h3⟩, hn, fun e => ?_⟩, h.keep k1, k1⟩
  have hz : c = 0 := hp.z e
  have hc : (fileL x s.fs).b.size ≤ c := hp.c
  exact ⟨by omega, hz⟩
theorem on_used (h : On w0 w p m q s z) : Calls Tryz.prog 77 #[.pointer (some ⟨p, 0, none⟩)] w fun e w' => e = .returned (.int .i64 ((used s.fs : Nat) : Int)) ∧ w' = w := by
  obtain ⟨V, F, x⟩ := h.px
  exact used_pany p m V q s F w x
theorem on_room (h : On w0 w p m q s z) : Calls Tryz.prog 78 #[.pointer (some ⟨p, 0, none⟩)] w fun e w' => e = .returned (.int .i64 (s.most - ((used s.fs : Nat) : Int))) ∧ ∃ n, w' = w.drewN n := by
  obtain ⟨V, F, x⟩ := h.px
  exact room_pany p m V q s F w x
theorem on_offline (h : On w0 w p m q s z) (b : Bool) :
    Calls Tryz.prog 69 #[.pointer (some ⟨p, 0, none⟩), .bool b] w fun e w' => e = .returned (.tuple #[]) ∧ On w0 w' p m q { s with off := b } z ∧ Upd (Ms p m q) w w' := by
  obtain ⟨V, F, x⟩ := h.px
  refine (offline_any p m V q s F b w x).mono ?_
  rintro e w' ⟨rfl, k1, k2⟩
  have k4 : Upd (Ms p m q) w w' := k2.mono fun k _ e => .inl e
  exact ⟨rfl, h.go ⟨V, F, k1⟩ (fz_pm h (k2.mono fun k _ e => .inl e)) k4, k4⟩
theorem on_fail (h : On w0 w p m q s z) {n : Int} (h0 : -9223372036854775808 ≤ n) (h1 : n ≤ 9223372036854775807) :
    Calls Tryz.prog 70 #[.pointer (some ⟨p, 0, none⟩), .int .i64 n] w fun e w' => e = .returned (.tuple #[]) ∧ On w0 w' p m q { s with bad := max n 0 } z ∧ Upd (Ms p m q) w w' := by
  obtain ⟨V, F, x⟩ := h.px
  refine (fail_any p m V q s F n w x h0 h1).mono ?_
  rintro e w' ⟨rfl, k1, k2⟩
  have k4 : Upd (Ms p m q) w w' := k2.mono fun k _ e => .inl e
  exact ⟨rfl, h.go ⟨V, n, k1⟩ (fz_pm h (k2.mono fun k _ e => .inl e)) k4, k4⟩
theorem on_wipe (h : On w0 w p m q s z) :
    Calls Tryz.prog 71 #[.pointer (some ⟨p, 0, none⟩)] w fun e w' => e = .returned (.tuple #[]) ∧ On w0 w' p m q { s with fs := [] } z ∧ Upd (Ms p m q) w w' := by
  obtain ⟨V, F, x⟩ := h.px
  refine (wipe_any p m V q s F w x).mono ?_
  rintro e w' ⟨rfl, k1, k2⟩
  have k4 : Upd (Ms p m q) w w' := k2.mono fun k _ e => pm_ms e
  exact ⟨rfl, h.go ⟨[], F, k1⟩ (fz_pm h k2) k4, k4⟩
end
theorem on_set {w0 w : World} {p m k : Nat} {s : St} {z : Fz} (h : On w0 w p m (some k) s (some z)) (n : Int) :
    Calls Tryz.prog 23 #[.pointer (some ⟨k, 0, none⟩), .int .i64 n] w fun e w' => e = .returned (.tuple #[]) ∧ On w0 w' p m (some k) s (some ⟨n, 0, false⟩) ∧ Upd (Ms p m (some k)) w w' := by
  obtain ⟨V, F, x⟩ := h.px
  refine (set_pany k z n w h.fz).mono ?_
  rintro e w' ⟨rfl, k1, k2⟩
  have k4 : Upd (Ms p m (some k)) w w' := k2.mono fun j _ e => .inr (.inr (by rw [e]))
  obtain ⟨h1, h2⟩ := fz_off x h.fz rfl
  obtain ⟨cs, hk⟩ := h.fz.type
  refine ⟨rfl, h.go ⟨V, F, x.turn k2 (fun j e cur T t => ?_) (fun e => h2 e) ?_ rfl x.wf x.F0 x.F1⟩ k1 k4, k4⟩
  · subst e
    rw [t] at hk
    injection hk with hk
    injection hk with _ hk _
    subst hk; decide
  · rw [k2.block p x.lt (fun e => h1 e)]; exact x.o
/-- A disk is made behind w0. -/
theorem on_new (w0 w : World) (b : Below w0.heap.size w0 w) (q : Option Nat) (z : Option Fz) (hz : FZ w q z) (hq : ∀ k, q = some k → w0.heap.size ≤ k) (mo : Int) (hm0 : -9223372036854775808 ≤ mo) (hm1 : mo ≤ 9223372036854775807) :
    Calls Tryz.prog 27 #[.int .i64 mo, .pointer (q.map fun k => ⟨k, 0, none⟩)] w fun e w' => e = .returned (.pointer (some ⟨w.heap.size + 1, 0, none⟩)) ∧ On w0 w' (w.heap.size + 1) w.heap.size q (newSt mo) z ∧ Below w.heap.size w w' := by
  refine (new_any mo q w hm0 hm1).mono ?_
  rintro e w' ⟨rfl, k1, k2⟩
  have := b.size
  exact ⟨rfl, ⟨⟨[], 0, k1⟩, hz.keep k2, b.trans (k2.mono this), by omega, this, hq⟩, k2⟩
/-- Bytes that were read, as a text. -/
theorem Inp.conv {w : World} {a : Option Addr} {n c : Nat} {b : ByteArray} (h : Inp w a n c b) : Sem.run Tryz.prog (convert 27 9 (.slice a n c)) w = .ok (.string b) w := by
  obtain ⟨f, h1, h2, h3⟩ := h.r
  have := conv_row (c := c) h2 (fun e => (h.z e).1)
  rw [h3] at this
  exact this
theorem Inp.none (w : World) : Inp w none 0 0 ⟨#[]⟩ := ⟨⟨fun _ => 0, fun _ => Nat.zero_lt_succ _, Row.zero _ _ (fun _ => Nat.zero_lt_succ _), rfl⟩, rfl, fun _ => ⟨rfl, rfl⟩⟩
end Go.Proofs.YtebngmgdciahiaaGreatDoor

namespace Go.Proofs.YtebngmgdciahiaaGreatDoor
open Go.RowKit
open _root_.Go.Proofs.YtebngmgdciahiaaGreatDoor.Nm _root_.Go.Proofs.YtebngmgdciahiaaGreatDoor.Dk
attribute [local go_sem ↓] Go.wp_at_zero Go.wp_at_succ
set_option linter.unusedVariables false

def tA : ByteArray := ⟨#[97]⟩
def tB : ByteArray := ⟨#[98]⟩
def xy : ByteArray := ⟨#[120, 121]⟩
def aS0 : St := ⟨[], 100, false, 0⟩
def aS1 : St := ⟨[⟨tA, xy, false⟩], 100, false, 0⟩
def aS2 : St := ⟨[⟨tA, xy, true⟩], 100, false, 0⟩
def aS3 : St := ⟨[⟨tB, xy, true⟩], 100, false, 0⟩
def aZ (n : Int) : Option Fz := some ⟨0, n, false⟩
theorem aw0 : newSt 100 = aS0 := rfl
theorem aw1 : wriZ (aZ 0) aS0 tA xy = (0, aS1) := by rfl
theorem aw1z : (askZ (aZ 0) aS0 [tA]).2.1 = aZ 1 := by rfl
theorem aw2 : synZ (aZ 1) aS1 tA = (0, aS2) := by rfl
theorem aw2z : (askZ (aZ 1) aS1 [tA]).2.1 = aZ 2 := by rfl
theorem aw3 : renZ (aZ 2) aS2 tA tB = (0, aS3) := by rfl
theorem aw3z : (askZ (aZ 2) aS2 [tA, tB]).2.1 = aZ 3 := by rfl
theorem aw4 : ({ aS3 with fs := crashS 0 aS3.fs } : St) = aS3 := by rfl
theorem aw5 : readZ (aZ 3) aS3 tB = (xy, 0) := by rfl
theorem aw5s : (askZ (aZ 3) aS3 [tB]).2.2 = aS3 := by rfl
theorem aw5z : (askZ (aZ 3) aS3 [tB]).2.1 = aZ 4 := by rfl
theorem awb (n : Int) (h : 0 ≤ n) (h1 : n ≤ 100) : Zb (aZ n) := fun y e => by
  injection e with e
  subst e
  exact ⟨h, by show n ≤ _; omega⟩
theorem lit2 (w : World) : Inp (w.alloc (.cells #[.int .u8 120, .int .u8 121] 5 (2, 3))) (some ⟨w.heap.size, 0, none⟩) 2 2 xy := by
  refine ⟨⟨fun i => if i = 0 then 120 else 121, fun i => ?_, ⟨fun i => ?_, fun _ => ⟨w.heap.size, 0, rfl, fun i hi => ?_⟩⟩, by rfl⟩, rfl, fun e => by cases e⟩
  · show (if i = 0 then 120 else 121) < 256
    split <;> omega
  · show (if i = 0 then 120 else 121) < 256
    split <;> omega
  · match i, hi with
    | 0, _ => exact cell_of_row _ w.heap.size 0 _ _ _ (heap_alloc_new _ _)
    | 1, _ => exact cell_of_row _ w.heap.size 1 _ _ _ (heap_alloc_new _ _)
end Go.Proofs.YtebngmgdciahiaaGreatDoor

namespace Go.Proofs.YtebngmgdciahiaaGreatDoor
open Go.RowKit Go.ChangeShapes Go.WideShapes
open _root_.Go.Proofs.YtebngmgdciahiaaGreatDoor.Nm _root_.Go.Proofs.YtebngmgdciahiaaGreatDoor.Dk
attribute [local go_sem ↓] Go.wp_at_zero Go.wp_at_succ
set_option linter.unusedVariables false

/-- A deed; x: what its row of bytes holds. -/
structure Dd where
  d : Int
  n : Int
  a : ByteArray
  b : ByteArray
  v : Option Addr × Nat × Nat
  x : ByteArray
  deriving Inhabited
/-- Its cells. -/
structure DAt (w : World) (b o : Nat) (e : Dd) : Prop where
  c0 : w.cell? ⟨b, o, none⟩ = some (.int .i64 e.d)
  c1 : w.cell? ⟨b, o + 1, none⟩ = some (.int .i64 e.n)
  c2 : w.cell? ⟨b, o + 2, none⟩ = some (.string e.a)
  c3 : w.cell? ⟨b, o + 3, none⟩ = some (.string e.b)
  c4 : w.cell? ⟨b, o + 4, none⟩ = some (.slice e.v.1 e.v.2.1 e.v.2.2)
  i : Inp w e.v.1 e.v.2.1 e.v.2.2 e.x
theorem DAt.keep {w w' : World} {b o : Nat} {e : Dd} (h : DAt w b o e) (hb : Below w.heap.size w w') : DAt w' b o e :=
  ⟨(hb.cell (p := ⟨b, o, none⟩) (block_lt_of_cell h.c0)).trans h.c0, (hb.cell (p := ⟨b, o + 1, none⟩) (block_lt_of_cell h.c1)).trans h.c1, (hb.cell (p := ⟨b, o + 2, none⟩) (block_lt_of_cell h.c2)).trans h.c2, (hb.cell (p := ⟨b, o + 3, none⟩) (block_lt_of_cell h.c3)).trans h.c3, (hb.cell (p := ⟨b, o + 4, none⟩) (block_lt_of_cell h.c4)).trans h.c4, h.i.keep hb⟩
/-- A slice that begins at a holds in w the row L. -/
def Ds (w : World) (a : Option Addr) (L : List Dd) : Prop := 0 < L.length → ∃ b o, a = some ⟨b, o, none⟩ ∧ ∀ i, i < L.length → DAt w b (o + i * 5) L[i]!
theorem Ds.keep {w w' : World} {a : Option Addr} {L : List Dd} (h : Ds w a L) (hb : Below w.heap.size w w') : Ds w' a L := fun hn => by
  obtain ⟨b, o, e, hc⟩ := h hn
  exact ⟨b, o, e, fun i hi => (hc i hi).keep hb⟩
/-- What a deed's numbers are. -/
structure Dok (e : Dd) : Prop where
  d0 : -9223372036854775808 ≤ e.d
  d1 : e.d ≤ 9223372036854775807
  n0 : -9223372036854775808 ≤ e.n
  n1 : e.n ≤ 9223372036854775807
  a : e.a.size ≤ maxLen
  b : e.b.size ≤ maxLen
  v : e.v.2.1 ≤ maxLen
theorem cellsDt : Tryz.prog.cellsOf 29 = 5 := by kernel_rfl
theorem cells_i : Tryz.prog.cellsOf 3 = 1 := by kernel_rfl
theorem cells_s : Tryz.prog.cellsOf 9 = 1 := by kernel_rfl
theorem cells_y : Tryz.prog.cellsOf 27 = 1 := by kernel_rfl
theorem bounds_i64 {n : Int} (h : (Lit.int .i64 n).wf = true) : -9223372036854775808 ≤ n ∧ n ≤ 9223372036854775807 := by
  simpa [Lit.wf, IntKind.min, IntKind.max, IntKind.signed, IntKind.bits] using h
/-- Five cells that are read as a deed. -/
theorem open_dcells {H : Type} {enc : TypeId × Value → H} {W : World} {base fuel : Nat} {held : Bool} {l : List Value} {x : DataW H × List MemPlace} (h : DataW.trod enc Tryz.prog W base (fun _ => true) held fuel 29 l = some x) :
    ∃ e : Dd, Dok e ∧ Inp W e.v.1 e.v.2.1 e.v.2.2 e.x ∧ l = [.int .i64 e.d, .int .i64 e.n, .string e.a, .string e.b, .slice e.v.1 e.v.2.1 e.v.2.2] := by
  obtain ⟨xs, n, _, _, hl, hlen, hel⟩ := DataW.trod_struct Tryz.underlying29 h
  rw [cellsDt] at hl
  match l, hl with
  | [e0, e1, e2, e3, e4], _ =>
    match xs, hlen with
    | [x0, x1, x2, x3, x4], _ =>
      have t0 := hel 0 _ rfl
      have t1 := hel 1 _ rfl
      have t2 := hel 2 _ rfl
      have t3 := hel 3 _ rfl
      have t4 := hel 4 _ rfl
      simp [cells_i, cells_s, cells_y] at t0 t1 t2 t3 t4
      obtain ⟨a0, ea0, _, wa0⟩ := DataW.trod_int Tryz.underlying3 t0
      obtain ⟨a1, ea1, _, wa1⟩ := DataW.trod_int Tryz.underlying3 t1
      obtain ⟨a2, ea2, _, wa2⟩ := DataW.trod_string Tryz.underlying9 t2
      obtain ⟨a3, ea3, _, wa3⟩ := DataW.trod_string Tryz.underlying9 t3
      obtain ⟨ba, bn, bc, e4e⟩ : ∃ ba bn bc, e4 = .slice ba bn bc := by
        rcases DataW.trod_slice Tryz.underlying27 t4 with ⟨e, _⟩ | ⟨a, len, cap, _, _, _, _, e, _⟩
        · exact ⟨_, _, _, by simpa using e⟩
        · exact ⟨_, _, _, by simpa using e⟩
      subst e4e
      obtain ⟨f, hr, hz, hm, hc⟩ := open_row (cap := bc) ⟨_, t4⟩
      simp at ea0 ea1 ea2 ea3
      subst ea0 ea1 ea2 ea3
      obtain ⟨b0, b1⟩ := bounds_i64 wa0
      obtain ⟨b2, b3⟩ := bounds_i64 wa1
      have hsz : (str f bn).size = bn := by
        have := congrArg List.length (str_tx f bn)
        rw [tx_length] at this
        simpa using this
      exact ⟨⟨a0, a1, a2, a3, (ba, bn, bc), str f bn⟩, ⟨b0, b1, b2, b3, wa2, wa3, hm⟩, ⟨⟨f, hr.lt, hr, rfl⟩, hsz.symm, hz⟩, rfl⟩
theorem cells5' {W : World} {a : Addr} {l : List Value} (h : W.cells? 0 a 5 = some l) : ∃ v0 v1 v2 v3 v4, l = [v0, v1, v2, v3, v4] ∧ W.cell? (a.add 0) = some v0 ∧ W.cell? (a.add 1) = some v1 ∧ W.cell? (a.add 2) = some v2 ∧ W.cell? (a.add 3) = some v3 ∧ W.cell? (a.add 4) = some v4 := by
  unfold World.cells? at h
  rw [if_pos (Nat.zero_le _)] at h
  have e : List.range 5 = [0, 1, 2, 3, 4] := rfl
  rw [e] at h
  simp only [List.mapM_cons, List.mapM_nil] at h
  cases h0 : W.cell? (a.add 0) with
  | none => simp [h0] at h
  | some v0 =>
    cases h1 : W.cell? (a.add 1) with
    | none => simp [h0, h1] at h
    | some v1 =>
      cases h2 : W.cell? (a.add 2) with
      | none => simp [h0, h1, h2] at h
      | some v2 =>
        cases h3 : W.cell? (a.add 3) with
        | none => simp [h0, h1, h2, h3] at h
        | some v3 =>
          cases h4 : W.cell? (a.add 4) with
          | none => simp [h0, h1, h2, h3, h4] at h
          | some v4 =>
            simp [h0, h1, h2, h3, h4] at h
            exact ⟨v0, v1, v2, v3, v4, h.symm, rfl, rfl, rfl, rfl, rfl⟩
theorem open_deeds {H : Type} {enc : TypeId × Value → H} {W : World} {r : Reach} {b0 : Nat} {held : Bool} {v : Value} {d : DataW H} {p : List MemPlace} (hv : Value.okWide Tryz.prog W r b0 26 v) (h : DataW.Trod enc Tryz.prog W 0 (fun _ => true) held 26 v d p) :
    ∃ a c L, v = .slice a L.length c ∧ Ds W a L ∧ (a = none → L.length = 0 ∧ c = 0) ∧ L.length ≤ maxLen ∧ ∀ i, i < L.length → Dok L[i]! := by
  obtain ⟨a0, n0, c0, rfl⟩ := okWide_slice Tryz.underlying26 hv
  obtain ⟨fuel, hf⟩ := h
  rcases DataW.trod_slice Tryz.underlying26 hf with ⟨e, _⟩ | ⟨a, len, cap, elems, rest, n, _, e, _, _, hlc, hcm, hel, hcell, _⟩
  · simp [Value.cells] at e
    obtain ⟨rfl, rfl, rfl⟩ := e
    exact ⟨none, 0, [], rfl, fun k => absurd k (Nat.lt_irrefl _), fun _ => ⟨rfl, rfl⟩, by unfold maxLen; exact Nat.zero_le _, fun i hi => absurd hi (Nat.not_lt_zero _)⟩
  · simp [Value.cells] at e
    obtain ⟨rfl, rfl, rfl⟩ := e
    rw [cellsDt] at hcell
    have hx : ∀ i, i < n0 → ∃ u : Dd, Dok u ∧ Inp W u.v.1 u.v.2.1 u.v.2.2 u.x ∧ W.cell? ((a.add (i * 5)).add 0) = some (.int .i64 u.d) ∧ W.cell? ((a.add (i * 5)).add 1) = some (.int .i64 u.n) ∧ W.cell? ((a.add (i * 5)).add 2) = some (.string u.a) ∧ W.cell? ((a.add (i * 5)).add 3) = some (.string u.b) ∧ W.cell? ((a.add (i * 5)).add 4) = some (.slice u.v.1 u.v.2.1 u.v.2.2) := fun i hi => by
      have hi' := hcell i hi
      rw [List.getElem?_eq_getElem (by omega)] at hi'
      obtain ⟨l, hl, ht⟩ := Option.bind_eq_some_iff.1 hi'
      obtain ⟨u, hu, hu2, el⟩ := open_dcells ht
      obtain ⟨v0, v1, v2, v3, v4, e4, k0, k1, k2, k3, k4⟩ := cells5' hl
      rw [el] at e4
      simp at e4
      obtain ⟨rfl, rfl, rfl, rfl, rfl⟩ := e4
      exact ⟨u, hu, hu2, k0, k1, k2, k3, k4⟩
    obtain ⟨L, hL⟩ : ∃ L : List Dd, L = (List.range n0).map (fun i => if h : i < n0 then Classical.choose (hx i h) else default) := ⟨_, rfl⟩
    have hlen : L.length = n0 := by rw [hL]; simp
    have hat : ∀ i (hi : i < n0), L[i]! = Classical.choose (hx i hi) := fun i hi => by
      rw [getElem!_pos L i (by omega)]
      simp only [hL, List.getElem_map, List.getElem_range]
      rw [dif_pos hi]
    refine ⟨some a, c0, L, by rw [hlen], fun hp => ?_, (fun e => by cases e), by omega, fun i hi => ?_⟩
    · obtain ⟨b, o, spot⟩ := a
      have hspot : spot = none := by
        have := (Classical.choose_spec (hx 0 (by omega))).2.2.1
        simpa [Addr.add] using World.cell?_spot this
      subst hspot
      refine ⟨b, o, rfl, fun i hi => ?_⟩
      have hs := (Classical.choose_spec (hx i (by omega))).2
      rw [hat i (by omega)]
      exact ⟨(congrArg W.cell? (by rw [add_plain, add_plain, Nat.add_zero])).trans hs.2.1, (congrArg W.cell? (by rw [add_plain, add_plain])).trans hs.2.2.1, (congrArg W.cell? (by rw [add_plain, add_plain])).trans hs.2.2.2.1, (congrArg W.cell? (by rw [add_plain, add_plain])).trans hs.2.2.2.2.1, (congrArg W.cell? (by rw [add_plain, add_plain])).trans hs.2.2.2.2.2, hs.1⟩
    · rw [hat i (by omega)]; exact (Classical.choose_spec (hx i (by omega))).1
/-- A deed is small. -/
def smallD (e : Dd) : Bool := decide (e.a.size ≤ 1000) && decide (e.b.size ≤ 1000) && decide (e.v.2.1 ≤ 5000)
def roomB (L : List Dd) (m : Nat) : Bool := decide (L.length ≤ m) && L.all smallD
theorem roomB_out {L : List Dd} {m : Nat} (h : roomB L m = true) : L.length ≤ m ∧ ∀ i, i < L.length → L[i]!.a.size ≤ 1000 ∧ L[i]!.b.size ≤ 1000 ∧ L[i]!.v.2.1 ≤ 5000 := by
  unfold roomB at h
  rw [Bool.and_eq_true] at h
  refine ⟨of_decide_eq_true h.1, fun i hi => ?_⟩
  have := List.all_eq_true.1 h.2 L[i]! (by rw [getElem!_pos L i hi]; exact List.getElem_mem hi)
  unfold smallD at this
  simp only [Bool.and_eq_true, decide_eq_true_eq] at this
  exact ⟨this.1.1, this.1.2, this.2⟩
theorem roomB_no {L : List Dd} {m i : Nat} (hi : i < L.length) (h : smallD L[i]! = false) : roomB L m = false := by
  unfold roomB
  have : L.all smallD = false := by
    rw [List.all_eq_false]
    exact ⟨L[i]!, by rw [getElem!_pos L i hi]; exact List.getElem_mem hi, by rw [h]; decide⟩
  rw [this, Bool.and_false]
theorem roomB_yes {L : List Dd} {m : Nat} (hm : L.length ≤ m) (h : ∀ i, i < L.length → smallD L[i]! = true) : roomB L m = true := by
  unfold roomB
  rw [decide_eq_true hm, Bool.true_and, List.all_eq_true]
  intro x hx
  obtain ⟨i, hi, e⟩ := List.getElem_of_mem hx
  have := h i hi
  rw [getElem!_pos L i hi, e] at this
  exact this
set_option maxHeartbeats 4000000 in
theorem room_any (a : Option Addr) (c : Nat) (L : List Dd) (m : Nat) (w : World) (h : Ds w a L) (hl : L.length ≤ maxLen) :
    Calls Tryz.prog 7 #[.slice a L.length c, .int .i64 (m : Int)] w fun e w' => e = .returned (.bool (roomB L m)) ∧ w' = w := by
  unfold maxLen at hl
  have HT : Hid (∀ b, roomB L m = b → (Ending.returned (.bool b) = Ending.returned (.bool (roomB L m)) ∧ True)) := fun b e => ⟨by rw [e], trivial⟩
  obtain ⟨R, hR⟩ : ∃ R, roomB L m = R := ⟨_, rfl⟩
  have HR : Hid (roomB L m = R) := hR
  rw [hR]
  clear HT hR
  by_cases h1 : m < L.length
  · have i1 : (m : Int) < (L.length : Int) := by omega
    have HE : Hid (R = false) := by
      unfold Hid
      rw [← HR.out]
      unfold roomB
      rw [decide_eq_false (by omega), Bool.false_and]
    go_enter Tryz.func7, Tryz.ntmps7
    go_wp2
    go_ret
    exact ⟨by rw [HE.out] <;> rfl, rfl⟩
  · have i1 : decide ((m : Int) < (L.length : Int)) = false := decide_eq_false (by omega)
    have HM : Hid (L.length ≤ m) := by unfold Hid; omega
    have HD : Hid (Ds w a L) := h
    clear h
    go_enter Tryz.func7, Tryz.ntmps7
    go_wp2_with fail
    go_loopw [5] (fun i wr => ∃ j : Nat, j ≤ L.length ∧ i = .int .i64 j ∧ (∀ k, k < j → smallD L[k]! = true) ∧ w = wr) (fun i _ => L.length - (intOf i).toNat)
    case atStart => exact ⟨0, by omega, rfl, fun k hk => absurd hk (by omega), rfl⟩
    case round =>
      obtain ⟨j, hj, rfl, hk, rfl⟩ := hrel
      have HK : Hid (∀ k, k < j → smallD L[k]! = true) := hk
      clear hk i1 h1
      by_cases hlt : j < L.length
      · have ij : (j : Int) < (L.length : Int) := by omega
        obtain ⟨bb, oo, rfl, hA⟩ := HD.out (by omega)
        have t2 := (hA j hlt).c2
        have t3 := (hA j hlt).c3
        have t4 := (hA j hlt).c4
        have HNO : Hid (smallD L[j]! = false → R = false) := fun e => by rw [← HR.out]; exact roomB_no hlt e
        obtain ⟨e, he⟩ : ∃ e, L[j]! = e := ⟨_, rfl⟩
        rw [he] at t2 t3 t4 HNO
        have HEE : Hid (L[j]! = e) := he
        obtain ⟨ed, en, ea, eb, ⟨va, vn, vc⟩, ex⟩ := e
        dsimp only at t2 t3 t4
        have HS : Hid (smallD ⟨ed, en, ea, eb, (va, vn, vc), ex⟩ = (decide (ea.size ≤ 1000) && decide (eb.size ≤ 1000) && decide (vn ≤ 5000))) := rfl
        clear hA he
        by_cases q1 : 1000 < ea.size
        · have g1 : (1000 : Int) < (ea.size : Int) := by omega
          have HE : Hid (R = false) := HNO.out (by rw [HS.out, decide_eq_false (by omega)]; rfl)
          go_wp2
          go_ret
          exact ⟨by rw [HE.out] <;> rfl, by trivial⟩
        · have g1 : decide ((1000 : Int) < (ea.size : Int)) = false := decide_eq_false (by omega)
          by_cases q2 : 1000 < eb.size
          · have g2 : (1000 : Int) < (eb.size : Int) := by omega
            have HE : Hid (R = false) := HNO.out (by rw [HS.out, decide_eq_false (show ¬ eb.size ≤ 1000 by omega), Bool.and_false]; rfl)
            go_wp2
            go_ret
            exact ⟨by rw [HE.out] <;> rfl, by trivial⟩
          · have g2 : decide ((1000 : Int) < (eb.size : Int)) = false := decide_eq_false (by omega)
            by_cases q3 : 5000 < vn
            · have g3 : (5000 : Int) < (vn : Int) := by omega
              have HE : Hid (R = false) := HNO.out (by rw [HS.out, decide_eq_false (show ¬ vn ≤ 5000 by omega), Bool.and_false])
              go_wp2
              go_ret
              exact ⟨by rw [HE.out] <;> rfl, by trivial⟩
            · have g3 : decide ((5000 : Int) < (vn : Int)) = false := decide_eq_false (by omega)
              have HY : Hid (smallD ⟨ed, en, ea, eb, (va, vn, vc), ex⟩ = true) := by
                unfold Hid
                rw [HS.out, decide_eq_true (show ea.size ≤ 1000 by omega), decide_eq_true (show eb.size ≤ 1000 by omega), decide_eq_true (show vn ≤ 5000 by omega)]; rfl
              clear q1 q2 q3
              go_wp2
              go_round
              case rel => exact ⟨j + 1, by omega, by go_num, fun k hk => (by
                by_cases e : k < j
                · exact HK.out k e
                · have : k = j := by omega
                  subst this
                  rw [HEE.out]; exact HY.out), by trivial⟩
              case measure => simp [intOf]; omega
      · have hjn : j = L.length := by omega
        subst hjn
        have ij : decide ((L.length : Int) < (L.length : Int)) = false := by simp
        have HE : Hid (R = true) := by unfold Hid; rw [← HR.out]; exact roomB_yes HM.out HK.out
        clear hlt
        go_wp2
        go_ret
        exact ⟨by rw [HE.out] <;> rfl, by trivial⟩
end Go.Proofs.YtebngmgdciahiaaGreatDoor

namespace Go.Proofs.YtebngmgdciahiaaGreatDoor
open Go.RowKit
open _root_.Go.Proofs.YtebngmgdciahiaaGreatDoor.Nm _root_.Go.Proofs.YtebngmgdciahiaaGreatDoor.Dk
attribute [local go_sem ↓] Go.wp_at_zero Go.wp_at_succ
set_option linter.unusedVariables false

/-- What is done on one disk leaves the other. -/
theorem On.other {w0 w w' : World} {p1 m1 p2 m2 : Nat} {q q2 : Option Nat} {s1 s2 : St} {z z2 z' : Option Fz} (h1 : On w0 w p1 m1 q s1 z) (h2 : On w0 w p2 m2 q2 s2 z2) (hp : p1 ≠ p2) (hm : m1 ≠ m2) (u : Upd (Ms p1 m1 q) w w') (fz : FZ w' q2 z') : On w0 w' p2 m2 q2 s2 z' := by
  obtain ⟨V1, F1, x1⟩ := h1.px
  obtain ⟨V2, F2, x2⟩ := h2.px
  refine ⟨⟨V2, F2, ?_⟩, fz, Upd.below h2.b u (fun i k => ?_) h2.b.size, h2.p0, h2.m0, h2.q0⟩
  · refine x2.turn u (fun k e cur T t => ?_) (fun e => ?_) ?_ rfl x2.wf x2.F0 x2.F1
    · rcases e with e | e | e
      · subst e
        rw [x1.o] at t
        injection t with t
        injection t with _ t _
        subst t; decide
      · subst e
        obtain ⟨es, clock, hb, _⟩ := x1.m
        rw [hb] at t
        injection t with t
        cases t
      · subst e
        obtain ⟨cs, hk⟩ := h1.fz.type
        rw [t] at hk
        injection hk with hk
        injection hk with _ hk _
        subst hk; decide
    · rcases e with e | e | e
      · rw [e] at x2
        obtain ⟨es, clock, hb, _⟩ := x2.m
        rw [x1.o] at hb
        injection hb with hb
        cases hb
      · exact hm e.symm
      · subst e
        obtain ⟨cs, hk⟩ := h1.fz.type
        obtain ⟨es, clock, hb, _⟩ := x2.m
        rw [hk] at hb
        injection hb with hb
        cases hb
    · rw [u.block p2 x2.lt (fun e => ?_)]
      · exact x2.o
      · rcases e with e | e | e
        · exact hp e.symm
        · subst e
          obtain ⟨es, clock, hb, _⟩ := x1.m
          rw [x2.o] at hb
          injection hb with hb
          cases hb
        · subst e
          obtain ⟨cs, hk⟩ := h1.fz.type
          rw [x2.o] at hk
          injection hk with hk
          injection hk with _ hk _
          cases hk
  · rcases k with k | k | k
    · rw [k]; exact h1.p0
    · rw [k]; exact h1.m0
    · exact h1.q0 i k
theorem askD_go {s : St} {ps : List ByteArray} (h0 : s.off = false) (h1 : s.bad = 0) (h2 : ps.all okPath = true) : askD s ps = (0, s) := askD_ok h0 (by omega) h2
/-- A write that goes in. -/
theorem wri_ok {z : Option Fz} {s : St} {x b : ByteArray} (hz : blB z = false) (h0 : s.off = false) (h1 : s.bad = 0) (h2 : okPath x = true) (hb : b.size ≤ 262144) (hf : full s x b = false) : wriZ z s x b = (0, { s with fs := Dk.put s.fs ⟨x, b, false⟩ }) := by
  obtain ⟨e1, e2, _⟩ := ask_parts z s [x] hz
  have ha := askD_go (ps := [x]) h0 h1 (by simp [h2])
  rw [ha] at e1 e2
  unfold wriZ
  rw [e1, e2, if_neg (fun k => k rfl), if_neg (by omega), if_neg (by rw [hf]; decide)]
theorem wri_blown {z : Option Fz} {s : St} {x b : ByteArray} (hz : blB z = true) : wriZ z s x b = (20, s) := by
  obtain ⟨e1, e2, _⟩ := ask_blown s [x] hz
  unfold wriZ
  rw [e1, e2, if_pos (by decide)]
theorem ask_z {z : Option Fz} (s : St) (ps : List ByteArray) : (askZ z s ps).2.1 = tickO z := by
  cases h : blB z with
  | true => exact (ask_blown s ps h).2.2
  | false => exact (ask_parts z s ps h).2.2
theorem toList_ne {x y : ByteArray} (h : x ≠ y) : (x.toList == y.toList) = false ∧ (x.toList != y.toList) = true := by
  have : x.toList ≠ y.toList := fun e => h (by
    rw [ByteArray.toList_eq, ByteArray.toList_eq] at e
    exact tx_inj e)
  exact ⟨by simpa using this, by simpa using this⟩
set_option maxHeartbeats 4000000 in
/-- Texts: are two rows? -/
theorem texts_any (a1 : Option Addr) (c1 : Nat) (M1 : List Sv) (a2 : Option Addr) (c2 : Nat) (M2 : List Sv) (w : World) (h1 : Ss w a1 M1) (h2 : Ss w a2 M2) (l1 : M1.length ≤ 1000000) (l2 : M2.length ≤ 1000000) :
    Calls Tryz.prog 68 #[.slice a1 M1.length c1, .slice a2 M2.length c2] w fun e w' => e = .returned (.bool (decide ((M1.map fun y => y.s) = (M2.map fun y => y.s)))) ∧ ∃ n, w' = w.drewN n := by
  obtain ⟨R, hR⟩ : ∃ R, decide ((M1.map fun y => y.s) = (M2.map fun y => y.s)) = R := ⟨_, rfl⟩
  rw [hR]
  have HR : Hid (decide ((M1.map fun y => y.s) = (M2.map fun y => y.s)) = R) := hR
  have HNO : Hid ((M1.map fun y => y.s) ≠ (M2.map fun y => y.s) → R = false) := fun e => by rw [← HR.out]; exact decide_eq_false e
  have HYES : Hid ((M1.map fun y => y.s) = (M2.map fun y => y.s) → R = true) := fun e => by rw [← HR.out]; exact decide_eq_true e
  clear hR
  by_cases hl : M1.length = M2.length
  · have HL : Hid (M1.length = M2.length) := hl
    have H1 : Hid (Ss w a1 M1) := h1
    have H2 : Hid (Ss w a2 M2) := h2
    obtain ⟨n, hn⟩ : ∃ n, M1.length = n := ⟨_, rfl⟩
    have hn2 : M2.length = n := by omega
    have HN : Hid (M1.length = n ∧ M2.length = n) := ⟨hn, hn2⟩
    rw [hn, hn2]
    rw [hn] at l1
    clear h1 h2 hl hn hn2 l2
    go_enter Tryz.func68, Tryz.ntmps68
    go_wp2_with fail
    go_loopw [5] (fun i wr => ∃ j : Nat, j ≤ n ∧ i = .int .i64 j ∧ (∀ k, k < j → M1[k]!.s = M2[k]!.s) ∧ ∃ nd, wr = w.drewN nd) (fun i _ => n - (intOf i).toNat)
    case atStart => exact ⟨0, by omega, rfl, fun k hk => absurd hk (by omega), 0, rfl⟩
    case round =>
      obtain ⟨j, hj, rfl, hk, nd, hwr⟩ := hrel
      have HWR : Hid (wr = w.drewN nd) := hwr
      have H1' : Hid (Ss wr a1 M1) := by unfold Hid; rw [hwr]; exact H1.out.keep (bdn' _ _)
      have H2' : Hid (Ss wr a2 M2) := by unfold Hid; rw [hwr]; exact H2.out.keep (bdn' _ _)
      clear hwr
      have HK : Hid (∀ k, k < j → M1[k]!.s = M2[k]!.s) := hk
      clear hk
      by_cases hlt : j < n
      · have ij : (j : Int) < (n : Int) := by omega
        obtain ⟨b1, o1, rfl, hA1⟩ := H1'.out (by have := HN.out.1; omega)
        obtain ⟨b2, o2, rfl, hA2⟩ := H2'.out (by have := HN.out.2; omega)
        have t1 := (hA1 j (by have := HN.out.1; omega)).c0
        have t2 := (hA2 j (by have := HN.out.2; omega)).c0
        rw [Nat.mul_one] at t1 t2
        have HNE : Hid (M1[j]!.s ≠ M2[j]!.s → R = false) := fun e => HNO.out fun q => e (by
          have := congrArg (fun l => l[j]?) q
          simp only [List.getElem?_map] at this
          have e1 := HN.out.1
          have e2 := HN.out.2
          rw [List.getElem?_eq_getElem (by omega), List.getElem?_eq_getElem (by omega)] at this
          rw [getElem!_pos M1 j (by omega), getElem!_pos M2 j (by omega)]
          simpa using this)
        obtain ⟨x, hx⟩ : ∃ x, M1[j]!.s = x := ⟨_, rfl⟩
        obtain ⟨y, hy⟩ : ∃ y, M2[j]!.s = y := ⟨_, rfl⟩
        rw [hx] at t1 HNE
        rw [hy] at t2 HNE
        have HXY : Hid (M1[j]!.s = x ∧ M2[j]!.s = y) := ⟨hx, hy⟩
        clear hA1 hA2 hx hy
        by_cases q : x = y
        · subst q
          go_wp2_with fail
          go_quiet (fail)
          go_wp2
          go_round
          case rel => exact ⟨j + 1, by omega, by go_num, fun k hk => (by
            by_cases e : k < j
            · exact HK.out k e
            · have : k = j := by omega
              subst this
              rw [HXY.out.1, HXY.out.2]), nd + nq, by rw [HWR.out]; simp⟩
          case measure => simp [intOf]; omega
        · obtain ⟨q1, q2⟩ := toList_ne q
          have HE : Hid (R = false) := HNE.out q
          clear q
          go_wp2_with fail
          go_quiet (fail)
          go_wp2
          go_ret
          exact ⟨by rw [HE.out] <;> rfl, nd + nq, by rw [HWR.out]; simp⟩
      · have hjn : j = n := by omega
        subst hjn
        have ij : decide ((j : Int) < (j : Int)) = false := by simp
        have HE : Hid (R = true) := HYES.out (by
          apply List.ext_getElem?
          intro i
          simp only [List.getElem?_map]
          have e1 := HN.out.1
          have e2 := HN.out.2
          by_cases hi : i < j
          · have := HK.out i hi
            rw [getElem!_pos M1 i (by omega), getElem!_pos M2 i (by omega)] at this
            rw [List.getElem?_eq_getElem (by omega), List.getElem?_eq_getElem (by omega)]
            simpa using this
          · rw [List.getElem?_eq_none (by omega), List.getElem?_eq_none (by omega)])
        clear hlt
        go_wp2
        go_ret
        exact ⟨by rw [HE.out] <;> rfl, nd, HWR.out⟩
  · have HE : Hid (R = false) := HNO.out fun q => hl (by simpa using congrArg List.length q)
    have g1 : ((M1.length : Int) == (M2.length : Int)) = false := by rw [beq_eq_false_iff_ne]; omega
    have g2 : (M1.length == M2.length) = false := by rw [beq_eq_false_iff_ne]; omega
    have g3 : ((M1.length : Int) != (M2.length : Int)) = true := by rw [bne_iff_ne]; omega
    have g4 : (M1.length != M2.length) = true := by rw [bne_iff_ne]; omega
    clear h1 h2
    go_enter Tryz.func68, Tryz.ntmps68
    go_wp2
    go_ret
    exact ⟨by rw [HE.out] <;> rfl, 0, rfl⟩
theorem SOwn.ss {w : World} {base : Nat} {v : Value} {M : List Sv} (h : SOwn w base v M) : ∃ a c, v = .slice a M.length c ∧ Ss w a M := by
  obtain ⟨a, c, e, h1, _⟩ := h.row
  exact ⟨a, c, e, h1⟩
/-- Ahead of the heap's end. -/
theorem On.lt {w0 w : World} {p m : Nat} {q : Option Nat} {s : St} {z : Option Fz} (h : On w0 w p m q s z) : ∀ k, Ms p m q k → k < w.heap.size := fun k e => by
  obtain ⟨V, F, x⟩ := h.px
  rcases e with e | e | e
  · rw [e]; exact x.lt
  · rw [e]; exact x.m.lt
  · have hz := h.fz
    rw [e] at hz
    obtain ⟨cs, hk⟩ := hz.type
    exact (Array.getElem?_eq_some_iff.1 hk).1
/-- Ahead of its errors a disk's state alone tells. -/
theorem wri_same {z z' : Option Fz} {s : St} {x b : ByteArray} (h : blB z = false) (h' : blB z' = false) : wriZ z s x b = wriZ z' s x b := by
  obtain ⟨e1, e2, _⟩ := ask_parts z s [x] h
  obtain ⟨f1, f2, _⟩ := ask_parts z' s [x] h'
  unfold wriZ
  rw [e1, e2, f1, f2]
theorem del_same {z z' : Option Fz} {s : St} {x : ByteArray} (h : blB z = false) (h' : blB z' = false) : delZ z s x = delZ z' s x := by
  obtain ⟨e1, e2, _⟩ := ask_parts z s [x] h
  obtain ⟨f1, f2, _⟩ := ask_parts z' s [x] h'
  unfold delZ
  rw [e1, e2, f1, f2]
theorem On.other2 {w0 w w' : World} {p1 m1 p2 m2 : Nat} {q q2 : Option Nat} {s1 s2 : St} {z z2 : Option Fz} (h1 : On w0 w p1 m1 q s1 z) (h2 : On w0 w p2 m2 q2 s2 z2) (hp : p1 ≠ p2) (hm : m1 ≠ m2) (hq : ∀ k, q2 = some k → q ≠ some k) (u : Upd (Ms p1 m1 q) w w') : On w0 w' p2 m2 q2 s2 z2 := by
  refine h1.other h2 hp hm u (h2.fz.upd u fun k e k2 => ?_)
  obtain ⟨V1, F1, x1⟩ := h1.px
  have hz := h2.fz
  rw [e] at hz
  obtain ⟨cs, hk⟩ := hz.type
  rcases k2 with k2 | k2 | k2
  · subst k2
    rw [x1.o] at hk
    injection hk with hk
    injection hk with _ hk _
    cases hk
  · subst k2
    obtain ⟨es, clock, hb, _⟩ := x1.m
    rw [hb] at hk
    injection hk with hk
    cases hk
  · exact hq k e k2
theorem On.cells {w0 w : World} {p m : Nat} {q : Option Nat} {s : St} {z : Option Fz} (h : On w0 w p m q s z) : ∃ cs, w.heap[p]? = some (.cells cs 109 (0, 0)) := by
  obtain ⟨V, F, x⟩ := h.px
  exact ⟨_, x.o⟩
end Go.Proofs.YtebngmgdciahiaaGreatDoor

namespace Go.Proofs.YtebngmgdciahiaaGreatDoor
open Go.RowKit
open _root_.Go.Proofs.YtebngmgdciahiaaGreatDoor.Nm _root_.Go.Proofs.YtebngmgdciahiaaGreatDoor.Dk
attribute [local go_sem ↓] Go.wp_at_zero Go.wp_at_succ
set_option linter.unusedVariables false

def enG (g : Fv → DataW Value) (x : Fv) : Lit × DataW Value := (kl x.path, g x)
def DG (g : Fv → DataW Value) (V : List Fv) : DataW Value := .map (V.map (enG g))
section
variable {V A M B : List Fv} {p : ByteArray}
theorem filter_sameG (g : Fv → DataW Value) (A : List Fv) (h : ∀ x ∈ A, x.path ≠ p) : (A.map (enG g)).filter (fun e => !e.1.sameKey (kl p)) = A.map (enG g) := by
  refine List.filter_eq_self.2 fun e he => ?_
  obtain ⟨x, hx, rfl⟩ := List.mem_map.1 he
  show (!(kl x.path).sameKey (kl p)) = true
  rw [kl_same, decide_eq_false (h x hx)]; rfl
theorem filter_noneG (g : Fv → DataW Value) (M : List Fv) (h : ∀ x ∈ M, x.path = p) : (M.map (enG g)).filter (fun e => !e.1.sameKey (kl p)) = [] := by
  refine List.filter_eq_nil_iff.2 fun e he => ?_
  obtain ⟨x, hx, rfl⟩ := List.mem_map.1 he
  show ¬ (!(kl x.path).sameKey (kl p)) = true
  rw [kl_same, decide_eq_true (h x hx)]; decide
theorem Part.strikeG (g : Fv → DataW Value) (h : Part V p A M B) : (V.map (enG g)).filter (fun e => !e.1.sameKey (kl p)) = (A ++ B).map (enG g) := by
  rw [h.v, List.map_append, List.map_append, List.filter_append, List.filter_append, filter_sameG g A h.na, filter_noneG g M h.mp, filter_sameG g B h.nb, List.append_nil, List.map_append]
theorem insert_partsG (g : Fv → DataW Value) {f : Fv} (ha : ∀ x ∈ A, ls (tx x.path) (tx f.path) = true) (hb : ∀ x ∈ B, ls (tx f.path) (tx x.path) = true) : DataW.insert (enG g f) ((A ++ B).map (enG g)) = (A ++ f :: B).map (enG g) := by
  induction A with
  | nil =>
    cases B with
    | nil => rfl
    | cons y B =>
      show (if (kl f.path).before (kl y.path) then _ else _) = _
      rw [kl_before, hb y (List.mem_cons_self ..)]
      rfl
  | cons x A ih =>
    show (if (kl f.path).before (kl x.path) then _ else _) = _
    rw [kl_before, ls_both _ _ (ha x (List.mem_cons_self ..))]
    show enG g x :: DataW.insert (enG g f) ((A ++ B).map (enG g)) = _
    rw [ih fun y hy => ha y (List.mem_cons_of_mem _ hy)]
    rfl
/-- A store. -/
theorem Part.putG (g : Fv → DataW Value) (h : Part V p A M B) {f : Fv} (hf : f.path = p) : (DG g V).put (kl p) (g f) = DG g (A ++ f :: B) := by
  show DataW.map (DataW.insert (kl p, g f) ((V.map (enG g)).filter fun e => !e.1.sameKey (kl p))) = _
  rw [h.strikeG g]
  have : ((kl p, g f) : Lit × DataW Value) = enG g f := by unfold enG; rw [hf]
  rw [this, insert_partsG g (by rw [hf]; exact h.a) (by rw [hf]; exact h.b)]
  rfl
theorem Part.delG (g : Fv → DataW Value) (h : Part V p A M B) : (DG g V).del (kl p) = DG g (A ++ B) := by
  show DataW.map ((V.map (enG g)).filter fun e => !e.1.sameKey (kl p)) = _
  rw [h.strikeG g]
  rfl
theorem find_noneG (g : Fv → DataW Value) (A : List Fv) (h : ∀ x ∈ A, x.path ≠ p) : (A.map (enG g)).find? (fun e => e.1.sameKey (kl p)) = none := by
  refine List.find?_eq_none.2 fun e he => ?_
  obtain ⟨x, hx, rfl⟩ := List.mem_map.1 he
  show ¬ (kl x.path).sameKey (kl p) = true
  rw [kl_same, decide_eq_false (h x hx)]; decide
theorem Part.atKeyG (g : Fv → DataW Value) (h : Part V p A M B) (z : DataW Value) : (DG g V).atKey (kl p) z = (M.head?.map fun f => g f).getD z := by
  have hfd : (V.map (enG g)).find? (fun e => e.1.sameKey (kl p)) = M.head?.map (enG g) := by
    rw [h.v, List.map_append, List.map_append, List.find?_append, List.find?_append, find_noneG g A h.na, find_noneG g B h.nb]
    rcases h.m with ⟨_, e⟩ | ⟨_, f, e, hf⟩
    · subst e; rfl
    · subst e
      have : ([f].map (enG g)).find? (fun e => e.1.sameKey (kl p)) = some (enG g f) := by
        rw [List.map_singleton, List.find?_singleton]
        show (if (kl f.path).sameKey (kl p) = true then _ else _) = _
        rw [kl_same, if_pos (decide_eq_true hf)]
      rw [this]
      rfl
  unfold DG DataW.atKey
  dsimp only
  rw [hfd]
  cases M <;> rfl
theorem Part.hasG (g : Fv → DataW Value) (h : Part V p A M B) : Maps.has (DG g V) (kl p) = there p (V.map fl) := by
  show (V.map (enG g)).any (fun e => e.1.sameKey (kl p)) = _
  have any_no : ∀ A : List Fv, (∀ x ∈ A, x.path ≠ p) → (A.map (enG g)).any (fun e => e.1.sameKey (kl p)) = false := fun A h => by
    rw [List.any_eq_false]
    intro e he
    obtain ⟨x, hx, rfl⟩ := List.mem_map.1 he
    show ¬ (kl x.path).sameKey (kl p) = true
    rw [kl_same, decide_eq_false (h x hx)]; decide
  rw [h.v, List.map_append, List.map_append, List.any_append, List.any_append, any_no A h.na, any_no B h.nb, ← h.v]
  rcases h.m with ⟨t, e⟩ | ⟨t, f, e, hf⟩
  · subst e; rw [t]; rfl
  · subst e; rw [t]
    show (false || (((kl f.path).sameKey (kl p) || false)) || false) = true
    rw [kl_same, decide_eq_true hf]; rfl
theorem dg_size (g : Fv → DataW Value) (V : List Fv) : Maps.size (DG g V) = V.length := by show (V.map (enG g)).length = _; rw [List.length_map]
end
end Go.Proofs.YtebngmgdciahiaaGreatDoor
