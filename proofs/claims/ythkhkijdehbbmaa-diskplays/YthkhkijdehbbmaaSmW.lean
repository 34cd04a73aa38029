/-
  The program's disk, operation by operation, behind a world in which nothing has turned.
-/
import Derived.Test.YthkhkijdehbbmaaSmO
set_option maxRecDepth 100000
namespace Go.Proofs.Ythkhkijdehbbmaa
open Go.RowKit
open _root_.Go.Proofs.Ythkhkijdehbbmaa.Nm _root_.Go.Proofs.Ythkhkijdehbbmaa.Dk
attribute [local go_sem ↓] Go.wp_at_zero Go.wp_at_succ
set_option linter.unusedVariables false

/-- A disk that came behind w0. -/
structure On (w0 w : World) (p m : Nat) (q : Option Nat) (s : St) (z : Option Fz) : Prop where
  px : ∃ V F, PX w p m V q s F
  fz : FZ w q z
  b : Below w0.heap.size w0 w
  p0 : w0.heap.size ≤ p
  m0 : w0.heap.size ≤ m
  q0 : ∀ k, q = some k → w0.heap.size ≤ k
section
variable {w0 w : World} {p m : Nat} {q : Option Nat} {s : St} {z : Option Fz}
theorem On.go {w' : World} {s' : St} {z' : Option Fz} (h : On w0 w p m q s z) (px : ∃ V F, PX w' p m V q s' F) (fz : FZ w' q z') (u : Upd (Ms p m q) w w') : On w0 w' p m q s' z' :=
  ⟨px, fz, Upd.below h.b u (fun i k => by
    rcases k with k | k | k
    · rw [k]; exact h.p0
    · rw [k]; exact h.m0
    · exact h.q0 i k) h.b.size, h.p0, h.m0, h.q0⟩
theorem On.keep {w' : World} (h : On w0 w p m q s z) (k : Below w.heap.size w w') : On w0 w' p m q s z := by
  obtain ⟨V, F, x⟩ := h.px
  exact ⟨⟨V, F, x.keep k⟩, h.fz.keep k, h.b.trans (k.mono h.b.size), h.p0, h.m0, h.q0⟩
theorem pm_ms {k : Nat} (e : k = p ∨ k = m) : Ms p m q k := by
  rcases e with e | e
  · exact .inl e
  · exact .inr (.inl e)
theorem fz_pm (h : On w0 w p m q s z) {w' : World} (u : Upd (fun k => k = p ∨ k = m) w w') : FZ w' q z := by
  obtain ⟨V, F, x⟩ := h.px
  refine h.fz.upd u fun k e k2 => ?_
  rcases k2 with k2 | k2
  · exact (fz_off x h.fz e).1 k2.symm
  · exact (fz_off x h.fz e).2 k2.symm
theorem on_write (h : On w0 w p m q s z) (hb : Zb z) {x : ByteArray} (hx : x.size ≤ maxLen) {a : Option Addr} {n c : Nat} {b : ByteArray} (hi : Inp w a n c b) (hn : n ≤ maxLen) :
    Calls Try.prog 12 #[.pointer (some ⟨p, 0, none⟩), .string x, .slice a n c] w fun e w' => e = .returned (.int .i64 (wriZ z s x b).1) ∧ On w0 w' p m q (wriZ z s x b).2 (askZ z s [x]).2.1 ∧ Upd (Ms p m q) w w' := by
  obtain ⟨V, F, k⟩ := h.px
  refine (pwrite_any p m V q s F z x a n c b w k h.fz hb hx hi hn).mono ?_
  rintro e w' ⟨rfl, V', F', k1, k2, k3, _⟩
  exact ⟨rfl, h.go ⟨V', F', k1⟩ k2 k3, k3⟩
theorem on_sync (h : On w0 w p m q s z) (hb : Zb z) {x : ByteArray} (hx : x.size ≤ maxLen) :
    Calls Try.prog 16 #[.pointer (some ⟨p, 0, none⟩), .string x] w fun e w' => e = .returned (.int .i64 (synZ z s x).1) ∧ On w0 w' p m q (synZ z s x).2 (askZ z s [x]).2.1 ∧ Upd (Ms p m q) w w' := by
  obtain ⟨V, F, k⟩ := h.px
  refine (psync_any p m V q s F z x w k h.fz hb hx).mono ?_
  rintro e w' ⟨rfl, V', F', k1, k2, k3, _⟩
  exact ⟨rfl, h.go ⟨V', F', k1⟩ k2 k3, k3⟩
theorem on_rename (h : On w0 w p m q s z) (hb : Zb z) {x y : ByteArray} (hx : x.size ≤ maxLen) (hy : y.size ≤ maxLen) :
    Calls Try.prog 13 #[.pointer (some ⟨p, 0, none⟩), .string x, .string y] w fun e w' => e = .returned (.int .i64 (renZ z s x y).1) ∧ On w0 w' p m q (renZ z s x y).2 (askZ z s [x, y]).2.1 ∧ Upd (Ms p m q) w w' := by
  obtain ⟨V, F, k⟩ := h.px
  refine (prename_any p m V q s F z x y w k h.fz hb hx hy).mono ?_
  rintro e w' ⟨rfl, V', F', k1, k2, k3, _⟩
  exact ⟨rfl, h.go ⟨V', F', k1⟩ k2 k3, k3⟩
theorem on_delete (h : On w0 w p m q s z) (hb : Zb z) {x : ByteArray} (hx : x.size ≤ maxLen) :
    Calls Try.prog 17 #[.pointer (some ⟨p, 0, none⟩), .string x] w fun e w' => e = .returned (.int .i64 (delZ z s x).1) ∧ On w0 w' p m q (delZ z s x).2 (askZ z s [x]).2.1 ∧ Upd (Ms p m q) w w' := by
  obtain ⟨V, F, k⟩ := h.px
  refine (pdelete_any p m V q s F z x w k h.fz hb hx).mono ?_
  rintro e w' ⟨rfl, V', F', k1, k2, k3, _⟩
  exact ⟨rfl, h.go ⟨V', F', k1⟩ k2 k3, k3⟩
theorem on_read (h : On w0 w p m q s z) (hb : Zb z) {x : ByteArray} (hx : x.size ≤ maxLen) :
    Calls Try.prog 15 #[.pointer (some ⟨p, 0, none⟩), .string x] w fun e w' => ∃ a n c, e = .returned (.tuple #[.slice a n c, .int .i64 (readZ z s x).2]) ∧ Hid (Inp w' a n c (readZ z s x).1 ∧ On w0 w' p m q (askZ z s [x]).2.2 (askZ z s [x]).2.1 ∧ Upd (Ms p m q) w w') := by
  obtain ⟨V, F, k⟩ := h.px
  refine (pread_any p m V q s F z x w k h.fz hb hx).mono ?_
  rintro e w' ⟨⟨a, n, c⟩, rfl, k0, F', k1, k2, k3⟩
  have hp := k0 ⟨#[]⟩ false
  obtain ⟨f, h1, h2, h3⟩ := hp.row
  have hn : n = (readZ z s x).1.size := hp.n
  have k4 : Upd (Ms p m q) w w' := k3.mono fun k _ e => mk_ms e
  refine ⟨a, n, c, rfl, ⟨⟨f, h1, by rw [hn]; exact h2, by rw [hn]; exact h3⟩, hn, fun e => ?_⟩, h.go ⟨V, F', k1⟩ k2 k4, k4⟩
  have hz : c = 0 := hp.z e
  have hc : (readZ z s x).1.size ≤ c := hp.c
  exact ⟨by omega, hz⟩
theorem on_list (h : On w0 w p m q s z) (hb : Zb z) {x : ByteArray} (hx : x.size ≤ maxLen) :
    Calls Try.prog 20 #[.pointer (some ⟨p, 0, none⟩), .string x] w fun e w' => ∃ v M, e = .returned (.tuple #[v, .int .i64 (lisZ z s x).2]) ∧ Hid (SOwn w' w.heap.size v M ∧ (M.map fun y => y.s) = (lisZ z s x).1 ∧ On w0 w' p m q (askZ z s []).2.2 (askZ z s []).2.1 ∧ Upd (Ms p m q) w w') := by
  obtain ⟨V, F, k⟩ := h.px
  refine (plist_any p m V q s F z x w k h.fz hb hx).mono ?_
  rintro e w' ⟨v, M, rfl, k0, k5, F', k1, k2, k3⟩
  have k4 : Upd (Ms p m q) w w' := k3.mono fun k _ e => mk_ms e
  exact ⟨v, M, rfl, k0, k5, h.go ⟨V, F', k1⟩ k2 k4, k4⟩
theorem on_crash (h : On w0 w p m q s z) {k : Int} (hk0 : -9223372036854775808 ≤ k) (hk1 : k ≤ 9223372036854775807) :
    Calls Try.prog 14 #[.pointer (some ⟨p, 0, none⟩), .int .i64 k] w fun e w' => e = .returned (.tuple #[]) ∧ On w0 w' p m q { s with fs := crashS k s.fs } z ∧ Upd (Ms p m q) w w' := by
  obtain ⟨V, F, x⟩ := h.px
  refine (pcrash_any p m V q s F k w x hk0 hk1).mono ?_
  rintro e w' ⟨rfl, V', k1, k2, _⟩
  have k4 : Upd (Ms p m q) w w' := k2.mono fun k _ e => pm_ms e
  exact ⟨rfl, h.go ⟨V', F, k1⟩ (fz_pm h k2) k4, k4⟩
theorem on_files (h : On w0 w p m q s z) :
    Calls Try.prog 28 #[.pointer (some ⟨p, 0, none⟩)] w fun e w' => ∃ v M, e = .returned v ∧ Hid (SOwn w' w.heap.size v M ∧ (M.map fun y => y.s) = (s.fs.map fun f => f.path) ∧ On w0 w' p m q s z ∧ Below w.heap.size w w') := by
  obtain ⟨V, F, x⟩ := h.px
  refine (files_any p m V q s F w x).mono ?_
  rintro e w' ⟨v, M, rfl, k0, k5, k1⟩
  exact ⟨v, M, rfl, k0, k5, h.keep k1, k1⟩
theorem on_look (h : On w0 w p m q s z) {x : ByteArray} (hx : x.size ≤ maxLen) :
    Calls Try.prog 29 #[.pointer (some ⟨p, 0, none⟩), .string x] w fun e w' => ∃ a n c, e = .returned (.tuple #[.slice a n c, .bool (fileL x s.fs).sure, .bool (there x s.fs)]) ∧ Hid (Inp w' a n c (fileL x s.fs).b ∧ On w0 w' p m q s z ∧ Below w.heap.size w w') := by
  obtain ⟨V, F, k⟩ := h.px
  refine (look_any p m V q s F x w k hx).mono ?_
  rintro e w' ⟨⟨a, n, c⟩, rfl, k0, k1⟩
  have hp := k0 ⟨#[]⟩ false
  obtain ⟨f, h1, h2, h3⟩ := hp.row
  have hn : n = (fileL x s.fs).b.size := hp.n
  refine ⟨a, n, c, rfl, ⟨⟨f, h1, by rw [hn]; exact h2, by rw [hn]; exact h3⟩, hn, fun e => ?_⟩, h.keep k1, k1⟩
  have hz : c = 0 := hp.z e
  have hc : (fileL x s.fs).b.size ≤ c := hp.c
  exact ⟨by omega, hz⟩
theorem on_used (h : On w0 w p m q s z) : Calls Try.prog 31 #[.pointer (some ⟨p, 0, none⟩)] w fun e w' => e = .returned (.int .i64 ((used s.fs : Nat) : Int)) ∧ w' = w := by
  obtain ⟨V, F, x⟩ := h.px
  exact used_pany p m V q s F w x
theorem on_room (h : On w0 w p m q s z) : Calls Try.prog 33 #[.pointer (some ⟨p, 0, none⟩)] w fun e w' => e = .returned (.int .i64 (s.most - ((used s.fs : Nat) : Int))) ∧ ∃ n, w' = w.drewN n := by
  obtain ⟨V, F, x⟩ := h.px
  exact room_pany p m V q s F w x
theorem on_offline (h : On w0 w p m q s z) (b : Bool) :
    Calls Try.prog 19 #[.pointer (some ⟨p, 0, none⟩), .bool b] w fun e w' => e = .returned (.tuple #[]) ∧ On w0 w' p m q { s with off := b } z ∧ Upd (Ms p m q) w w' := by
  obtain ⟨V, F, x⟩ := h.px
  refine (offline_any p m V q s F b w x).mono ?_
  rintro e w' ⟨rfl, k1, k2⟩
  have k4 : Upd (Ms p m q) w w' := k2.mono fun k _ e => .inl e
  exact ⟨rfl, h.go ⟨V, F, k1⟩ (fz_pm h (k2.mono fun k _ e => .inl e)) k4, k4⟩
theorem on_fail (h : On w0 w p m q s z) {n : Int} (h0 : -9223372036854775808 ≤ n) (h1 : n ≤ 9223372036854775807) :
    Calls Try.prog 18 #[.pointer (some ⟨p, 0, none⟩), .int .i64 n] w fun e w' => e = .returned (.tuple #[]) ∧ On w0 w' p m q { s with bad := max n 0 } z ∧ Upd (Ms p m q) w w' := by
  obtain ⟨V, F, x⟩ := h.px
  refine (fail_any p m V q s F n w x h0 h1).mono ?_
  rintro e w' ⟨rfl, k1, k2⟩
  have k4 : Upd (Ms p m q) w w' := k2.mono fun k _ e => .inl e
  exact ⟨rfl, h.go ⟨V, n, k1⟩ (fz_pm h (k2.mono fun k _ e => .inl e)) k4, k4⟩
theorem on_wipe (h : On w0 w p m q s z) :
    Calls Try.prog 45 #[.pointer (some ⟨p, 0, none⟩)] w fun e w' => e = .returned (.tuple #[]) ∧ On w0 w' p m q { s with fs := [] } z ∧ Upd (Ms p m q) w w' := by
  obtain ⟨V, F, x⟩ := h.px
  refine (wipe_any p m V q s F w x).mono ?_
  rintro e w' ⟨rfl, k1, k2⟩
  have k4 : Upd (Ms p m q) w w' := k2.mono fun k _ e => pm_ms e
  exact ⟨rfl, h.go ⟨[], F, k1⟩ (fz_pm h k2) k4, k4⟩
end
theorem on_set {w0 w : World} {p m k : Nat} {s : St} {z : Fz} (h : On w0 w p m (some k) s (some z)) (n : Int) :
    Calls Try.prog 21 #[.pointer (some ⟨k, 0, none⟩), .int .i64 n] w fun e w' => e = .returned (.tuple #[]) ∧ On w0 w' p m (some k) s (some ⟨n, 0, false⟩) ∧ Upd (Ms p m (some k)) w w' := by
  obtain ⟨V, F, x⟩ := h.px
  refine (set_pany k z n w h.fz).mono ?_
  rintro e w' ⟨rfl, k1, k2⟩
  have k4 : Upd (Ms p m (some k)) w w' := k2.mono fun j _ e => .inr (.inr (by rw [e]))
  obtain ⟨h1, h2⟩ := fz_off x h.fz rfl
  obtain ⟨cs, hk⟩ := h.fz.type
  refine ⟨rfl, h.go ⟨V, F, x.turn k2 (fun j e cur T t => ?_) (fun e => h2 e) ?_ rfl x.wf x.F0 x.F1⟩ k1 k4, k4⟩
  · subst e
    rw [t] at hk
    injection hk with hk
    injection hk with _ hk _
    subst hk; decide
  · rw [k2.block p x.lt (fun e => h1 e)]; exact x.o
/-- A disk is made behind w0. -/
theorem on_new (w0 w : World) (b : Below w0.heap.size w0 w) (q : Option Nat) (z : Option Fz) (hz : FZ w q z) (hq : ∀ k, q = some k → w0.heap.size ≤ k) (mo : Int) (hm0 : -9223372036854775808 ≤ mo) (hm1 : mo ≤ 9223372036854775807) :
    Calls Try.prog 11 #[.int .i64 mo, .pointer (q.map fun k => ⟨k, 0, none⟩)] w fun e w' => e = .returned (.pointer (some ⟨w.heap.size + 1, 0, none⟩)) ∧ On w0 w' (w.heap.size + 1) w.heap.size q (newSt mo) z ∧ Below w.heap.size w w' := by
  refine (new_any mo q w hm0 hm1).mono ?_
  rintro e w' ⟨rfl, k1, k2⟩
  have := b.size
  exact ⟨rfl, ⟨⟨[], 0, k1⟩, hz.keep k2, b.trans (k2.mono this), by omega, this, hq⟩, k2⟩
/-- Bytes that were read, as a text. -/
theorem Inp.conv {w : World} {a : Option Addr} {n c : Nat} {b : ByteArray} (h : Inp w a n c b) : Sem.run Try.prog (convert 29 9 (.slice a n c)) w = .ok (.string b) w := by
  obtain ⟨f, h1, h2, h3⟩ := h.r
  have := conv_row (c := c) h2 (fun e => (h.z e).1)
  rw [h3] at this
  exact this
theorem Inp.none (w : World) : Inp w none 0 0 ⟨#[]⟩ := ⟨⟨fun _ => 0, fun _ => Nat.zero_lt_succ _, Row.zero _ _ (fun _ => Nat.zero_lt_succ _), rfl⟩, rfl, fun _ => ⟨rfl, rfl⟩⟩
end Go.Proofs.Ythkhkijdehbbmaa
