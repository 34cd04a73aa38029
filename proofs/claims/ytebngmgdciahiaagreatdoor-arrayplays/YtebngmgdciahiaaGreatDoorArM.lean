/-
  Both, of a pair of disks: each deed.
-/
import Derived.Test.YtebngmgdciahiaaGreatDoorArZ
set_option maxRecDepth 100000
namespace Go.Proofs.YtebngmgdciahiaaGreatDoor
open Go.RowKit
open _root_.Go.Proofs.YtebngmgdciahiaaGreatDoor.Nm _root_.Go.Proofs.YtebngmgdciahiaaGreatDoor.Dk
attribute [local go_sem ↓] Go.wp_at_zero Go.wp_at_succ
set_option linter.unusedVariables false

theorem kdd {w w' : World} (h : Kd w w') (k : Nat) (cur : Array Value) (e : w.heap[k]? = some (.cells cur 29 (0, 0))) : w'.heap[k]? = w.heap[k]? := h.2 k cur _ e ⟨by decide, by decide, by decide, by decide, by decide, by decide⟩
/-- A deed in a block of its own. -/
def pObj (d n : Int) (x y : ByteArray) (va : Option Addr) (vn vc : Nat) : Obj := .cells #[.int .i64 d, .int .i64 n, .string x, .string y, .slice va vn vc] 29
/-- The cells of a deed's block that a call reads. -/
abbrev pC (W : World) (bx : Nat) (n : Int) (x y : ByteArray) (va : Option Addr) (vn vc : Nat) : Prop :=
  W.cell? ⟨bx, 1, none⟩ = some (.int .i64 n) ∧ W.cell? ⟨bx, 2, none⟩ = some (.string x) ∧ W.cell? ⟨bx, 3, none⟩ = some (.string y) ∧ W.cell? ⟨bx, 4, none⟩ = some (.slice va vn vc)
theorem pC_of {W : World} {bx : Nat} {d n : Int} {x y : ByteArray} {va : Option Addr} {vn vc : Nat} (h : W.heap[bx]? = some (pObj d n x y va vn vc)) : pC W bx n x y va vn vc :=
  ⟨cell_of_row W bx 1 _ _ _ h, cell_of_row W bx 2 _ _ _ h, cell_of_row W bx 3 _ _ _ h, cell_of_row W bx 4 _ _ _ h⟩
/-- What Both leaves. -/
def BEnd (w0 : World) (O : Ot) (p m d : Nat) (q g : Option Nat) (z : Option Fz) (e : Ending) (w' : World) : Prop :=
  e = .returned (.bool true) ∧ ∃ s' z', Hid (Pr w0 w' O p m d q g s' s' z' z' ∧ ∀ j, ZN j z → ZN (j + 1) z')
/-- Two calls, one on each. -/
theorem pp_two {w0 w : World} {O : Ot} {p m d : Nat} {q g : Option Nat} {s s1 : St} {z z1 : Option Fz} {bx : Nat} {dd n : Int} {x y : ByteArray} {va : Option Addr} {vn vc : Nat} {r1 r2 : Ending} {F1 F2 : FuncId} {A1 A2 : Array Value}
    (ho : w.heap[bx]? = some (pObj dd n x y va vn vc)) (hz : ∀ j, ZN j z → ZN (j + 1) z1)
    (k1 : Calls Tryz.prog F1 A1 w fun e w' => e = r1 ∧ Pr w0 w' O p m d q g s1 s z1 z ∧ Kd w w')
    (k2 : ∀ w', Pr w0 w' O p m d q g s1 s z1 z → Calls Tryz.prog F2 A2 w' fun e w'' => e = r2 ∧ Pr w0 w'' O p m d q g s1 s1 z1 z1 ∧ Kd w' w'') :
    Calls Tryz.prog F1 A1 w fun e w' => e = r1 ∧ pC w' bx n x y va vn vc ∧ Hid (Calls Tryz.prog F2 A2 w' fun e w'' => e = r2 ∧ pC w'' bx n x y va vn vc ∧ Hid (∃ s' z', Pr w0 w'' O p m d q g s' s' z' z' ∧ ∀ j, ZN j z → ZN (j + 1) z')) := by
  refine k1.mono ?_
  rintro e w' ⟨rfl, j1, j2⟩
  have h1 := (kdd j2 bx _ ho).trans ho
  refine ⟨rfl, pC_of h1, ?_⟩
  refine (k2 w' j1).mono ?_
  rintro e w'' ⟨rfl, l1, l2⟩
  have h2 := (kdd l2 bx _ h1).trans h1
  exact ⟨rfl, pC_of h2, s1, z1, l1, hz⟩
section
variable {w0 w : World} {O : Ot} {p m d : Nat} {q g : Option Nat} {s s2 : St} {z z2 : Option Fz}
theorem pr_wri1 (h : Pr w0 w O p m d q g s s2 z z2) (hb : Zb z) {x : ByteArray} (hx : x.size ≤ maxLen) {va : Option Addr} {vn vc : Nat} {b : ByteArray} (hi : Inp w va vn vc b) (hvn : vn ≤ maxLen) :
    Calls Tryz.prog 61 #[.pointer (some ⟨p, 0, none⟩), .string x, .slice va vn vc] w fun e w' => e = .returned (.int .i64 (wriZ z s x b).1) ∧ Pr w0 w' O p m d q g (wriZ z s x b).2 s2 (tickO z) z2 ∧ Kd w w' :=
  pr_prog h fun V F0 hp => (pwrite_any p m V q s F0 z x va vn vc b w hp h.on.fz hb hx hi hvn).mono fun e w' k => ⟨k.1, by
    obtain ⟨V', F', k1, k2, k3, k4⟩ := k.2
    rw [ask_z] at k2
    exact ⟨V', F', k1, k2, k3, k4⟩⟩
theorem pr_wri2 (h : Pr w0 w O p m d q g s s2 z z2) (hb : Zb z2) {x : ByteArray} (hx : x.size ≤ maxLen) {va : Option Addr} {vn vc : Nat} {b : ByteArray} (hi : Inp w va vn vc b) (hvn : vn ≤ maxLen) :
    Calls Tryz.prog 36 #[.pointer (some ⟨d, 0, none⟩), .string x, .slice va vn vc] w fun e w' => e = .returned (.int .i64 (wriZ z2 s2 x b).1) ∧ Pr w0 w' O p m d q g s (wriZ z2 s2 x b).2 z (tickO z2) ∧ Kd w w' := by
  refine (pr_doc (s' := (wriZ z2 s2 x b).2) (z' := tickO z2) (X := fun e w' => e = .returned (.int .i64 (wriZ z2 s2 x b).1)) h fun a c L hd => (dwrite_any d a c L g s2 z2 x va vn vc b w hd h.dx.zs hb hx hi hvn).mono fun e w' k => ⟨k.1, ?_⟩).mono fun e w' k => ⟨k.1, k.2.1, k.2.2.1⟩
  have := k.2
  rw [ask_z] at this
  exact this
theorem pr_syn1 (h : Pr w0 w O p m d q g s s2 z z2) (hb : Zb z) {x : ByteArray} (hx : x.size ≤ maxLen) :
    Calls Tryz.prog 62 #[.pointer (some ⟨p, 0, none⟩), .string x] w fun e w' => e = .returned (.int .i64 (synZ z s x).1) ∧ Pr w0 w' O p m d q g (synZ z s x).2 s2 (tickO z) z2 ∧ Kd w w' :=
  pr_prog h fun V F0 hp => (psync_any p m V q s F0 z x w hp h.on.fz hb hx).mono fun e w' k => ⟨k.1, by
    obtain ⟨V', F', k1, k2, k3, k4⟩ := k.2
    rw [ask_z] at k2
    exact ⟨V', F', k1, k2, k3, k4⟩⟩
theorem pr_syn2 (h : Pr w0 w O p m d q g s s2 z z2) (hb : Zb z2) {x : ByteArray} (hx : x.size ≤ maxLen) :
    Calls Tryz.prog 37 #[.pointer (some ⟨d, 0, none⟩), .string x] w fun e w' => e = .returned (.int .i64 (synZ z2 s2 x).1) ∧ Pr w0 w' O p m d q g s (synZ z2 s2 x).2 z (tickO z2) ∧ Kd w w' := by
  refine (pr_doc (s' := (synZ z2 s2 x).2) (z' := tickO z2) (X := fun e w' => e = .returned (.int .i64 (synZ z2 s2 x).1)) h fun a c L hd => (sync_any d a c L g s2 z2 x w hd h.dx.zs hb hx).mono fun e w' k => ⟨k.1, ?_⟩).mono fun e w' k => ⟨k.1, k.2.1, k.2.2.1⟩
  have := k.2
  rw [ask_z] at this
  exact this
theorem pr_del1 (h : Pr w0 w O p m d q g s s2 z z2) (hb : Zb z) {x : ByteArray} (hx : x.size ≤ maxLen) :
    Calls Tryz.prog 64 #[.pointer (some ⟨p, 0, none⟩), .string x] w fun e w' => e = .returned (.int .i64 (delZ z s x).1) ∧ Pr w0 w' O p m d q g (delZ z s x).2 s2 (tickO z) z2 ∧ Kd w w' :=
  pr_prog h fun V F0 hp => (pdelete_any p m V q s F0 z x w hp h.on.fz hb hx).mono fun e w' k => ⟨k.1, by
    obtain ⟨V', F', k1, k2, k3, k4⟩ := k.2
    rw [ask_z] at k2
    exact ⟨V', F', k1, k2, k3, k4⟩⟩
theorem pr_del2 (h : Pr w0 w O p m d q g s s2 z z2) (hb : Zb z2) {x : ByteArray} (hx : x.size ≤ maxLen) :
    Calls Tryz.prog 65 #[.pointer (some ⟨d, 0, none⟩), .string x] w fun e w' => e = .returned (.int .i64 (delZ z2 s2 x).1) ∧ Pr w0 w' O p m d q g s (delZ z2 s2 x).2 z (tickO z2) ∧ Kd w w' := by
  refine (pr_doc (s' := (delZ z2 s2 x).2) (z' := tickO z2) (X := fun e w' => e = .returned (.int .i64 (delZ z2 s2 x).1)) h fun a c L hd => (delete_any d a c L g s2 z2 x w hd h.dx.zs hb hx).mono fun e w' k => ⟨k.1, ?_⟩).mono fun e w' k => ⟨k.1, k.2.1, k.2.2.1⟩
  have := k.2
  rw [ask_z] at this
  exact this
theorem pr_ren1 (h : Pr w0 w O p m d q g s s2 z z2) (hb : Zb z) {x y : ByteArray} (hx : x.size ≤ maxLen) (hy : y.size ≤ maxLen) :
    Calls Tryz.prog 63 #[.pointer (some ⟨p, 0, none⟩), .string x, .string y] w fun e w' => e = .returned (.int .i64 (renZ z s x y).1) ∧ Pr w0 w' O p m d q g (renZ z s x y).2 s2 (tickO z) z2 ∧ Kd w w' :=
  pr_prog h fun V F0 hp => (prename_any p m V q s F0 z x y w hp h.on.fz hb hx hy).mono fun e w' k => ⟨k.1, by
    obtain ⟨V', F', k1, k2, k3, k4⟩ := k.2
    rw [ask_z] at k2
    exact ⟨V', F', k1, k2, k3, k4⟩⟩
theorem pr_ren2 (h : Pr w0 w O p m d q g s s2 z z2) (hb : Zb z2) {x y : ByteArray} (hx : x.size ≤ maxLen) (hy : y.size ≤ maxLen) (hsm : x = y → there x s2.fs = true → renS s2.fs x y = s2.fs) :
    Calls Tryz.prog 38 #[.pointer (some ⟨d, 0, none⟩), .string x, .string y] w fun e w' => e = .returned (.int .i64 (renZ z2 s2 x y).1) ∧ Pr w0 w' O p m d q g s (renZ z2 s2 x y).2 z (tickO z2) ∧ Kd w w' := by
  refine (pr_doc (s' := (renZ z2 s2 x y).2) (z' := tickO z2) (X := fun e w' => e = .returned (.int .i64 (renZ z2 s2 x y).1)) h fun a c L hd => (drename_any d a c L g s2 z2 x y w hd h.dx.zs hb hx hy hsm).mono fun e w' k => ⟨k.1, ?_⟩).mono fun e w' k => ⟨k.1, k.2.1, k.2.2.1⟩
  have := k.2
  rw [ask_z] at this
  exact this
theorem mk_pm {k : Nat} (e : k = p ∨ k = m) : Ms p m q k := pm_ms e
theorem pr_crash1 (h : Pr w0 w O p m d q g s s2 z z2) {k : Int} (hk0 : -9223372036854775808 ≤ k) (hk1 : k ≤ 9223372036854775807) :
    Calls Tryz.prog 24 #[.pointer (some ⟨p, 0, none⟩), .int .i64 k] w fun e w' => e = .returned (.tuple #[]) ∧ Pr w0 w' O p m d q g { s with fs := crashS k s.fs } s2 z z2 ∧ Kd w w' :=
  pr_prog h fun V F0 hp => (pcrash_any p m V q s F0 k w hp hk0 hk1).mono fun e w' c => ⟨c.1, by
    obtain ⟨V', k1, k2, k3⟩ := c.2
    exact ⟨V', F0, k1, fz_pm h.on k2, k2.mono fun _ _ e => pm_ms e, k3⟩⟩
theorem pr_crash2 (h : Pr w0 w O p m d q g s s2 z z2) {k : Int} (hk0 : -9223372036854775808 ≤ k) (hk1 : k ≤ 9223372036854775807) :
    Calls Tryz.prog 74 #[.pointer (some ⟨d, 0, none⟩), .int .i64 k] w fun e w' => e = .returned (.tuple #[]) ∧ Pr w0 w' O p m d q g s { s2 with fs := crashS k s2.fs } z z2 ∧ Kd w w' :=
  (pr_doc (X := fun e w' => e = .returned (.tuple #[])) h fun a c L hd => dcrash_any d a c L g s2 z2 k w hd h.dx.zs hk0 hk1).mono fun e w' k => ⟨k.1, k.2.1, k.2.2.1⟩
theorem pr_flip2 (h : Pr w0 w O p m d q g s s2 z z2) {x : ByteArray} {t : Int} {mask : Nat} (hx : x.size ≤ maxLen) (ht0 : -9223372036854775808 ≤ t) (ht1 : t ≤ 9223372036854775807) (hm : mask < 4294967296) :
    Calls Tryz.prog 73 #[.pointer (some ⟨d, 0, none⟩), .string x, .int .i64 t, .int .u32 (mask : Int)] w fun e w' => e = .returned (.bool (flipT x t s2.fs)) ∧ Pr w0 w' O p m d q g s { s2 with fs := flipS x t mask s2.fs } z z2 ∧ Kd w w' :=
  (pr_doc (X := fun e w' => e = .returned (.bool (flipT x t s2.fs))) h fun a c L hd => dflip_any d a c L g s2 z2 x t mask w hd h.dx.zs hx ht0 ht1 hm).mono fun e w' k => ⟨k.1, k.2.1, k.2.2.1⟩
theorem pr_off1 (h : Pr w0 w O p m d q g s s2 z z2) (b : Bool) :
    Calls Tryz.prog 69 #[.pointer (some ⟨p, 0, none⟩), .bool b] w fun e w' => e = .returned (.tuple #[]) ∧ Pr w0 w' O p m d q g { s with off := b } s2 z z2 ∧ Kd w w' :=
  pr_prog h fun V F0 hp => (offline_any p m V q s F0 b w hp).mono fun e w' c => ⟨c.1, V, F0, c.2.1, fz_pm h.on (c.2.2.mono fun _ _ e => .inl e), c.2.2.mono fun _ _ e => .inl e, Gw.refl _ _⟩
theorem pr_fail1 (h : Pr w0 w O p m d q g s s2 z z2) {n : Int} (h0 : -9223372036854775808 ≤ n) (h1 : n ≤ 9223372036854775807) :
    Calls Tryz.prog 70 #[.pointer (some ⟨p, 0, none⟩), .int .i64 n] w fun e w' => e = .returned (.tuple #[]) ∧ Pr w0 w' O p m d q g { s with bad := max n 0 } s2 z z2 ∧ Kd w w' :=
  pr_prog h fun V F0 hp => (fail_any p m V q s F0 n w hp h0 h1).mono fun e w' c => ⟨c.1, V, n, c.2.1, fz_pm h.on (c.2.2.mono fun _ _ e => .inl e), c.2.2.mono fun _ _ e => .inl e, Gw.refl _ _⟩
theorem pr_wipe1 (h : Pr w0 w O p m d q g s s2 z z2) :
    Calls Tryz.prog 71 #[.pointer (some ⟨p, 0, none⟩)] w fun e w' => e = .returned (.tuple #[]) ∧ Pr w0 w' O p m d q g { s with fs := [] } s2 z z2 ∧ Kd w w' :=
  pr_prog h fun V F0 hp => (wipe_any p m V q s F0 w hp).mono fun e w' c => ⟨c.1, [], F0, c.2.1, fz_pm h.on c.2.2, c.2.2.mono fun _ _ e => pm_ms e, fun y hy => by cases hy⟩
/-- The document's own stores. -/
theorem doc_put {a : Option Addr} {c : Nat} {L : List Fv} (hd : DX w d a c L g s2) (hz : Zs w g z2) (i : Nat) (v : Value) {s' : St} (hf : s'.fs = s2.fs) (hw : Wf s') (ho : (w.setCell ⟨d, i, none⟩ v).heap[d]? = some (.cells #[.slice a L.length c, .int .i64 s'.most, .pointer (g.map fun k => ⟨k, 0, none⟩), .bool s'.off, .int .i64 s'.bad] 115)) :
    ∃ a' c' L', DX (w.setCell ⟨d, i, none⟩ v) d a' c' L' g s' ∧ Zs (w.setCell ⟨d, i, none⟩ v) g z2 ∧ Upd (Mg d g a) w (w.setCell ⟨d, i, none⟩ v) ∧ (a' = a ∨ ∀ x, a' = some x → w.heap.size ≤ x.block) ∧ Gw w L L' := by
  have u : Upd (fun k => k = d) w (w.setCell ⟨d, i, none⟩ v) := Upd.put (M := fun k => k = d) (Upd.refl _ w) (p := ⟨d, i, none⟩) (.inl rfl) _
  refine ⟨a, c, L, hd.turn u (fun k e cur T t => ?_) ho hf hw, hz.beside u (fun k e k2 => zs_off hd hz e k2.symm), u.mono fun _ _ e => .inl e, .inl rfl, Gw.refl _ _⟩
  subst e
  rw [hd.o] at t
  injection t with t
  injection t with _ t _
  subst t
  decide
theorem Pr.dOff (h : Pr w0 w O p m d q g s s2 z z2) (b : Bool) : Pr w0 (w.setCell ⟨d, 3, none⟩ (.bool b)) O p m d q g s { s2 with off := b } z z2 :=
  (h.docU fun a c L hd => doc_put (s' := { s2 with off := b }) hd h.dx.zs 3 (.bool b) rfl ⟨hd.wf.n, hd.wf.b, hd.wf.p, hd.wf.m0, hd.wf.m1, hd.wf.b0, hd.wf.b1⟩ (heap_setCell_same w d 3 _ _ (.bool b) hd.o)).1
theorem Pr.dBad (h : Pr w0 w O p m d q g s s2 z z2) (n : Int) (h0 : 0 ≤ n) (h1 : n ≤ 9223372036854775807) : Pr w0 (w.setCell ⟨d, 4, none⟩ (.int .i64 n)) O p m d q g s { s2 with bad := n } z z2 :=
  (h.docU fun a c L hd => doc_put (s' := { s2 with bad := n }) hd h.dx.zs 4 (.int .i64 n) rfl ⟨hd.wf.n, hd.wf.b, hd.wf.p, hd.wf.m0, hd.wf.m1, h0, h1⟩ (heap_setCell_same w d 4 _ _ (.int .i64 n) hd.o)).1
theorem Pr.dNil (h : Pr w0 w O p m d q g s s2 z z2) : Pr w0 (w.setCell ⟨d, 0, none⟩ (.slice none 0 0)) O p m d q g s { s2 with fs := [] } z z2 :=
  (h.docU fun a c L hd => by
    have u : Upd (fun k => k = d) w (w.setCell ⟨d, 0, none⟩ (.slice none 0 0)) := Upd.put (M := fun k => k = d) (Upd.refl _ w) (p := ⟨d, 0, none⟩) (.inl rfl) _
    exact ⟨none, 0, [], ⟨heap_setCell_same w d 0 _ _ (.slice none 0 0) hd.o, FOwn.start _ _, fun x hx => absurd hx List.not_mem_nil, rfl, ⟨Nat.zero_le _, fun f hf => absurd hf List.not_mem_nil, fun f hf => absurd hf List.not_mem_nil, hd.wf.m0, hd.wf.m1, hd.wf.b0, hd.wf.b1⟩⟩, h.dx.zs.beside u (fun k e k2 => zs_off hd h.dx.zs e k2.symm), u.mono fun _ _ e => .inl e, .inr (fun x e => by cases e), fun y hy => absurd hy List.not_mem_nil⟩).1
theorem Pr.cell (h : Pr w0 w O p m d q g s s2 z z2) : (∃ a c L, w.heap[d]? = some (.cells #[.slice a L c, .int .i64 s2.most, .pointer (g.map fun k => ⟨k, 0, none⟩), .bool s2.off, .int .i64 s2.bad] 115)) := by
  obtain ⟨a, c, L, hd, _⟩ := h.dx.dx
  exact ⟨a, c, _, hd.o⟩
end
theorem pr_set1 {w0 w : World} {O : Ot} {p m d k : Nat} {g : Option Nat} {s s2 : St} {z : Fz} {z2 : Option Fz} (h : Pr w0 w O p m d (some k) g s s2 (some z) z2) (n : Int) :
    Calls Tryz.prog 23 #[.pointer (some ⟨k, 0, none⟩), .int .i64 n] w fun e w' => e = .returned (.tuple #[]) ∧ Pr w0 w' O p m d (some k) g s s2 (some ⟨n, 0, false⟩) z2 ∧ Kd w w' :=
  pr_prog h fun V F0 x => (set_pany k z n w h.on.fz).mono fun e w' c => ⟨c.1, V, F0, by
    obtain ⟨_, k1, k2⟩ := c
    obtain ⟨h1, h2⟩ := fz_off x h.on.fz rfl
    obtain ⟨cs, hk⟩ := h.on.fz.type
    refine x.turn k2 (fun j e cur T t => ?_) (fun e => h2 e) ?_ rfl x.wf x.F0 x.F1
    · subst e
      rw [t] at hk
      injection hk with hk
      injection hk with _ hk _
      subst hk; decide
    · rw [k2.block p x.lt (fun e => h1 e)]; exact x.o, c.2.1, c.2.2.mono fun j _ e => .inr (.inr (by rw [e])), Gw.refl _ _⟩
theorem pr_set2 {w0 w : World} {O : Ot} {p m d k : Nat} {q : Option Nat} {s s2 : St} {z : Option Fz} {z2 : Fz} (h : Pr w0 w O p m d q (some k) s s2 z (some z2)) (n : Int) :
    Calls Tryz.prog 75 #[.pointer (some ⟨k, 0, none⟩), .int .i64 n] w fun e w' => e = .returned (.tuple #[]) ∧ Pr w0 w' O p m d q (some k) s s2 z (some ⟨n, 0, false⟩) ∧ Kd w w' :=
  (pr_doc (X := fun e w' => e = .returned (.tuple #[])) h fun a c L hd => (set_any k z2 n w h.dx.zs).mono fun e w' r => ⟨r.1, a, c, L, by
    obtain ⟨_, k1, k2⟩ := r
    have hne := zs_off hd h.dx.zs rfl
    refine hd.turn k2 (fun j e cur T t => ?_) ?_ rfl hd.wf
    · subst e
      obtain ⟨cs, hk⟩ := h.dx.zs.type
      rw [t] at hk
      injection hk with hk
      injection hk with _ hk _
      subst hk; decide
    · rw [k2.block d hd.lt (fun e => hne e)]; exact hd.o, r.2.1, r.2.2.mono fun j _ e => .inr (.inl (by rw [e])), .inl rfl, Gw.refl _ _⟩).mono fun e w' k => ⟨k.1, k.2.1, k.2.2.1⟩
end Go.Proofs.YtebngmgdciahiaaGreatDoor
