/-
  What the program's disk asks ahead of an operation.
-/
import Derived.Test.YthkhkijdehbbmaaSmB
set_option maxRecDepth 100000
namespace Go.Proofs.Ythkhkijdehbbmaa
open Go.RowKit Dk Nm
attribute [local go_sem ↓] Go.wp_at_zero Go.wp_at_succ
set_option linter.unusedVariables false

theorem ask_parts (z : Option Fz) (s : St) (ps : List ByteArray) (hz : blB z = false) : (askZ z s ps).1 = (askD s ps).1 ∧ (askZ z s ps).2.2 = (askD s ps).2 ∧ (askZ z s ps).2.1 = tickO z := by
  cases z with
  | none => exact ⟨rfl, rfl, rfl⟩
  | some z =>
    have h : z.blown = false := hz
    unfold askZ tickO
    dsimp only
    rw [if_neg (by rw [h]; decide), if_neg (by rw [h]; decide)]
    exact ⟨rfl, rfl, rfl⟩
theorem ask_blown {z : Option Fz} (s : St) (ps : List ByteArray) (hz : blB z = true) : (askZ z s ps).1 = 20 ∧ (askZ z s ps).2.2 = s ∧ (askZ z s ps).2.1 = tickO z := by
  cases z with
  | none => cases hz
  | some z =>
    have h : z.blown = true := hz
    unfold askZ tickO
    dsimp only
    rw [if_pos h, if_pos h]
    exact ⟨rfl, rfl, rfl⟩
/-- What asking leaves. -/
def PAsk (p m : Nat) (V : List Fv) (q : Option Nat) (d : Int) (s : St) (z : Option Fz) (w : World) (e : Ending) (w' : World) : Prop :=
  e = .returned (.int .i64 d) ∧ ∃ F, PX w' p m V q s F ∧ FZ w' q z ∧ Upd (Mk p q) w w'
theorem fz_off {w : World} {p m : Nat} {V : List Fv} {q : Option Nat} {s : St} {F : Int} {z : Option Fz} (h : PX w p m V q s F) (hz : FZ w q z) {k : Nat} (e : q = some k) : p ≠ k ∧ m ≠ k := by
  subst e
  obtain ⟨cs, hk⟩ := hz.type
  refine ⟨fun e => ?_, fun e => ?_⟩
  · subst e
    rw [h.o] at hk
    injection hk with hk
    injection hk with _ hk _
    cases hk
  · subst e
    obtain ⟨es, clock, hb, _⟩ := h.m
    rw [hb] at hk
    injection hk with hk
    cases hk
set_option maxHeartbeats 4000000 in
theorem pask_any (p m : Nat) (V : List Fv) (q : Option Nat) (s : St) (F : Int) (z : Option Fz) (A : Option Addr) (C : Nat) (ps : List ByteArray) (w : World) (h : PX w p m V q s F) (hz : FZ w q z) (hb : Zb z) (hS : Strs w A ps) (hn : ps.length ≤ 1000) :
    Calls Try.prog 32 #[.pointer (some ⟨p, 0, none⟩), .slice A ps.length C] w (PAsk p m V q (askZ z s ps).1 (askZ z s ps).2.2 (askZ z s ps).2.1 w) := by
  have d0 := h.c0
  have d3 := h.c3
  have qM : (binOp .eql 69 (.map (some m)) (.map none)).run Try.prog w = .ok (.bool false) w := run_eql_map_nil w _ _ _ _ Try.underlying69
  have cC := count_any q z w hz hb
  obtain ⟨r, hr⟩ : ∃ r, (q.map fun k => (⟨k, 0, none⟩ : Addr)) = r := ⟨_, rfl⟩
  rw [hr] at cC d3
  obtain ⟨B, hB⟩ : ∃ B, blB z = B := ⟨_, rfl⟩
  rw [hB] at cC
  have HS0 : Hid (Strs w A ps) := hS
  have HD0 : Hid (PX w p m V q s F) := h
  have HZ0 : Hid (FZ w q z) := hz
  obtain ⟨d, hd⟩ : ∃ d, (askZ z s ps).1 = d := ⟨_, rfl⟩
  obtain ⟨s', hs'⟩ : ∃ s', (askZ z s ps).2.2 = s' := ⟨_, rfl⟩
  obtain ⟨z', hz'⟩ : ∃ z', (askZ z s ps).2.1 = z' := ⟨_, rfl⟩
  rw [hd, hs', hz']
  have HT : Hid (∀ e w' F', e = .returned (.int .i64 d) → PX w' p m V q s' F' → FZ w' q z' → Upd (Mk p q) w w' → PAsk p m V q d s' z' w e w') := fun e w' F' h1 h2 h3 h4 => ⟨h1, F', h2, h3, h4⟩
  generalize hPP : PAsk p m V q d s' z' w = PP at *
  cases B with
  | true =>
    obtain ⟨e1, e2, e3⟩ := ask_blown s ps hB
    rw [hd] at e1
    rw [hs'] at e2
    rw [hz'] at e3
    subst e1; subst e2; subst e3
    clear hd hs' hz' hPP h hz hb hS hB hr
    go_enter Try.func32, Try.ntmps32
    go_wp2_with fail
    go_at_call 51
    refine cC.mono ?_
    rintro e w1 ⟨rfl, hz1, u1⟩
    have HZ1 : Hid (FZ w1 q (tickO z)) := hz1
    have HU1 : Hid (Upd (fun k => q = some k) w w1) := u1
    clear hz1 u1 cC d0 d3 qM
    go_wp2
    refine HT.out _ _ F rfl ?_ HZ1.out (HU1.out.mono fun k _ e => .inr e)
    refine HD0.out.turn HU1.out (fun k e cur T t => ?_) (fun e => ?_) ?_ rfl HD0.out.wf HD0.out.F0 HD0.out.F1
    · subst e
      obtain ⟨cs, hk⟩ := HZ0.out.type
      rw [t] at hk
      injection hk with hk
      injection hk with _ hk _
      subst hk
      decide
    · exact (fz_off HD0.out HZ0.out e).2 rfl
    · rw [HU1.out.block p HD0.out.lt (fun e => (fz_off HD0.out HZ0.out e).1 rfl)]; exact HD0.out.o
  | false =>
    obtain ⟨e1, e2, e3⟩ := ask_parts z s ps hB
    rw [hd] at e1
    rw [hs'] at e2
    rw [hz'] at e3
    subst e3
    have HDD : Hid (askD s ps = (d, s')) := by unfold Hid; rw [e1, e2]
    clear hd hs' hz' hPP h hz hb hS hB hr e1 e2
    go_enter Try.func32, Try.ntmps32
    go_wp2_with fail
    go_at_call 51
    refine cC.mono ?_
    rintro e w1 ⟨rfl, hz1, u1⟩
    have HZ1 : Hid (FZ w1 q (tickO z)) := hz1
    have HU1 : Hid (Upd (Mk p q) w w1) := u1.mono fun k _ e => .inr e
    have hD1 : PX w1 p m V q s F := by
      refine HD0.out.turn u1 (fun k e cur T t => ?_) (fun e => ?_) ?_ rfl HD0.out.wf HD0.out.F0 HD0.out.F1
      · subst e
        obtain ⟨cs, hk⟩ := HZ0.out.type
        rw [t] at hk
        injection hk with hk
        injection hk with _ hk _
        subst hk
        decide
      · exact (fz_off HD0.out HZ0.out e).2 rfl
      · rw [u1.block p HD0.out.lt (fun e => (fz_off HD0.out HZ0.out e).1 rfl)]; exact HD0.out.o
    have HS1 : Hid (Strs w1 A ps) := fun h0 => by
      obtain ⟨b, o, e, hc⟩ := HS0.out h0
      refine ⟨b, o, e, fun i hi => ?_⟩
      have := hc i hi
      rw [← this]
      exact World.cell?_of_block (w := w) (u1.block b (block_lt_of_cell this) fun e => (by
        obtain ⟨cs, hk⟩ := (show FZ w (some b) z by rw [← e]; exact HZ0.out).type
        cases z with
        | none => have h9 := HZ0.out; rw [e] at h9; exact absurd h9 (by unfold FZ; exact id)
        | some z =>
          have h9 := HZ0.out; rw [e] at h9
          have h8 := cell_of_row w b (o + i) _ _ _ h9.1
          rw [h8] at this
          match o + i, this with
          | 0, t => simp at t
          | 1, t => simp at t
          | k + 2, t => simp at t))
    have HD1 : Hid (PX w1 p m V q s F) := hD1
    clear hz1 u1 cC d0 d3 qM
    have d4 := hD1.c4
    have d5 := hD1.c5
    have f5 := hD1.soft 5
    obtain ⟨hF0, hF1, hF2⟩ : max F 0 = s.bad ∧ -9223372036854775808 ≤ F ∧ F ≤ 9223372036854775807 := ⟨hD1.F0, hD1.F1.1, hD1.F1.2⟩
    clear hD1
    cases ho : s.off with
    | true =>
      rw [ho] at d4
      have HE : Hid (d = 10 ∧ s' = s) := by
        have := HDD.out
        rw [askD_off ho] at this
        injection this with a b
        exact ⟨a.symm, b.symm⟩
      clear ho d5 f5 hF0 hF1 hF2
      go_wp2
      exact HT.out _ _ F (by rw [HE.out.1] <;> rfl) (by rw [HE.out.2]; exact HD1.out) HZ1.out HU1.out
    | false =>
      rw [ho] at d4
      by_cases hb : 0 < F
      · have HE : Hid (d = 9 ∧ s' = { s with bad := s.bad - 1 }) := by
          have := HDD.out
          rw [askD_bad ho (by omega)] at this
          injection this with a b
          exact ⟨a.symm, b.symm⟩
        have wF : IntKind.i64.wrap (F - 1) = F - 1 := by rw [IntKind.wrap_i64]; omega
        have HX : Hid (PX (w1.setCell ⟨p, 5, none⟩ (.int .i64 (F - 1))) p m V q { s with bad := s.bad - 1 } (F - 1)) := by
          have u : Upd (Mk p none) w1 (w1.setCell ⟨p, 5, none⟩ (.int .i64 (F - 1))) := (Upd.refl _ _).put (.inl (.inl rfl)) _
          have W0 := HD1.out.wf
          refine HD1.out.turn u (fun k hk cur T e => ?_) (fun e => ?_) ?_ rfl ⟨W0.n, W0.b, W0.p, W0.m0, W0.m1, by show 0 ≤ s.bad - 1; omega, by show s.bad - 1 ≤ _; omega⟩ (by show max (F - 1) 0 = s.bad - 1; omega) (by omega)
          · rcases hk with rfl | hk
            · rw [HD1.out.o] at e
              injection e with e
              injection e with _ e _
              subst e; decide
            · cases hk
          · rcases e with e | e
            · exact HD1.out.ne e.symm
            · cases e
          · exact heap_setCell_same w1 p 5 _ _ (.int .i64 (F - 1)) HD1.out.o
        have HU : Hid (Upd (Mk p q) w (w1.setCell ⟨p, 5, none⟩ (.int .i64 (F - 1)))) := HU1.out.put (.inl (.inl rfl)) _
        have HZ : Hid (FZ (w1.setCell ⟨p, 5, none⟩ (.int .i64 (F - 1))) q (tickO z)) := HZ1.out.upd (M := Mk p none) ((Upd.refl _ _).put (.inl (.inl rfl)) _) fun k e t => by
          rcases t with t | t
          · exact (fz_off HD1.out HZ1.out e).1 t.symm
          · cases t
        clear ho hF0 hF1 hF2
        go_wp2
        exact HT.out _ _ (F - 1) (by rw [HE.out.1] <;> rfl) (by rw [HE.out.2]; exact HX.out) HZ.out HU.out
      · have HO : Hid (s.off = false) := ho
        have HNB : Hid (¬ 0 < s.bad) := by unfold Hid; omega
        have gb : decide (0 < F) = false := decide_eq_false hb
        clear hb ho f5 hF0 hF1 hF2
        go_wp2_with fail
        go_loopw [40] (fun i wr => ∃ j : Nat, j ≤ ps.length ∧ i = .int .i64 j ∧ (∀ k, k < j → okPath ps[k]! = true) ∧ w1 = wr) (fun i _ => ps.length - (intOf i).toNat)
        case atStart => exact ⟨0, by omega, rfl, fun k hk => absurd hk (by omega), rfl⟩
        case round =>
          obtain ⟨j, hj, rfl, hk, rfl⟩ := hrel
          clear d4 d5 gb
          by_cases hlt : j < ps.length
          · have ij : (j : Int) < (ps.length : Int) := by omega
            obtain ⟨bb, oo, rfl, hA⟩ := HS1.out (by omega)
            have t0 := hA j hlt
            obtain ⟨x, hx⟩ : ∃ x, ps[j]! = x := ⟨_, rfl⟩
            rw [hx] at t0
            have HX : Hid (ps[j]! = x) := hx
            have HK : Hid (∀ k, k < j → okPath ps[k]! = true) := hk
            clear hA hx hk
            by_cases o1 : x.size < 1
            · have i1 : (x.size : Int) < 1 := by omega
              have HE : Hid (d = 1 ∧ s' = s) := by
                have := HDD.out
                rw [askD_no HO.out (by have := HNB.out; omega) (not_ok hlt (by rw [HX.out]; cases e : okPath x with | false => rfl | true => have := okPath_iff.1 e; omega))] at this
                injection this with a b
                exact ⟨a.symm, b.symm⟩
              go_wp2
              exact HT.out _ _ F (by rw [HE.out.1] <;> rfl) (by rw [HE.out.2]; exact HD1.out) HZ1.out HU1.out
            · have i1 : decide ((x.size : Int) < 1) = false := decide_eq_false (by omega)
              by_cases o2 : 600 < x.size
              · have i2 : (600 : Int) < (x.size : Int) := by omega
                have HE : Hid (d = 1 ∧ s' = s) := by
                  have := HDD.out
                  rw [askD_no HO.out (by have := HNB.out; omega) (not_ok hlt (by rw [HX.out]; cases e : okPath x with | false => rfl | true => have := okPath_iff.1 e; omega))] at this
                  injection this with a b
                  exact ⟨a.symm, b.symm⟩
                go_wp2
                exact HT.out _ _ F (by rw [HE.out.1] <;> rfl) (by rw [HE.out.2]; exact HD1.out) HZ1.out HU1.out
              · have i2 : decide ((600 : Int) < (x.size : Int)) = false := decide_eq_false (by omega)
                have HXK : Hid (okPath x = true) := okPath_iff.2 ⟨by omega, by omega⟩
                clear o1 o2
                go_wp2
                go_round
                case rel => exact ⟨j + 1, by omega, by go_num, fun k hk => (by
                  by_cases e : k < j
                  · exact HK.out k e
                  · have : k = j := by omega
                    subst this
                    rw [HX.out]; exact HXK.out), by trivial⟩
                case measure => simp [intOf]; omega
          · have hjn : j = ps.length := by omega
            subst hjn
            have ij : decide ((ps.length : Int) < (ps.length : Int)) = false := by simp
            have HE : Hid (d = 0 ∧ s' = s) := by
              have := HDD.out
              rw [askD_ok HO.out (by have := HNB.out; omega) (all_ok hk)] at this
              injection this with a b
              exact ⟨a.symm, b.symm⟩
            clear hk hlt
            go_wp2
            exact HT.out _ _ F (by rw [HE.out.1] <;> rfl) (by rw [HE.out.2]; exact HD1.out) HZ1.out HU1.out
end Go.Proofs.Ythkhkijdehbbmaa
