/-
  What the document's own MulAdd does: it answers the same row as the table's, in new memory, and changes nothing that was there.
-/
import Derived.Test.YtbfhmdphhhjlnaaMulAdd
import Derived.Deep.AppendLies
namespace Go.Proofs.Ytbfhmdphhhjlnaa
open Go.RowKit Gf
attribute [local go_sem ↓] Go.wp_at_zero Go.wp_at_succ

/-- A slice of n bytes in memory from block B on, not frozen: f 0, f 1 .. -/
def Fresh (B : Nat) (w : World) (a : Option Addr) (n : Nat) (f : Nat → Nat) : Prop :=
  0 < n → ∃ g, a = some ⟨g, 0, none⟩ ∧ B ≤ g ∧ (∀ i, i < n → w.cell? ⟨g, i, none⟩ = some (.int .u8 ((f i : Nat) : Int))) ∧ ∀ i, i < n → w.frozen? ⟨g, i, none⟩ = false

theorem Fresh.row {B : Nat} {w : World} {a : Option Addr} {n : Nat} {f : Nat → Nat} (h : Fresh B w a n f) (hf : ∀ i, f i < 256) : Row w a n f := by
  refine ⟨hf, fun hn => ?_⟩
  obtain ⟨g, e, _, hc, _⟩ := h hn
  exact ⟨g, 0, e, fun i hi => by rw [Nat.zero_add]; exact hc i hi⟩

theorem appended {w : World} {a : Option Addr} {n c : Nat} {f : Nat → Nat} (h : Row w a n f) (hnil : a = none → n = 0 ∧ c = 0) (hn : n ≤ 140737488355328) :
    ∃ a' c' W, Sem.run Try.prog (Builtin.append_ #[30, 30] 30 #[.slice none 0 0, .slice a n c]) w = .ok (.slice a' n c') W ∧ Fresh w.heap.size W a' n f ∧ Below w.heap.size w W := by
  obtain ⟨i, hi, hzz⟩ := Option.map_eq_some_iff.1 info5
  simp only [Prod.mk.injEq] at hzz
  obtain ⟨hz, hs, hb⟩ := hzz
  have h0 := World.ownsRow_nil w w.heap.size 5 1
  cases a with
  | none =>
    obtain ⟨rfl, rfl⟩ := hnil rfl
    exact ⟨none, 0, w, run_append_owned_none (P := Try.prog) w w.heap.size 30 30 5 i 1 Try.underlying30 hi _ 0 [] h0, fun h => absurd h (by omega), Below.refl _ _⟩
  | some ad =>
    obtain ⟨cs, hcs⟩ : ∃ cs, cs = (List.range n).map fun i => Value.int .u8 ((f i : Nat) : Int) := ⟨_, rfl⟩
    have hl : cs.length = n := by rw [hcs]; simp
    have hat : ∀ j, j < n → cs[j]? = some (.int .u8 ((f j : Nat) : Int)) := fun j hj => by rw [hcs]; simp [hj]
    obtain ⟨v', w', hr, hown, hgrow, hnl, hblk⟩ := run_append_own_at (P := Try.prog) w w.heap.size 30 30 5 i (.int .u8 0) 1 1 Try.underlying30 hi hz hs hb rfl (by omega) (.slice none 0 0) 0 [] h0 ad n c cs (by omega)
      (fun j u hu => by
        have hj : j < n := by rw [← hl]; exact (List.getElem?_eq_some_iff.1 hu).1
        rw [hat j hj] at hu; injection hu with hu
        obtain ⟨b, o, e, hc⟩ := h.lies (by omega)
        injection e with e
        subst e
        have e : (⟨b, o, none⟩ : Addr).add j = ⟨b, o + j, none⟩ := by unfold Addr.add; split <;> simp_all
        rw [e, hc j hj, hu]) (fun v hv => by rw [hcs] at hv; simp at hv; obtain ⟨_, _, rfl⟩ := hv; rfl) (by unfold maxLen; omega) (by omega) (Nat.le_refl _)
    have hbel : Below w.heap.size w w' := (Below.refl w.heap.size w).grown hgrow (Nat.le_refl _) (fun k hk => by simp [Value.ownBlock] at hk)
    rw [Nat.zero_add, List.nil_append] at hown
    rcases hown.2 with ⟨e, e0⟩ | ⟨g, cap, cur, e, hg, _⟩
    · subst e0; subst e
      exact ⟨none, 0, w', hr, fun h => absurd h (by omega), hbel⟩
    · subst e
      refine ⟨_, cap, w', hr, fun _ => ⟨g, rfl, hg, fun j hj => ?_, fun j _ => hown.frozenAt j⟩, hbel⟩
      rw [hown.cellAt j (by omega), hat j hj]

/-- At an append whose run is known. -/
theorem wpList_append_ran {P : Program} {w : World} {ops : Array Oper} {rest : List Oper} {o : Oper} {a : Act} {Q : Exit → Act → World → Prop} (hgd : o.guard = none) (s x : Operand) (t : TypeId)
    (ho : o.op = .call { callee := .builtin .append, args := #[s, x], argTypes := #[t, t] }) (u v r : Value) (w' : World) (hs : a.eval s = u) (hx : a.eval x = v)
    (hr : Sem.run P (Builtin.append_ #[t, t] o.type #[u, v]) w = .ok r w') (h : wpList P ops Q rest (a.put o.dst r) w') : wpList P ops Q (o :: rest) a w := by
  refine wpList_plain hgd fun K hK => ?_
  unfold Oper.wp execOp
  simp only [ho, resolve, invoke, builtin, Sem.run_bind, Sem.run_pure, Result.andThen_ok, List.map_toArray, List.map_cons, List.map_nil, hs, hx, hr]
  exact hK _ _ h

set_option maxRecDepth 100000 in
set_option maxHeartbeats 400000 in
theorem rmulAdd_any (c n0 c0 n1 c1 : Nat) (a0 a1 : Option Addr) (f g : Nat → Nat) (w : World) (hc : c < 256) (h0 : Row w a0 n0 f) (h1 : Row w a1 n1 g) (hnil : a0 = none → n0 = 0 ∧ c0 = 0) (l0 : n0 ≤ 140737488355328) (l1 : n1 ≤ 140737488355328) :
    Calls Try.prog 21 #[.slice a0 n0 c0, .slice a1 n1 c1, .int .u8 c] w fun e w' =>
      ∃ a' c', e = .returned (.slice a' n0 c') ∧ Fresh w.heap.size w' a' n0 (fun i => if i < n1 then f i ^^^ M c (g i) else f i) ∧ Below w.heap.size w w' := by
  obtain ⟨a', c', W, happ, hfr, hbel⟩ := appended (c := c0) h0 hnil l0
  have HA : Hid _ := happ
  clear happ
  have HN : Hid _ := hnil
  clear hnil
  go_enter Try.func21, Try.ntmps21
  go_wp2_with (at_builtin; refine wpList_append_ran (by rfl) _ _ 30 (by rfl) _ _ _ _ (by rfl) (by rfl) HA.out ?_)
  clear HA HN
  go_loopw [8] (fun n wr => ∃ k : Nat, k ≤ n0 ∧ k ≤ n1 ∧ n = .int .i64 k ∧ Fresh w.heap.size wr a' n0 (fun i => if i < k then f i ^^^ M c (g i) else f i) ∧ Below w.heap.size w wr) (fun n _ => n0 - (intOf n).toNat)
  case atStart => exact ⟨0, by omega, by omega, rfl, by simpa using hfr, hbel⟩
  case round =>
    obtain ⟨k, hk0, hk1, rfl, hfr0, hbr⟩ := hrel
    clear hfr hbel
    by_cases hlt0 : k < n0
    · by_cases hlt1 : k < n1
      · obtain ⟨q, rfl, hq, hcr, hsr⟩ := hfr0 (by omega)
        dsimp only at hcr
        clear hfr0
        have hg := h1.keep hbr
        obtain ⟨b1, o1, rfl, hgc⟩ := hg.lies (by omega)
        have hgk := hgc k hlt1
        have hfk := hcr k hlt0
        rw [if_neg (by omega)] at hfk
        have hsk := hsr k hlt0
        have lf := h0.lt k
        have lg := h1.lt k
        have cM := fun w => rmul_any (g k) c w lg hc
        rw [M_comm lg hc] at cM
        have lM := M_lt (g k) hc
        have lx := xor_lt lf lM
        have hi0 : (k : Int) < (n0 : Int) := by omega
        have hi1 : (k : Int) < (n1 : Int) := by omega
        clear hg hgc
        generalize hM : M c (g k) = m at *
        have HM : Hid (M c (g k) = m) := hM
        clear hM
        have hxx : bits .xor .u8 ((f k : Nat) : Int) (m : Int) = ((f k ^^^ m : Nat) : Int) := u8_xor_nat _ _ lf lM
        have HS : Hid (∀ n, ∀ i, i < n0 → ((wr.drewN n).setCell ⟨q, k, none⟩ (.int .u8 ((f k ^^^ m : Nat) : Int))).cell? ⟨q, i, none⟩ = some (.int .u8 ((if i < k + 1 then f i ^^^ M c (g i) else f i : Nat) : Int))) := by
          intro n i hi
          by_cases e : i = k
          · subst e
            rw [cell_same (w := wr.drewN n) (u := .int .u8 ((f i : Nat) : Int)) hfk, if_pos (by omega), HM.out]
          · rw [cell_other (by omega), show (wr.drewN n).cell? ⟨q, i, none⟩ = wr.cell? ⟨q, i, none⟩ from rfl, hcr i hi]
            by_cases l : i < k
            · rw [if_pos l, if_pos (by omega)]
            · rw [if_neg l, if_neg (by omega)]
        clear hcr
        go_wp2
        go_region_with (first | (go_at_call 40; refine (cM _).mono ?_; rintro e w' ⟨rfl, rfl⟩))
        all_goals
          go_wp2
          go_round
          case rel => exact ⟨k + 1, by omega, by omega, by go_num, fun _ => ⟨q, rfl, hq, HS.out 0, fun i hi => by show (wr.setCell ⟨q, k, none⟩ _).frozen? ⟨q, i, none⟩ = false; rw [World.frozen?_setCell]; exact hsr i hi⟩, (hbr.setCell hq _).drew⟩
          case measure => simp [intOf]; omega
      · have e : k = n1 := by omega
        subst e
        have hd : decide ((k : Int) < (k : Int)) = false := by simp
        go_wp2
        go_ret
        exact ⟨a', c', rfl, hfr0, hbr⟩
    · have HE : Hid (Fresh w.heap.size wr a' n0 (fun i => if i < n1 then f i ^^^ M c (g i) else f i)) := by
        intro hn
        obtain ⟨q, e, hq, hcr, hsr⟩ := hfr0 hn
        refine ⟨q, e, hq, fun i hi => ?_, hsr⟩
        rw [hcr i hi]
        dsimp only
        rw [if_pos (by omega), if_pos (by omega)]
      clear hfr0
      go_wp2
      go_ret
      exact ⟨a', c', rfl, HE.out, hbr⟩
end Go.Proofs.Ytbfhmdphhhjlnaa
