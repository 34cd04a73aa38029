/-
  What the document's own MulAdd does: it answers the same row as the table's, in new memory, and changes nothing that was there.
-/
import Derived.Test.YtbfhmdphhhjlnabMulAdd
import Derived.Deep.AppendLies
namespace Go.Proofs.Ytbfhmdphhhjlnab
open Go.RowKit Gf
attribute [local go_sem ↓] Go.wp_at_zero Go.wp_at_succ

/-- A slice of n bytes in memory from block B on, not frozen: f 0, f 1 .. -/
def Fresh (B : Nat) (w : World) (a : Option Addr) (n : Nat) (f : Nat → Nat) : Prop :=
  0 < n → ∃ g, a = some ⟨g, 0, none⟩ ∧ B ≤ g ∧ (∀ i, i < n → w.cell? ⟨g, i, none⟩ = some (.int .u8 ((f i : Nat) : Int))) ∧ ∀ i, i < n → w.frozen? ⟨g, i, none⟩ = false

theorem Fresh.row {B : Nat} {w : World} {a : Option Addr} {n : Nat} {f : Nat → Nat} (h : Fresh B w a n f) (hf : ∀ i, f i < 256) : Row w a n f := by
  refine ⟨hf, fun hn => ?_⟩
  obtain ⟨g, e, _, hc, _⟩ := h hn
  exact ⟨g, 0, e, fun i hi => by rw [Nat.zero_add]; exact hc i hi⟩

theorem appended {w : World} {a : Option Addr} {n c : Nat} {f : Nat → Nat} (h : Row w a n f) (hnil : a = none → n = 0 ∧ c = 0) (hn : n ≤ 140737488355328) :
    ∃ a' c' W, Sem.run Try.prog (Builtin.append_ #[31, 31] 31 #[.slice none 0 0, .slice a n c]) w = .ok (.slice a' n c') W ∧ Fresh w.heap.size W a' n f ∧ Below w.heap.size w W := by
  obtain ⟨i, hi, hzz⟩ := Option.map_eq_some_iff.1 info5
  simp only [Prod.mk.injEq] at hzz
  obtain ⟨hz, hs, hb⟩ := hzz
  have h0 := World.ownsRow_nil w w.heap.size 5 1
  cases a with
  | none =>
    obtain ⟨rfl, rfl⟩ := hnil rfl
    exact ⟨none, 0, w, run_append_owned_none (P := Try.prog) w w.heap.size 31 31 5 i 1 Try.underlying31 hi _ 0 [] h0, fun h => absurd h (by omega), Below.refl _ _⟩
  | some ad =>
    obtain ⟨cs, hcs⟩ : ∃ cs, cs = (List.range n).map fun i => Value.int .u8 ((f i : Nat) : Int) := ⟨_, rfl⟩
    have hl : cs.length = n := by rw [hcs]; simp
    have hat : ∀ j, j < n → cs[j]? = some (.int .u8 ((f j : Nat) : Int)) := fun j hj => by rw [hcs]; simp [hj]
    obtain ⟨v', w', hr, hown, hgrow, hnl, hblk⟩ := run_append_own_at (P := Try.prog) w w.heap.size 31 31 5 i (.int .u8 0) 1 1 Try.underlying31 hi hz hs hb rfl (by omega) (.slice none 0 0) 0 [] h0 ad n c cs (by omega)
      (fun j u hu => by
        have hj : j < n := by rw [← hl]; exact (List.getElem?_eq_some_iff.1 hu).1
        rw [hat j hj] at hu; injection hu with hu
        obtain ⟨b, o, e, hc⟩ := h.lies (by omega)
        injection e with e
        subst e
        have e : (⟨b, o, none⟩ : Addr).add j = ⟨b, o + j, none⟩ := by unfold Addr.add; split <;> simp_all
        rw [e, hc j hj, hu]) (fun v hv => by rw [hcs] at hv; simp at hv; obtain ⟨_, _, rfl⟩ := hv; rfl) (by unfold maxLen; omega) (by omega) (Nat.le_refl _)
    have hbel : Below w.heap.size w w' := (Below.refl w.heap.size w).grown hgrow (Nat.le_refl _) (fun k hk => by simp [Value.ownBlock] at hk)
    rw [Nat.zero_add, List.nil_append] at hown
    rcases hown.2 with ⟨e, e0⟩ | ⟨g, cap, cur, e, hg, _⟩
    · subst e0; subst e
      exact ⟨none, 0, w', hr, fun h => absurd h (by omega), hbel⟩
    · subst e
      refine ⟨_, cap, w', hr, fun _ => ⟨g, rfl, hg, fun j hj => ?_, fun j _ => hown.frozenAt j⟩, hbel⟩
      rw [hown.cellAt j (by omega), hat j hj]

/-- At an append whose run is known. -/
theorem wpList_append_ran {P : Program} {w : World} {ops : Array Oper} {rest : List Oper} {o : Oper} {a : Act} {Q : Exit → Act → World → Prop} (hgd : o.guard = none) (s x : Operand) (t : TypeId)
    (ho : o.op = .call { callee := .builtin .append, args := #[s, x], argTypes := #[t, t] }) (u v r : Value) (w' : World) (hs : a.eval s = u) (hx : a.eval x = v)
    (hr : Sem.run P (Builtin.append_ #[t, t] o.type #[u, v]) w = .ok r w') (h : wpList P ops Q rest (a.put o.dst r) w') : wpList P ops Q (o :: rest) a w := by
  refine wpList_plain hgd fun K hK => ?_
  unfold Oper.wp execOp
  simp only [ho, resolve, invoke, builtin, Sem.run_bind, Sem.run_pure, Result.andThen_ok, List.map_toArray, List.map_cons, List.map_nil, hs, hx, hr]
  exact hK _ _ h

end Go.Proofs.Ytbfhmdphhhjlnab
