/-
  The document's own MulAdd once more: its answer is a new row, nil where it has no bytes.
-/
import Derived.Test.YtbfhmdphhhjlnaaLw
namespace Go.Proofs.Ytbfhmdphhhjlnaa
open Go.RowKit Gf
attribute [local go_sem ↓] Go.wp_at_zero Go.wp_at_succ

/-- At a step of a region: an append whose run is known. -/
theorem step_append_ran {P : Program} {w : World} {ops : Array Oper} {o : Oper} {a : Act} {K : Act → World → Prop} {Q : Exit → Act → World → Prop} {E : Prop} (hgd : o.guard = none) (s x : Operand) (t : TypeId)
    (ho : o.op = .call { callee := .builtin .append, args := #[s, x], argTypes := #[t, t] }) (u v r : Value) (w' : World) (hs : a.eval s = u) (hx : a.eval x = v)
    (hr : Sem.run P (Builtin.append_ #[t, t] o.type #[u, v]) w = .ok r w') (h : K (a.put o.dst r) w') :
    if Region.wanted o (yielded ops a.tmps) = true then Oper.wp P o a w K Q else E := by
  have hw : Region.wanted o (yielded ops a.tmps) = true := by simp [Region.wanted, hgd]
  rw [if_pos hw]
  unfold Oper.wp execOp
  simp only [ho, resolve, invoke, builtin, Sem.run_bind, Sem.run_pure, Result.andThen_ok, List.map_toArray, List.map_cons, List.map_nil, hs, hx, hr]
  exact h

set_option maxRecDepth 100000 in
theorem rmulAdd_zero (k c0 n1 c1 : Nat) (a0 a1 : Option Addr) (w : World) (hnil : a0 = none → c0 = 0) :
    Calls Try.prog 21 #[.slice a0 (0 : Nat) c0, .slice a1 n1 c1, .int .u8 (k : Int)] w fun e w' => ∃ a' c', e = .returned (.slice a' (0 : Nat) c') ∧ (a' = none → c' = 0) ∧ (∀ ad, a' = some ad → w.heap.size ≤ ad.block) ∧ Below w.heap.size w w' := by
  obtain ⟨a', c', W, hr, hnew, hb⟩ := appended0 (c := c0) (f := fun _ => 0) (n := 0) (a := a0) (w := w) ⟨fun _ => by omega, fun h => absurd h (by omega)⟩ (fun e => ⟨rfl, hnil e⟩) (by omega)
  have HA : Hid _ := hr
  have HN : Hid (a' = none → c' = 0) := fun e => (hnew.nil e).2
  have HK : Hid (∀ ad, a' = some ad → w.heap.size ≤ ad.block) := fun ad e => (hnew.blk ad e).2.1
  clear hr hnew hnil
  go_enter Try.func21, Try.ntmps21
  go_wp2_with (at_builtin; refine wpList_append_ran (by rfl) _ _ 30 (by rfl) _ _ _ _ (by rfl) (by rfl) HA.out ?_)
  clear HA
  go_loopw [8] (fun v wr => v = .int .i64 0 ∧ wr = W) (fun _ _ => 0)
  case atStart => exact ⟨rfl, rfl⟩
  case round =>
    obtain ⟨rfl, rfl⟩ := hrel
    go_wp2
    go_ret
    exact ⟨a', c', rfl, HN.out, HK.out, hb⟩

/-- A new row of n bytes; where there is none, nil has no room. -/
theorem radd_any (k n0 c0 n1 c1 : Nat) (a0 a1 : Option Addr) (f g : Nat → Nat) (w : World) (hk : k < 256) (h0 : Row w a0 n0 f) (h1 : Row w a1 n1 g) (hnil : a0 = none → n0 = 0 ∧ c0 = 0) (l0 : n0 ≤ 140737488355328) (l1 : n1 ≤ 140737488355328) :
    Calls Try.prog 21 #[.slice a0 n0 c0, .slice a1 n1 c1, .int .u8 (k : Int)] w fun e w' => ∃ a' c', e = .returned (.slice a' n0 c') ∧ Row w' a' n0 (fun i => if i < n1 then f i ^^^ M k (g i) else f i) ∧ (a' = none → n0 = 0 ∧ c' = 0) ∧ (∀ ad, a' = some ad → w.heap.size ≤ ad.block) ∧ Below w.heap.size w w' := by
  have hlt : ∀ i, (if i < n1 then f i ^^^ M k (g i) else f i) < 256 := fun i => by
    split
    · exact xor_lt (h0.lt i) (M_lt _ hk)
    · exact h0.lt i
  by_cases hz : n0 = 0
  · subst hz
    refine (rmulAdd_zero k c0 n1 c1 a0 a1 w (fun e => (hnil e).2)).mono ?_
    rintro e w' ⟨a', c', rfl, h, hk, hb⟩
    exact ⟨a', c', rfl, ⟨hlt, fun q => absurd q (by omega)⟩, fun e => ⟨rfl, h e⟩, hk, hb⟩
  · refine (rmulAdd_any k n0 c0 n1 c1 a0 a1 f g w hk h0 h1 hnil l0 l1).mono ?_
    rintro e w' ⟨a', c', rfl, hf, hb⟩
    have hn := fresh_new (c := c') hf hlt (fun q => absurd q hz)
    exact ⟨a', c', rfl, hn.row, hn.nil, fun ad e => (hn.blk ad e).2.1, hb⟩
end Go.Proofs.Ytbfhmdphhhjlnaa
