/-
  Texts of earlier stages, one behind the other: SdL, SdA.
-/
import Derived.Test.YtebngmgdciahiaaGreatDoorProg
import Derived.Deep.RegionHeld3
import Derived.StillTail
import Derived.Test.YtebngmgdciahiaaGreatDoorG3
import Derived.Test.YtebngmgdciahiaaGreatDoorG2
set_option maxRecDepth 100000
namespace Go.Proofs.YtebngmgdciahiaaGreatDoor
open Go
section
variable {P : Program} {ops : Array Oper} {Q : Exit → Act → World → Prop} {md : Region.Mode} {S : World → Prop} {z : Nat}

/-- Whatever order is picked from here on, and S holds behind every operation that is carried out but z. -/
def anyL (P : Program) (md : Region.Mode) (ops : Array Oper) (Q : Exit → Act → World → Prop) (S : World → Prop) (z : Nat) : Nat → Array Bool → Act → World → Prop
  | 0, listed, a, w => Region.ready md ops listed = [] ∧ Q .normal a w
  | fuel + 1, listed, a, w =>
    (Region.ready md ops listed = [] → Q .normal a w) ∧
    ∀ i ∈ Region.ready md ops listed, wpOp P ops Q i (fun a' w' => (i ≠ z → S w') ∧ anyL P md ops Q S z fuel (listed.setIfInBounds i true) a' w') a w

theorem any_of_L : ∀ (fuel : Nat) (listed : Array Bool) (a : Act) (w : World), anyL P md ops Q S z fuel listed a w → wpAny P md ops Q fuel listed a w
  | 0, _, _, _, h => h
  | fuel + 1, _, _, _, h => ⟨h.1, fun i hi => wpOp_mono (fun a' w' h' => any_of_L fuel _ a' w' h'.2) (h.2 i hi)⟩

theorem anyL_first {i : Nat} {oi : Oper} {v : Value} (hi : ops[i]? = some oi) (hz : Region.waitsFor md ops z i = true)
    (hsel : ∀ (j : Nat) (o : Oper) cs b, ops[j]? = some o → o.op ≠ .select cs b)
    (hQ : ∀ c a w, Q (.panic c) (a.put oi.dst v) w → Q (.panic c) a w) :
    ∀ (fuel : Nat) (listed : Array Bool) (a : Act) (w : World),
      (∀ j oj, ops[j]? = some oj → j ≠ i → listed.getD j true = false → (∀ e ∈ oj.after, Region.binds md e = true → e.on ≠ i) → oi.apart ops oj = true) →
      i ∈ Region.ready md ops listed → YieldsIf P ops S oi v a → S w →
      anyL P md ops Q S z fuel (listed.setIfInBounds i true) (a.put oi.dst v) w → anyL P md ops Q S z (fuel + 1) listed a w := by
  intro fuel
  induction fuel with
  | zero =>
    intro listed a w _ hr hy hS H
    refine ⟨fun h => (by rw [h] at hr; cases hr), fun j hj => ?_⟩
    by_cases hji : j = i
    · subst hji; exact hy.wpOp hi hS ⟨fun _ => hS, H⟩
    · have := ready_mono hj hji
      rw [H.1] at this
      cases this
  | succ fuel ih =>
    intro listed a w hfree hr hy hS H
    refine ⟨fun h => (by rw [h] at hr; cases hr), fun j hj => ?_⟩
    by_cases hji : j = i
    · subst hji; exact hy.wpOp hi hS ⟨fun _ => hS, H⟩
    · have h1 := H.2 j (ready_mono hj hji)
      obtain ⟨hjun, oj, hoj, hall⟩ := mem_ready.1 hj
      have hnot : ∀ e ∈ oj.after, Region.binds md e = true → e.on ≠ i := fun e he hb heq => by
        have h1 := hall e he hb
        have h0 := (mem_ready.1 hr).1
        rw [heq] at h1
        rcases Nat.lt_or_ge i listed.size with h' | h'
        · simp [h'] at h0 h1; rw [h0] at h1; cases h1
        · simp [Array.getElem?_eq_none h'] at h1
      have hjz : j ≠ z := fun e => by
        subst e
        obtain ⟨o', ho', e, he, hb, hon⟩ := Region.waitsFor_spec hz
        rw [hoj] at ho'
        injection ho' with ho'
        subst ho'
        exact hnot e he hb hon
      have h2 := wpOp_putIf hoj (hfree j oj hoj hji hjun hnot) (fun cs b => hsel i oi cs b hi) (fun cs b => hsel j oj cs b hoj) hQ hy h1
      have hfree' : ∀ k ok, ops[k]? = some ok → k ≠ i → (listed.setIfInBounds j true).getD k true = false →
          (∀ e ∈ ok.after, Region.binds md e = true → e.on ≠ i) → oi.apart ops ok = true := fun k ok hk hki hun hno => by
        refine hfree k ok hk hki ?_ hno
        by_cases hjk : j = k
        · subst hjk; exact hjun
        · rw [getD_set_ne true hjk] at hun; exact hun
      refine wpOp_mono (fun a' w' h3 => ⟨fun _ => h3.2.1 hjz, ih (listed.setIfInBounds j true) a' w' hfree' (ready_mono hr (Ne.symm hji)) h3.1 (h3.2.1 hjz) ?_⟩) h2
      rw [Array.setIfInBounds_comm _ _ hji]
      exact h3.2.2

/-- Number i first. -/
theorem anyL_take (i : Nat) {oi : Oper} {v : Value} {fuel : Nat} {listed : Array Bool} {a : Act} {w : World} (hi : ops[i]? = some oi)
    (hz : Region.waitsFor md ops z i = true)
    (hs : Region.noSelect ops = true) (hf : Region.free md ops listed i = true) (hr : (Region.ready md ops listed).contains i = true)
    (hQ : ∀ c a w, Q (.panic c) (a.put oi.dst v) w → Q (.panic c) a w) (hy : YieldsIf P ops S oi v a) (hS : S w)
    (h : anyL P md ops Q S z fuel (listed.setIfInBounds i true) (a.put oi.dst v) w) : anyL P md ops Q S z (fuel + 1) listed a w :=
  anyL_first hi hz (Region.noSelect_spec hs) hQ fuel listed a w (Region.free_spec hi hf) (by simpa using hr) hy hS h

theorem anyL_done {listed : Array Bool} {a : Act} {w : World} (hr : Region.ready md ops listed = []) (h : Q .normal a w) :
    ∀ fuel, anyL P md ops Q S z fuel listed a w
  | 0 => ⟨hr, h⟩
  | _ + 1 => ⟨fun _ => h, by rw [hr]; simp⟩

/-- One operation, behind which S is shown. -/
theorem anyL_op {o : Oper} {i : Nat} {fuel : Nat} {listed : Array Bool} {a : Act} {w : World} (ho : ops[i]? = some o)
    (h : ∀ K' : Act → World → Prop, Shut (∀ a w, S w → anyL P md ops Q S z fuel (listed.setIfInBounds i true) a w → K' a w) → if Region.wanted o (yielded ops a.tmps) = true then Oper.wp P o a w K' Q else K' (a.put o.dst undef) w) :
    wpOp P ops Q i (fun a' w' => (i ≠ z → S w') ∧ anyL P md ops Q S z fuel (listed.setIfInBounds i true) a' w') a w :=
  wpOp_step ho (fun K' hK => h K' (fun a w hS hW => hK a w ⟨fun _ => hS, hW⟩))
/-- The one that may come up. -/
theorem anyL_one {o : Oper} (i : Nat) {fuel : Nat} {listed : Array Bool} {a : Act} {w : World} (ho : ops[i]? = some o) (hr : Region.ready md ops listed = [i])
    (h : ∀ K' : Act → World → Prop, Shut (∀ a w, S w → anyL P md ops Q S z fuel (listed.setIfInBounds i true) a w → K' a w) → if Region.wanted o (yielded ops a.tmps) = true then Oper.wp P o a w K' Q else K' (a.put o.dst undef) w) :
    anyL P md ops Q S z (fuel + 1) listed a w :=
  ⟨fun h0 => (by rw [hr] at h0; cases h0), fun j hj => by
    rw [hr] at hj
    have hj : j = i := by simpa using hj
    subst hj
    exact anyL_op ho h⟩
/-- The two that may come up. -/
theorem anyL_two {o o' : Oper} (i j : Nat) {fuel : Nat} {listed : Array Bool} {a : Act} {w : World} (ho : ops[i]? = some o) (ho' : ops[j]? = some o') (hr : Region.ready md ops listed = [i, j])
    (h : ∀ K' : Act → World → Prop, Shut (∀ a w, S w → anyL P md ops Q S z fuel (listed.setIfInBounds i true) a w → K' a w) → if Region.wanted o (yielded ops a.tmps) = true then Oper.wp P o a w K' Q else K' (a.put o.dst undef) w)
    (h' : ∀ K' : Act → World → Prop, Shut (∀ a w, S w → anyL P md ops Q S z fuel (listed.setIfInBounds j true) a w → K' a w) → if Region.wanted o' (yielded ops a.tmps) = true then Oper.wp P o' a w K' Q else K' (a.put o'.dst undef) w) :
    anyL P md ops Q S z (fuel + 1) listed a w :=
  ⟨fun h0 => (by rw [hr] at h0; cases h0), fun k hk => by
    rw [hr] at hk
    have hk : k = i ∨ k = j := by simpa using hk
    rcases hk with rfl | rfl
    · exact anyL_op ho h
    · exact anyL_op ho' h'⟩
/-- z, behind which nothing is asked. -/
theorem anyL_last {o : Oper} {fuel : Nat} {listed : Array Bool} {a : Act} {w : World} (ho : ops[z]? = some o) (hr : Region.ready md ops listed = [z])
    (h : ∀ K' : Act → World → Prop, Shut (∀ a w, anyL P md ops Q S z fuel (listed.setIfInBounds z true) a w → K' a w) → if Region.wanted o (yielded ops a.tmps) = true then Oper.wp P o a w K' Q else K' (a.put o.dst undef) w) :
    anyL P md ops Q S z (fuel + 1) listed a w :=
  ⟨fun h0 => (by rw [hr] at h0; cases h0), fun j hj => by
    rw [hr] at hj
    have hj : j = z := by simpa using hj
    subst hj
    exact wpOp_step ho (fun K' hK => h K' (fun a w hW => hK a w ⟨fun e => absurd rfl e, hW⟩))⟩
theorem region_L {id : Nat} {a : Act} {w : World} (S : World → Prop) (z : Nat) (hm : P.follows .mixedOrders = true) (hS : S w.drew)
    (h : S w.drew → anyL P .any ops Q S z ops.size (Array.replicate ops.size false) a w.drew) : (Code.region id ops true).wp P Q a w :=
  wp_region_any hm (any_of_L _ _ _ _ (h hS))
end
end Go.Proofs.YtebngmgdciahiaaGreatDoor

namespace Go.Proofs.YtebngmgdciahiaaGreatDoor
open Go.RowKit
open _root_.Go.Proofs.YtebngmgdciahiaaGreatDoor.Nm _root_.Go.Proofs.YtebngmgdciahiaaGreatDoor.Dk
attribute [local go_sem ↓] Go.wp_at_zero Go.wp_at_succ
set_option linter.unusedVariables false

/-- A file as a literal, in a block of its own. -/
def lF (y : Fv) : Obj := .cells #[.string y.path, .slice y.bv.1 y.bv.2.1 y.bv.2.2, .bool y.sure] 130
/-- What a file put in between leaves. -/
def InsEnd (w : World) (p : Nat) (L : List Fv) (q : Option Nat) (s : St) (i : Nat) (y : Fv) (W : World) : Prop :=
  ∃ a' c', DX W p a' c' (L.take i ++ [y] ++ L.drop i) q { s with fs := s.fs.take i ++ fl y :: s.fs.drop i } ∧ Upd (Mk p none) w W ∧ (∀ x, a' = some x → w.heap.size ≤ x.block)
theorem grown_none {w W : World} {v : Value} (g : w.grownBy W v.ownBlock) (h : v.ownBlock = none) : Below w.heap.size w W := ⟨g.os, g.tape, g.output, g.size, fun k hk => g.block k hk (by rw [h]; simp)⟩
section
variable {w : World} {p : Nat} {a : Option Addr} {c : Nat} {L : List Fv} {q : Option Nat} {s : St} {i : Nat} {y : Fv}
/-- The two later appends. -/
theorem ins_from (h : DX w p a c L q s) (hi : i ≤ L.length) (hy : BO w y) (hyb : y.b.size ≤ 262144) (hyp : y.path.size ≤ 600) (hn : s.fs.length < 4096) {A2 : Option Addr} (f2 : Fs w A2 (L.drop i)) (z2 : A2 = none → L.length - i = 0 ∧ c - i = 0)
    {X2 : World} {v1 : Value} {g8 : Nat} (b1 : Below w.heap.size w X2) (o1 : FOwn X2 w.heap.size v1 (L.take i)) (l8 : Fs X2 (some ⟨g8, 0, none⟩) [y]) :
    ∃ v2 W2 a' N c' W3, Sem.run Tryz.prog (Builtin.append_ #[113, 113] 113 #[v1, .slice (some ⟨g8, 0, none⟩) 1 1]) X2 = .ok v2 W2 ∧
      Sem.run Tryz.prog (Builtin.append_ #[113, 113] 113 #[v2, .slice A2 (L.length - i) (c - i)]) W2 = .ok (.slice a' N c') W3 ∧ Below w.heap.size w W2 ∧ Below w.heap.size w W3 ∧ InsEnd w p L q s i y (W3.setCell ⟨p, 0, none⟩ (.slice a' N c')) := by
  have hL := h.n
  have l1 : (L.take i).length = i := by rw [List.length_take, Nat.min_eq_left hi]
  have l2 : (L.drop i).length = L.length - i := List.length_drop
  obtain ⟨v2, W2, r2, o2, g2, b2⟩ := appendF (c := 1) o1 l8 (fun e => by cases e) (by rw [l1]; show i + 1 ≤ _; omega) b1.size
  have bw2 := b1.trans b2
  obtain ⟨v3, W3, r3, o3, g3, b3⟩ := appendF (c := c - i) o2 (f2.keep bw2) (by rw [l2]; exact z2) (by rw [List.length_append, l1, l2]; show i + 1 + _ ≤ _; omega) bw2.size
  rw [l2] at r3
  have bw3 := bw2.trans b3
  obtain ⟨a', c', ev, _⟩ := o3.row
  subst ev
  have hfl : s.fs.take i ++ fl y :: s.fs.drop i = (L.take i ++ [y] ++ L.drop i).map fl := by
    rw [h.f, List.map_append, List.map_append, List.map_take, List.map_drop, List.append_assoc]; rfl
  have hmem : ∀ f ∈ s.fs.take i ++ fl y :: s.fs.drop i, f = fl y ∨ f ∈ s.fs := fun f hf => by
    rcases List.mem_append.1 hf with k | k
    · exact .inr (List.mem_of_mem_take k)
    · rcases List.mem_cons.1 k with k | k
      · exact .inl k
      · exact .inr (List.mem_of_mem_drop k)
  have hR := h.relist bw3 o3 (fun x hx => by
    rcases List.mem_append.1 hx with k | k
    · rcases List.mem_append.1 k with k | k
      · exact (h.b x (List.mem_of_mem_take k)).keep bw3
      · rw [List.mem_singleton] at k
        subst k; exact hy.keep bw3
    · exact (h.b x (List.mem_of_mem_drop k)).keep bw3) (by
    rw [← hfl]
    refine ⟨?_, fun f hf => ?_, fun f hf => ?_, h.wf.m0, h.wf.m1, h.wf.b0, h.wf.b1⟩
    · show (s.fs.take i ++ fl y :: s.fs.drop i).length ≤ 4096
      rw [List.length_append, List.length_cons, List.length_take, List.length_drop]; omega
    · rcases hmem f hf with k | k
      · subst k; exact hyb
      · exact h.wf.b f k
    · rcases hmem f hf with k | k
      · subst k; exact hyp
      · exact h.wf.p f k)
  rw [← hfl] at hR
  exact ⟨v2, W2, a', _, c', W3, r2, r3, bw2, bw3, a', c', hR.1, hR.2.1, hR.2.2⟩
/-- The three appends, the literal behind the first or ahead of it. -/
theorem ins_any (h : DX w p a c L q s) (hi : i ≤ L.length) (hy : BO w y) (hyb : y.b.size ≤ 262144) (hyp : y.path.size ≤ 600) (hn : s.fs.length < 4096) :
    ∃ A1 A2, (∀ w', Sem.run Tryz.prog (Instr.slice 113 (.slice a L.length c) none (some (.int .i64 (i : Int))) none) w' = .ok (.slice A1 i c) w') ∧ (∀ w', Sem.run Tryz.prog (Instr.slice 113 (.slice a L.length c) (some (.int .i64 (i : Int))) none none) w' = .ok (.slice A2 (L.length - i) (c - i)) w') ∧
      (∃ v1 W1 v2 W2 a' N c' W3, Sem.run Tryz.prog (Builtin.append_ #[113, 113] 113 #[.slice none 0 0, .slice A1 i c]) w.drew = .ok v1 W1 ∧
        Sem.run Tryz.prog (Builtin.append_ #[113, 113] 113 #[v1, .slice (some ⟨W1.heap.size, 0, none⟩) 1 1]) (W1.alloc (lF y)) = .ok v2 W2 ∧
        Sem.run Tryz.prog (Builtin.append_ #[113, 113] 113 #[v2, .slice A2 (L.length - i) (c - i)]) W2 = .ok (.slice a' N c') W3 ∧ Below w.heap.size w W1 ∧ Below w.heap.size w W2 ∧ Below w.heap.size w W3 ∧ InsEnd w p L q s i y (W3.setCell ⟨p, 0, none⟩ (.slice a' N c'))) ∧
      (∃ v1 W1 v2 W2 a' N c' W3, Sem.run Tryz.prog (Builtin.append_ #[113, 113] 113 #[.slice none 0 0, .slice A1 i c]) (w.alloc (lF y)).drew = .ok v1 W1 ∧
        Sem.run Tryz.prog (Builtin.append_ #[113, 113] 113 #[v1, .slice (some ⟨w.heap.size, 0, none⟩) 1 1]) W1 = .ok v2 W2 ∧
        Sem.run Tryz.prog (Builtin.append_ #[113, 113] 113 #[v2, .slice A2 (L.length - i) (c - i)]) W2 = .ok (.slice a' N c') W3 ∧ Below w.heap.size w W1 ∧ Below w.heap.size w W2 ∧ Below w.heap.size w W3 ∧ InsEnd w p L q s i y (W3.setCell ⟨p, 0, none⟩ (.slice a' N c'))) := by
  have hL := h.n
  obtain ⟨hf, hz, hlc, _⟩ := h.rows
  obtain ⟨A1, s1, f1, z1⟩ := hf.first hz (m := i) hi hlc
  obtain ⟨A2, s2, f2, z2⟩ := hf.rest hz (t := i) hi hlc
  have l1 : (L.take i).length = i := by rw [List.length_take, Nat.min_eq_left hi]
  have bE : Below w.heap.size w w.drew := (Below.refl _ _).drew
  have bF : Below w.heap.size w (w.alloc (lF y)).drew := (bal w (lF y)).drew
  refine ⟨A1, A2, s1, s2, ?_, ?_⟩
  · obtain ⟨v1, W1, r1, o1, g1, b1⟩ := appendF (c := c) (FOwn.start w.drew w.heap.size) (f1.keep bE) (by rw [l1]; exact z1) (by rw [l1]; simp; omega) bE.size
    rw [l1] at r1
    rw [List.nil_append] at o1
    have bw1 := bE.trans b1
    obtain ⟨v2, W2, a', N, c', W3, r2, r3, k2, k3, k⟩ := ins_from h hi hy hyb hyp hn f2 z2 (X2 := W1.alloc (lF y)) (bw1.trans ((bal W1 (lF y)).mono bw1.size)) (o1.keep (bal W1 (lF y))) (litF W1 y)
    exact ⟨v1, W1, v2, W2, a', N, c', W3, r1, r2, r3, bw1, k2, k3, k⟩
  · obtain ⟨v1, W1, r1, o1, g1, b1⟩ := appendF (c := c) (FOwn.start (w.alloc (lF y)).drew w.heap.size) (f1.keep bF) (by rw [l1]; exact z1) (by rw [l1]; simp; omega) bF.size
    rw [l1] at r1
    rw [List.nil_append] at o1
    have bw1 := bF.trans b1
    have gn := grown_none g1 rfl
    have hl : Fs (w.alloc (lF y)).drew (some ⟨w.heap.size, 0, none⟩) [y] := (litF w y).keep (Below.refl _ _).drew
    obtain ⟨v2, W2, a', N, c', W3, r2, r3, k2, k3, k⟩ := ins_from h hi hy hyb hyp hn f2 z2 (X2 := W1) bw1 o1 (hl.keep gn)
    exact ⟨v1, W1, v2, W2, a', N, c', W3, r1, r2, r3, bw1, k2, k3, k⟩
end
/-- A fuse that is elsewhere stays. -/
theorem Zs.beside {M : Nat → Prop} {w w' : World} {q : Option Nat} {z : Option Fz} (h : Zs w q z) (u : Upd M w w') (hm : ∀ k, q = some k → ¬ M k) : Zs w' q z := by
  cases q with
  | none => cases z with
    | none => trivial
    | some y => exact absurd h (by unfold Zs; exact id)
  | some k =>
    cases z with
    | none => exact absurd h (by unfold Zs; exact id)
    | some y =>
      unfold Zs at *
      dsimp only at *
      rw [u.block k (Array.getElem?_eq_some_iff.1 h).1 (hm k rfl)]
      exact h
theorem Zs.type {w : World} {k : Nat} {z : Option Fz} (h : Zs w (some k) z) : ∃ cs, w.heap[k]? = some (.cells cs 67 (0, 0)) := by
  cases z with
  | none => exact absurd h (by unfold Zs; exact id)
  | some y => exact ⟨_, h⟩
/-- Bytes of one's own as a slice. -/
theorem bts_slice {w : World} {base : Nat} {v : Value} {x : ByteArray} (h : Bts w base v x) : ∃ a c, v = .slice a x.size c ∧ (∃ f : Nat → Nat, (∀ i, f i < 256) ∧ Own w base (.slice a x.size c) x.size f ∧ str f x.size = x) := by
  obtain ⟨f, h1, h2, h3⟩ := h
  rcases h2.2 with ⟨e1, e2⟩ | ⟨g, cap, cur, e1, _⟩
  · subst e1
    have e2' : x.size = 0 := e2
    rw [e2'] at h2 h3
    exact ⟨none, 0, by rw [e2'], f, h1, by rw [e2']; exact h2, by rw [e2']; exact h3⟩
  · exact ⟨_, _, e1, f, h1, by rw [← e1]; exact h2, h3⟩
end Go.Proofs.YtebngmgdciahiaaGreatDoor
