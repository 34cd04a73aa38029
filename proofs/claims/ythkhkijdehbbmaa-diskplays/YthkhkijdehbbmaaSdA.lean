/-
  A file that is put into the row of a disk of the document: in its place, or between two others.
-/
import Derived.Test.YthkhkijdehbbmaaSmA
import Derived.Test.YthkhkijdehbbmaaDkJ
import Derived.Test.YthkhkijdehbbmaaDkK
import Derived.Test.YthkhkijdehbbmaaDkH
set_option maxRecDepth 100000
namespace Go.Proofs.Ythkhkijdehbbmaa
open Go.RowKit
open _root_.Go.Proofs.Ythkhkijdehbbmaa.Nm _root_.Go.Proofs.Ythkhkijdehbbmaa.Dk
attribute [local go_sem ↓] Go.wp_at_zero Go.wp_at_succ
set_option linter.unusedVariables false

/-- A file as a literal, in a block of its own. -/
def lF (y : Fv) : Obj := .cells #[.string y.path, .slice y.bv.1 y.bv.2.1 y.bv.2.2, .bool y.sure] 95
/-- What a file put in between leaves. -/
def InsEnd (w : World) (p : Nat) (L : List Fv) (q : Option Nat) (s : St) (i : Nat) (y : Fv) (W : World) : Prop :=
  ∃ a' c', DX W p a' c' (L.take i ++ [y] ++ L.drop i) q { s with fs := s.fs.take i ++ fl y :: s.fs.drop i } ∧ Upd (Mk p none) w W ∧ (∀ x, a' = some x → w.heap.size ≤ x.block)
theorem grown_none {w W : World} {v : Value} (g : w.grownBy W v.ownBlock) (h : v.ownBlock = none) : Below w.heap.size w W := ⟨g.os, g.tape, g.output, g.size, fun k hk => g.block k hk (by rw [h]; simp)⟩
section
variable {w : World} {p : Nat} {a : Option Addr} {c : Nat} {L : List Fv} {q : Option Nat} {s : St} {i : Nat} {y : Fv}
/-- The two later appends. -/
theorem ins_from (h : DX w p a c L q s) (hi : i ≤ L.length) (hy : BO w y) (hyb : y.b.size ≤ 262144) (hyp : y.path.size ≤ 600) (hn : s.fs.length < 4096) {A2 : Option Addr} (f2 : Fs w A2 (L.drop i)) (z2 : A2 = none → L.length - i = 0 ∧ c - i = 0)
    {X2 : World} {v1 : Value} {g8 : Nat} (b1 : Below w.heap.size w X2) (o1 : FOwn X2 w.heap.size v1 (L.take i)) (l8 : Fs X2 (some ⟨g8, 0, none⟩) [y]) :
    ∃ v2 W2 a' N c' W3, Sem.run Try.prog (Builtin.append_ #[82, 82] 82 #[v1, .slice (some ⟨g8, 0, none⟩) 1 1]) X2 = .ok v2 W2 ∧
      Sem.run Try.prog (Builtin.append_ #[82, 82] 82 #[v2, .slice A2 (L.length - i) (c - i)]) W2 = .ok (.slice a' N c') W3 ∧ Below w.heap.size w W2 ∧ Below w.heap.size w W3 ∧ InsEnd w p L q s i y (W3.setCell ⟨p, 0, none⟩ (.slice a' N c')) := by
  have hL := h.n
  have l1 : (L.take i).length = i := by rw [List.length_take, Nat.min_eq_left hi]
  have l2 : (L.drop i).length = L.length - i := List.length_drop
  obtain ⟨v2, W2, r2, o2, g2, b2⟩ := appendF (c := 1) o1 l8 (fun e => by cases e) (by rw [l1]; show i + 1 ≤ _; omega) b1.size
  have bw2 := b1.trans b2
  obtain ⟨v3, W3, r3, o3, g3, b3⟩ := appendF (c := c - i) o2 (f2.keep bw2) (by rw [l2]; exact z2) (by rw [List.length_append, l1, l2]; show i + 1 + _ ≤ _; omega) bw2.size
  rw [l2] at r3
  have bw3 := bw2.trans b3
  obtain ⟨a', c', ev, _⟩ := o3.row
  subst ev
  have hfl : s.fs.take i ++ fl y :: s.fs.drop i = (L.take i ++ [y] ++ L.drop i).map fl := by
    rw [h.f, List.map_append, List.map_append, List.map_take, List.map_drop, List.append_assoc]; rfl
  have hmem : ∀ f ∈ s.fs.take i ++ fl y :: s.fs.drop i, f = fl y ∨ f ∈ s.fs := fun f hf => by
    rcases List.mem_append.1 hf with k | k
    · exact .inr (List.mem_of_mem_take k)
    · rcases List.mem_cons.1 k with k | k
      · exact .inl k
      · exact .inr (List.mem_of_mem_drop k)
  have hR := h.relist bw3 o3 (fun x hx => by
    rcases List.mem_append.1 hx with k | k
    · rcases List.mem_append.1 k with k | k
      · exact (h.b x (List.mem_of_mem_take k)).keep bw3
      · rw [List.mem_singleton] at k
        subst k; exact hy.keep bw3
    · exact (h.b x (List.mem_of_mem_drop k)).keep bw3) (by
    rw [← hfl]
    refine ⟨?_, fun f hf => ?_, fun f hf => ?_, h.wf.m0, h.wf.m1, h.wf.b0, h.wf.b1⟩
    · show (s.fs.take i ++ fl y :: s.fs.drop i).length ≤ 4096
      rw [List.length_append, List.length_cons, List.length_take, List.length_drop]; omega
    · rcases hmem f hf with k | k
      · subst k; exact hyb
      · exact h.wf.b f k
    · rcases hmem f hf with k | k
      · subst k; exact hyp
      · exact h.wf.p f k)
  rw [← hfl] at hR
  exact ⟨v2, W2, a', _, c', W3, r2, r3, bw2, bw3, a', c', hR.1, hR.2.1, hR.2.2⟩
/-- The three appends, the literal behind the first or ahead of it. -/
theorem ins_any (h : DX w p a c L q s) (hi : i ≤ L.length) (hy : BO w y) (hyb : y.b.size ≤ 262144) (hyp : y.path.size ≤ 600) (hn : s.fs.length < 4096) :
    ∃ A1 A2, (∀ w', Sem.run Try.prog (Instr.slice 82 (.slice a L.length c) none (some (.int .i64 (i : Int))) none) w' = .ok (.slice A1 i c) w') ∧ (∀ w', Sem.run Try.prog (Instr.slice 82 (.slice a L.length c) (some (.int .i64 (i : Int))) none none) w' = .ok (.slice A2 (L.length - i) (c - i)) w') ∧
      (∃ v1 W1 v2 W2 a' N c' W3, Sem.run Try.prog (Builtin.append_ #[82, 82] 82 #[.slice none 0 0, .slice A1 i c]) w.drew = .ok v1 W1 ∧
        Sem.run Try.prog (Builtin.append_ #[82, 82] 82 #[v1, .slice (some ⟨W1.heap.size, 0, none⟩) 1 1]) (W1.alloc (lF y)) = .ok v2 W2 ∧
        Sem.run Try.prog (Builtin.append_ #[82, 82] 82 #[v2, .slice A2 (L.length - i) (c - i)]) W2 = .ok (.slice a' N c') W3 ∧ Below w.heap.size w W1 ∧ Below w.heap.size w W2 ∧ Below w.heap.size w W3 ∧ InsEnd w p L q s i y (W3.setCell ⟨p, 0, none⟩ (.slice a' N c'))) ∧
      (∃ v1 W1 v2 W2 a' N c' W3, Sem.run Try.prog (Builtin.append_ #[82, 82] 82 #[.slice none 0 0, .slice A1 i c]) (w.alloc (lF y)).drew = .ok v1 W1 ∧
        Sem.run Try.prog (Builtin.append_ #[82, 82] 82 #[v1, .slice (some ⟨w.heap.size, 0, none⟩) 1 1]) W1 = .ok v2 W2 ∧
        Sem.run Try.prog (Builtin.append_ #[82, 82] 82 #[v2, .slice A2 (L.length - i) (c - i)]) W2 = .ok (.slice a' N c') W3 ∧ Below w.heap.size w W1 ∧ Below w.heap.size w W2 ∧ Below w.heap.size w W3 ∧ InsEnd w p L q s i y (W3.setCell ⟨p, 0, none⟩ (.slice a' N c'))) := by
  have hL := h.n
  obtain ⟨hf, hz, hlc, _⟩ := h.rows
  obtain ⟨A1, s1, f1, z1⟩ := hf.first hz (m := i) hi hlc
  obtain ⟨A2, s2, f2, z2⟩ := hf.rest hz (t := i) hi hlc
  have l1 : (L.take i).length = i := by rw [List.length_take, Nat.min_eq_left hi]
  have bE : Below w.heap.size w w.drew := (Below.refl _ _).drew
  have bF : Below w.heap.size w (w.alloc (lF y)).drew := (bal w (lF y)).drew
  refine ⟨A1, A2, s1, s2, ?_, ?_⟩
  · obtain ⟨v1, W1, r1, o1, g1, b1⟩ := appendF (c := c) (FOwn.start w.drew w.heap.size) (f1.keep bE) (by rw [l1]; exact z1) (by rw [l1]; simp; omega) bE.size
    rw [l1] at r1
    rw [List.nil_append] at o1
    have bw1 := bE.trans b1
    obtain ⟨v2, W2, a', N, c', W3, r2, r3, k2, k3, k⟩ := ins_from h hi hy hyb hyp hn f2 z2 (X2 := W1.alloc (lF y)) (bw1.trans ((bal W1 (lF y)).mono bw1.size)) (o1.keep (bal W1 (lF y))) (litF W1 y)
    exact ⟨v1, W1, v2, W2, a', N, c', W3, r1, r2, r3, bw1, k2, k3, k⟩
  · obtain ⟨v1, W1, r1, o1, g1, b1⟩ := appendF (c := c) (FOwn.start (w.alloc (lF y)).drew w.heap.size) (f1.keep bF) (by rw [l1]; exact z1) (by rw [l1]; simp; omega) bF.size
    rw [l1] at r1
    rw [List.nil_append] at o1
    have bw1 := bF.trans b1
    have gn := grown_none g1 rfl
    have hl : Fs (w.alloc (lF y)).drew (some ⟨w.heap.size, 0, none⟩) [y] := (litF w y).keep (Below.refl _ _).drew
    obtain ⟨v2, W2, a', N, c', W3, r2, r3, k2, k3, k⟩ := ins_from h hi hy hyb hyp hn f2 z2 (X2 := W1) bw1 o1 (hl.keep gn)
    exact ⟨v1, W1, v2, W2, a', N, c', W3, r1, r2, r3, bw1, k2, k3, k⟩
end
/-- A fuse that is elsewhere stays. -/
theorem Zs.beside {M : Nat → Prop} {w w' : World} {q : Option Nat} {z : Option Fz} (h : Zs w q z) (u : Upd M w w') (hm : ∀ k, q = some k → ¬ M k) : Zs w' q z := by
  cases q with
  | none => cases z with
    | none => trivial
    | some y => exact absurd h (by unfold Zs; exact id)
  | some k =>
    cases z with
    | none => exact absurd h (by unfold Zs; exact id)
    | some y =>
      unfold Zs at *
      dsimp only at *
      rw [u.block k (Array.getElem?_eq_some_iff.1 h).1 (hm k rfl)]
      exact h
theorem Zs.type {w : World} {k : Nat} {z : Option Fz} (h : Zs w (some k) z) : ∃ cs, w.heap[k]? = some (.cells cs 49 (0, 0)) := by
  cases z with
  | none => exact absurd h (by unfold Zs; exact id)
  | some y => exact ⟨_, h⟩
/-- Bytes of one's own as a slice. -/
theorem bts_slice {w : World} {base : Nat} {v : Value} {x : ByteArray} (h : Bts w base v x) : ∃ a c, v = .slice a x.size c ∧ (∃ f : Nat → Nat, (∀ i, f i < 256) ∧ Own w base (.slice a x.size c) x.size f ∧ str f x.size = x) := by
  obtain ⟨f, h1, h2, h3⟩ := h
  rcases h2.2 with ⟨e1, e2⟩ | ⟨g, cap, cur, e1, _⟩
  · subst e1
    have e2' : x.size = 0 := e2
    rw [e2'] at h2 h3
    exact ⟨none, 0, by rw [e2'], f, h1, by rw [e2']; exact h2, by rw [e2']; exact h3⟩
  · exact ⟨_, _, e1, f, h1, by rw [← e1]; exact h2, h3⟩
end Go.Proofs.Ythkhkijdehbbmaa
