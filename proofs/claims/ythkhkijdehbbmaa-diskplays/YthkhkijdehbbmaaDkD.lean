/-
  A disk of the document whose row is laid anew; a file taken away.
-/
import Derived.Test.YthkhkijdehbbmaaDkC
set_option maxRecDepth 100000
namespace Go.Proofs.Ythkhkijdehbbmaa
open Go.RowKit Dk Nm
attribute [local go_sem ↓] Go.wp_at_zero Go.wp_at_succ
set_option linter.unusedVariables false

theorem BO.keep {w w' : World} {x : Fv} (h : BO w x) (hb : Below w.heap.size w w') : BO w' x := by
  obtain ⟨h1, f, h2, h3, h4⟩ := h
  exact ⟨h1, f, h2, h3.keep hb, h4⟩
/-- Its row is laid anew. -/
theorem DX.relist {w W : World} {p : Nat} {a a' : Option Addr} {c c' : Nat} {L L' : List Fv} {q : Option Nat} {s : St} (h : DX w p a c L q s) (hb : Below w.heap.size w W) (ho : FOwn W w.heap.size (.slice a' L'.length c') L')
    (hB : ∀ x ∈ L', BO W x) (hw : Wf { s with fs := L'.map fl }) :
    DX (W.setCell ⟨p, 0, none⟩ (.slice a' L'.length c')) p a' c' L' q { s with fs := L'.map fl } ∧ Upd (Mk p none) w (W.setCell ⟨p, 0, none⟩ (.slice a' L'.length c')) ∧ (∀ x, a' = some x → w.heap.size ≤ x.block) := by
  have hk := h.keep hb
  have u : Upd (Mk p none) W (W.setCell ⟨p, 0, none⟩ (.slice a' L'.length c')) := (Upd.refl _ _).put (.inl (.inl rfl)) _
  refine ⟨⟨?_, ?_, fun x hx => (hB x hx).upd u fun g cur e k => (p_types hk k e).2 rfl, rfl, hw⟩, (Upd.of hb).trans u, fun x e => ?_⟩
  · have := heap_setCell_same W p 0 _ _ (.slice a' L'.length c') hk.o
    rw [this]; rfl
  · exact (own_upd ho u fun g cur e k => (p_types hk k e).1 rfl) |> fun k => FOwn.mono k (Nat.zero_le _)
  · subst e
    rcases ho.2 with ⟨e2, _⟩ | ⟨g, cap, cur, e2, hg, _⟩
    · injection e2 with e3; cases e3
    · injection e2 with e3
      injection e3 with e3
      rw [e3]; exact hg
theorem cut_map (L : List Fv) (i : Nat) : (L.take i ++ L.drop (i + 1)).map fl = Dk.cut (L.map fl) i := by
  unfold Dk.cut
  rw [List.map_append, List.map_take, List.map_drop]
theorem wf_sub {s : St} {l : List Fl} (h : Wf s) (hl : l.length ≤ s.fs.length) (hs : ∀ f ∈ l, f ∈ s.fs) : Wf { s with fs := l } :=
  ⟨Nat.le_trans hl h.n, fun f hf => h.b f (hs f hf), fun f hf => h.p f (hs f hf), h.m0, h.m1, h.b0, h.b1⟩
def RemEnd (p : Nat) (L : List Fv) (q : Option Nat) (s : St) (i : Nat) (w : World) (e : Ending) (w' : World) : Prop :=
  e = .returned (.tuple #[]) ∧ ∃ a' c', DX w' p a' c' (L.take i ++ L.drop (i + 1)) q { s with fs := Dk.cut s.fs i } ∧ Upd (Mk p none) w w' ∧ (∀ x, a' = some x → w.heap.size ≤ x.block)
set_option maxRecDepth 100000 in
set_option maxHeartbeats 4000000 in
theorem remove_any (p : Nat) (a : Option Addr) (c : Nat) (L : List Fv) (q : Option Nat) (s : St) (i : Nat) (w : World) (h : DX w p a c L q s) (hi : i < L.length) :
    Calls Try.prog 58 #[.pointer (some ⟨p, 0, none⟩), .int .i64 (i : Int)] w (RemEnd p L q s i w) := by
  have hn := h.n
  obtain ⟨hf, hz, hlc, _⟩ := h.rows
  obtain ⟨A1, s1, f1, z1⟩ := hf.first hz (m := i) (by omega) hlc
  obtain ⟨A2, s2, f2, z2⟩ := hf.rest hz (t := i + 1) (by omega) hlc
  obtain ⟨E, hE⟩ : ∃ E, w.drew = E := ⟨_, rfl⟩
  have bE : Below w.heap.size w E := by rw [← hE]; exact (Below.refl _ _).drew
  have l1 : (L.take i).length = i := by rw [List.length_take, Nat.min_eq_left (by omega)]
  have l2 : (L.drop (i + 1)).length = L.length - (i + 1) := List.length_drop
  obtain ⟨v1, W1, r1, o1, g1, b1⟩ := appendF (c := c) (FOwn.start E w.heap.size) (f1.keep bE) (by rw [l1]; exact z1) (by rw [l1]; simp; omega) bE.size
  rw [l1] at r1
  rw [List.nil_append] at o1
  obtain ⟨v2, W2, r2, o2, g2, b2⟩ := appendF (c := c - (i + 1)) o1 (f2.keep (bE.trans b1)) (by rw [l2]; exact z2) (by rw [l1, l2]; omega) (Nat.le_trans bE.size b1.size)
  rw [l2] at r2
  obtain ⟨a', c', ev, _⟩ := o2.row
  have bW2 := (bE.trans b1).trans b2
  subst ev
  have hR := h.relist bW2 o2 (fun x hx => (h.b x (by
    rcases List.mem_append.1 hx with q | q
    · exact List.mem_of_mem_take q
    · exact List.mem_of_mem_drop q)).keep bW2) (by
    rw [cut_map, ← h.f]
    refine wf_sub h.wf ?_ fun f hf => ?_
    · unfold Dk.cut; rw [List.length_append, List.length_take, List.length_drop]; omega
    · unfold Dk.cut at hf
      rcases List.mem_append.1 hf with q | q
      · exact List.mem_of_mem_take q
      · exact List.mem_of_mem_drop q)
  rw [cut_map, ← h.f] at hR
  have HR : Hid (∀ e w', e = .returned (.tuple #[]) → w' = W2.setCell ⟨p, 0, none⟩ (.slice a' (L.take i ++ L.drop (i + 1)).length c') → RemEnd p L q s i w e w') := fun e w' h1 h2 => by
    subst h2
    exact ⟨h1, a', c', hR.1, hR.2.1, hR.2.2⟩
  have c0 := (h.keep bE).c0
  have c1 := (h.keep (bE.trans b1)).c0
  have f0 := (h.keep bW2).soft 0
  obtain ⟨N, hV⟩ : ∃ N, (L.take i ++ L.drop (i + 1)).length = N := ⟨_, rfl⟩
  rw [hV] at r2 HR
  have cW := (h.keep bW2).c0
  obtain ⟨n, hnn⟩ : ∃ n, L.length = n := ⟨_, rfl⟩
  rw [hnn] at s1 s2 c0 c1 cW hn hi r2
  obtain ⟨i1, hi1⟩ : ∃ i1, i + 1 = i1 := ⟨_, rfl⟩
  have wi : IntKind.i64.wrap ((i : Int) + 1) = ((i1 : Nat) : Int) := by rw [IntKind.wrap_i64]; omega
  rw [hi1] at s2 r2
  have R1 : Hid (Sem.run Try.prog (Builtin.append_ #[82, 82] 82 #[.slice none 0 0, .slice A1 i c]) E = .ok v1 W1) := r1
  have R2 : Hid (Sem.run Try.prog (Builtin.append_ #[82, 82] 82 #[v1, .slice A2 (n - i1) (c - i1)]) W1 = .ok (.slice a' N c') W2) := r2
  generalize hPP : RemEnd p L q s i w = PP at *
  clear hPP h hf hz hlc f1 z1 f2 z2 bE l1 l2 r1 o1 g1 b1 r2 o2 g2 b2 bW2 hR hV hnn hi1
  go_enter Try.func58, Try.ntmps58
  go_wp2_with fail
  go_region_law (first
    | refine step_append_ran (by rfl) _ _ 82 (by rfl) (.slice none 0 0) (.slice A1 i c) v1 W1 (by rfl) (by rfl) (by dsimp only; with_reducible exact R1.out) ?_
    | refine step_append_ran (by rfl) _ _ 82 (by rfl) v1 (.slice A2 (n - i1) (c - i1)) (.slice a' N c') W2 (by rfl) (by rfl) (by dsimp only; with_reducible exact R2.out) ?_)
  all_goals
    go_wp2
    exact bodyPost_end (v := .tuple #[]) (by simp [results, Try.results58, go_sem]) rfl (HR.out _ _ rfl rfl)
end Go.Proofs.Ythkhkijdehbbmaa
