/-
  What the function that shard.Read hands to pass does; what pass does with it.
-/
import Derived.Test.YtjbdncgmpccedaaDoorShI
namespace Go.Proofs.YtjbdncgmpccedaaDoor
open Go.RowKit Crc
attribute [local go_sem ↓] Go.wp_at_zero Go.wp_at_succ
set_option linter.unusedVariables false

/-- The variable data, in block p. -/
def DvAt (w : World) (p : Nat) (v : Value) : Prop := w.heap[p]? = some (.cells #[v] 24)
theorem DvAt.keep {w w' : World} {p : Nat} {v : Value} (h : DvAt w p v) (hb : Below w.heap.size w w') : DvAt w' p v := (hb.block p (Array.getElem?_eq_some_iff.1 h).1).trans h
/-- What is neither block p nor a row of bytes is as it was. -/
def StillP (p : Nat) (w w' : World) : Prop := ∀ (b : Nat) (cs : Array Value) (t : TypeId) (fr : Nat × Nat), b ≠ p → t ≠ 5 → w.heap[b]? = some (.cells cs t fr) → w'.heap[b]? = some (.cells cs t fr)
theorem HdB.stillP {w w' : World} {p q : Nat} {K M I B S D : Int} {t : TypeId} (h : HdB w q K M I B S D t) (k : StillP p w w') (hq : q ≠ p) (ht : t ≠ 5) : HdB w' q K M I B S D t := k _ _ _ _ hq ht h

set_option maxRecDepth 100000 in
theorem clo_any (w0 w : World) (p t m c : Nat) (v : Value) (F g : Nat → Nat) (a : Option Addr) (h : Row w0 a m g) (hm : 0 < m) (hb : Below w0.heap.size w0 w) (hp : w0.heap.size ≤ p) (hd : DvAt w p v) (ho : Own w w0.heap.size v t F) (hl : t + m ≤ 1000000) :
    Calls Tryd.prog 27 #[.slice a m c, .pointer (some ⟨p, 0, none⟩)] w fun e w' => e = .returned (.tuple #[]) ∧ Below w0.heap.size w0 w' ∧ StillP p w w' ∧ w.heap.size ≤ w'.heap.size ∧ ∃ v', DvAt w' p v' ∧ Own w' w0.heap.size v' (t + m) (cat t F g) := by
  obtain ⟨v', W, hr, ho', hbl, hg⟩ := appendG (c := c) ho (h.keep hb) (fun e => absurd e (row_some h hm)) (by omega) hb.size
  have hd1 : DvAt W p v := ho.still hg p _ _ _ (by decide) hd
  have c0 : w.cell? ⟨p, 0, none⟩ = some v := cell_of_row w p 0 _ _ _ hd
  have d0 : W.cell? ⟨p, 0, none⟩ = some v := cell_of_row W p 0 _ _ _ hd1
  have s0 : W.frozen? ⟨p, 0, none⟩ = false := frozen_of_row W p 0 _ _ hd1
  have hd2 : DvAt (W.setCell ⟨p, 0, none⟩ v') p v' := heap_setCell_same W p 0 _ _ v' hd1
  have ho2 : Own (W.setCell ⟨p, 0, none⟩ v') w0.heap.size v' (t + m) (cat t F g) := by
    rcases ho' with ⟨hl, e | ⟨q, cap, cur, e, hq, hh, hx⟩⟩
    · exact ⟨hl, .inl e⟩
    · refine ⟨hl, .inr ⟨q, cap, cur, e, hq, ?_, hx⟩⟩
      rw [heap_setCell_other _ _ _ _ (fun z => by
        subst z
        unfold DvAt at hd1
        rw [hh] at hd1
        injection hd1 with z
        injection z with _ z _
        cases z)]
      exact hh
  have hb2 : Below w0.heap.size w0 (W.setCell ⟨p, 0, none⟩ v') := (hb.trans hbl).setCell (p := ⟨p, _, none⟩) hp _
  have st : StillP p w (W.setCell ⟨p, 0, none⟩ v') := fun b cs t fr hbp ht hx => by
    rw [heap_setCell_other _ _ _ _ hbp]
    exact ho.still hg b cs t fr ht hx
  have sz : w.heap.size ≤ (W.setCell ⟨p, 0, none⟩ v').heap.size := by have := hg.size; simpa using this
  have HE : Hid (Below w0.heap.size w0 (W.setCell ⟨p, 0, none⟩ v') ∧ StillP p w (W.setCell ⟨p, 0, none⟩ v') ∧ w.heap.size ≤ (W.setCell ⟨p, 0, none⟩ v').heap.size ∧ ∃ v'', DvAt (W.setCell ⟨p, 0, none⟩ v') p v'' ∧ Own (W.setCell ⟨p, 0, none⟩ v') w0.heap.size v'' (t + m) (cat t F g)) := ⟨hb2, st, sz, v', hd2, ho2⟩
  have HA : Hid _ := hr
  have hv' : ∃ q c', v' = .slice (some ⟨q, 0, none⟩) (t + m) c' := by
    obtain ⟨q, c', e, _⟩ := ho'.made (by omega)
    exact ⟨q, c', e⟩
  have hv : v = .slice none 0 0 ∨ ∃ q c', v = .slice (some ⟨q, 0, none⟩) t c' := by
    rcases ho.2 with ⟨e, _⟩ | ⟨q, c', _, e, _⟩
    · exact .inl e
    · exact .inr ⟨q, c', e⟩
  clear hd hd1 hd2 ho ho' ho2 hb hb2 st sz hr hbl hg h
  obtain ⟨q', c', rfl⟩ := hv'
  rcases hv with rfl | ⟨q, cq, rfl⟩
  · go_enter Tryd.func27, Tryd.ntmps27
    go_wp2_with (at_builtin; refine wpList_append_ran (by rfl) _ _ 24 (by rfl) _ _ _ _ (by rfl) (by rfl) HA.out ?_)
    go_end0
    exact ⟨rfl, HE.out⟩
  · go_enter Tryd.func27, Tryd.ntmps27
    go_wp2_with (at_builtin; refine wpList_append_ran (by rfl) _ _ 24 (by rfl) _ _ _ _ (by rfl) (by rfl) HA.out ?_)
    go_end0
    exact ⟨rfl, HE.out⟩
end Go.Proofs.YtjbdncgmpccedaaDoor
