/-
  Look of the program's disk.
-/
import Derived.Test.YthkhkijdehbbmaaSmL
set_option maxRecDepth 100000
namespace Go.Proofs.Ythkhkijdehbbmaa
open Go.RowKit
open _root_.Go.Proofs.Ythkhkijdehbbmaa.Nm _root_.Go.Proofs.Ythkhkijdehbbmaa.Dk
attribute [local go_sem ↓] Go.wp_at_zero Go.wp_at_succ
set_option linter.unusedVariables false

/-- A file, or one of nothing. -/
def fileL (x : ByteArray) (l : List Fl) : Fl := if there x l = true then fileAt x l else ⟨⟨#[]⟩, ⟨#[]⟩, false⟩
theorem Part.fileL {V A M B : List Fv} {x : ByteArray} (h : Part V x A M B) : (Go.Proofs.Ythkhkijdehbbmaa.fileL x (V.map fl)).b = (top M).b ∧ (Go.Proofs.Ythkhkijdehbbmaa.fileL x (V.map fl)).sure = (top M).sure := by
  unfold Go.Proofs.Ythkhkijdehbbmaa.fileL
  cases t : there x (V.map fl) with
  | true => rw [if_pos rfl, h.fileAt t]; exact ⟨rfl, rfl⟩
  | false => rw [if_neg (by decide), top_none h t]; exact ⟨rfl, rfl⟩
def LookEnd (f : Fl) (t : Bool) (w : World) (e : Ending) (w' : World) : Prop :=
  ∃ bv : Option Addr × Nat × Nat, e = .returned (.tuple #[.slice bv.1 bv.2.1 bv.2.2, .bool f.sure, .bool t]) ∧ (∀ p s, PB w' ⟨p, bv, s, f.b⟩) ∧ Below w.heap.size w w'
set_option maxHeartbeats 8000000 in
theorem look_any (p m : Nat) (V : List Fv) (q : Option Nat) (s : St) (F : Int) (x : ByteArray) (w : World) (h : PX w p m V q s F) (hx : x.size ≤ maxLen) :
    Calls Try.prog 29 #[.pointer (some ⟨p, 0, none⟩), .string x] w (LookEnd (fileL x s.fs) (there x s.fs) w) := by
  obtain ⟨A, M, B, P⟩ := part_at h.r x
  have lk := (h.look P hx).1
  have d0 := h.c0
  obtain ⟨⟨ta, tn, tc⟩, htv⟩ : ∃ y : Option Addr × Nat × Nat, (top M).bv = y := ⟨_, rfl⟩
  obtain ⟨ts, hts'⟩ : ∃ ts, (top M).sure = ts := ⟨_, rfl⟩
  have htl : vl (top M) = .agg #[.slice ta tn tc, .bool ts] := by unfold vl; rw [htv, hts']
  rw [htl] at lk
  obtain ⟨hf1, hf2⟩ := P.fileL
  rw [← h.f] at hf1 hf2
  rw [hts'] at hf2
  obtain ⟨T, hT⟩ : ∃ T, there x s.fs = T := ⟨_, rfl⟩
  rw [hT] at lk
  obtain ⟨Y, hY⟩ : ∃ Y, fileL x s.fs = Y := ⟨_, rfl⟩
  rw [hY] at hf1 hf2
  rw [hT, hY]
  obtain ⟨w2, hw2⟩ : ∃ w2, w.alloc (.cells #[.slice ta tn tc, .bool ts] 74) = w2 := ⟨_, rfl⟩
  have b2 : Below w.heap.size w w2 := by rw [← hw2]; exact bal _ _
  have hx2 : w2.heap[w.heap.size]? = some (.cells #[.slice ta tn tc, .bool ts] 74) := by rw [← hw2]; exact heap_alloc_new _ _
  have x0 := cell_of_row w2 w.heap.size 0 _ _ _ hx2
  have x1 := cell_of_row w2 w.heap.size 1 _ _ _ hx2
  simp only [List.getElem?_toArray, List.getElem?_cons_zero, List.getElem?_cons_succ] at x0 x1
  have ey : w2.drew.cell? ⟨w.heap.size, 0, none⟩ = some (.slice ta tn tc) ∧ w2.drew.cell? ⟨w.heap.size, 1, none⟩ = some (.bool ts) := ⟨x0, x1⟩
  have HT : Hid (∀ (bv : Option Addr × Nat × Nat) w', (∀ p s, PB w' ⟨p, bv, s, (top M).b⟩) → Below w.heap.size w w' → LookEnd Y T w (.returned (.tuple #[.slice bv.1 bv.2.1 bv.2.2, .bool ts, .bool T])) w') := fun bv w' h1 h2 => ⟨bv, by rw [hf2], by rw [hf1]; exact h1, h2⟩
  have cC : Calls Try.prog 35 #[.slice ta tn tc] w2.drew fun e w3 => ∃ ca cn cc, e = .returned (.slice ca cn cc) ∧ (w3.cell? ⟨w.heap.size, 0, none⟩ = some (.slice ta tn tc) ∧ w3.cell? ⟨w.heap.size, 1, none⟩ = some (.bool ts)) ∧ Hid ((∀ p s, PB w3 ⟨p, (ca, cn, cc), s, (top M).b⟩) ∧ Below w.heap.size w w3) := by
    have hpb := ((h.keep b2).topB P)
    obtain ⟨f, hf, hr, hst⟩ := hpb.row
    have hn := hpb.n
    have hc := hpb.c
    have hzz := hpb.z
    have hsz := h.topS P
    rw [htv] at hn hc hzz hr
    dsimp only at hn hc hzz hr
    rw [← hn] at hr hst
    refine (clone_any ta tn tc (top M).b f w2.drew (hr.keep ((Below.refl _ _).drew)) hf hst hn (fun e => by have := hzz e; exact ⟨by omega, this⟩) (by omega)).mono ?_
    rintro e w3 ⟨⟨ca, cn, cc⟩, rfl, h1, _, h3⟩
    have hg : w3.heap[w.heap.size]? = some (.cells #[.slice ta tn tc, .bool ts] 74) := (h3.block _ (Array.getElem?_eq_some_iff.1 hx2).1).trans hx2
    exact ⟨ca, cn, cc, rfl, ⟨cell_of_row w3 w.heap.size 0 _ _ _ hg, cell_of_row w3 w.heap.size 1 _ _ _ hg⟩, h1, b2.drew.trans (h3.mono b2.size)⟩
  generalize hPP : LookEnd Y T w = PP at *
  clear h hx P htv hts' htl hf1 hf2 hT hY b2 hx2 x0 x1 hPP
  go_enter Try.func29, Try.ntmps29
  go_wp2_with fail
  go_region_held3 (fun X => X.cell? ⟨w.heap.size, 0, none⟩ = some (.slice ta tn tc) ∧ X.cell? ⟨w.heap.size, 1, none⟩ = some (.bool ts))
    (first | exact ey | assumption)
    (first
      | (go_at_call 35; with_reducible refine cC.mono ?_; rintro e w3 ⟨ca, cn, cc, rfl, ez, HH⟩))
  all_goals
    go_wp2
    exact bodyPost_ret (v := .tuple #[.slice ca cn cc, .bool ts, .bool T]) (by simp [results, Try.results29, go_sem]) rfl (HT.out (ca, cn, cc) _ HH.out.1 HH.out.2)
end Go.Proofs.Ythkhkijdehbbmaa
