/-
  What rs.parted and rs.taken do: the numbers of the rows that are there, and of those that are not; the rows of given numbers.
-/
import Derived.Test.YtbfhmdphhhjlnaaPart
namespace Go.Proofs.Ytbfhmdphhhjlnaa
open Go.RowKit Gf
attribute [local go_sem ↓] Go.wp_at_zero Go.wp_at_succ

/-- As OwnI.push; and another row of numbers, or of headers, is not touched. -/
theorem OwnI.pushK {w : World} {base k : Nat} {v : Value} {g : Nat → Int} {x : Int} (h : OwnI w base v k g) (hb : base ≤ w.heap.size) (hx : x = g k) (hk : k + 1 ≤ 1000) :
    ∃ v' W, Sem.run Try.prog (Builtin.append_ #[63, 63] 63 #[v, .slice (some ⟨w.heap.size, 0, none⟩) 1 1]) (w.alloc (.cells #[.int .i64 x] 3)) = .ok v' W ∧ OwnI W base v' (k + 1) g ∧ Below base w W ∧
      ∀ (u : Value) (kk : Nat) (g' : Nat → Int), OwnI w base u kk g' → (u.ownBlock = none ∨ u.ownBlock ≠ v.ownBlock) → OwnI W base u kk g' ∧ (u.ownBlock = none ∨ u.ownBlock ≠ v'.ownBlock) := by
  obtain ⟨i, hi, hzz⟩ := Option.map_eq_some_iff.1 info3
  simp only [Prod.mk.injEq] at hzz
  obtain ⟨hz, hs, hby⟩ := hzz
  obtain ⟨W1, hW1⟩ : ∃ W1, W1 = w.alloc (.cells #[.int .i64 x] 3) := ⟨_, rfl⟩
  have hb1 : Below w.heap.size w W1 := by rw [hW1]; exact (Below.refl _ _).alloc (Nat.le_refl _) _
  have own1 : W1.ownsRow base 3 1 v k ((List.range k).map fun i => .int .i64 (g i)) := World.ownsRow.kept (w := w) h (grown_of_below (row := none) hb1) (by cases v.ownBlock <;> simp)
  have cell1 : W1.cell? ⟨w.heap.size, 0, none⟩ = some (.int .i64 x) := by rw [hW1, World.cell?_alloc_new]; rfl
  have hs1 := hb1.size
  rw [← hW1]
  obtain ⟨v', W, hr, hown, hgrow, _, hblk⟩ := run_append_own_at (P := Try.prog) W1 base 63 63 3 i (.int .i64 0) 1 8 Try.underlying63 hi hz hs hby rfl (by omega) v k _ own1 ⟨w.heap.size, 0, none⟩ 1 1 [.int .i64 x] (by simp)
    (fun j u hu => by
      cases j with
      | zero => simp at hu; rw [← hu, add_plain]; exact cell1
      | succ j => simp at hu) (fun u hu => by simp at hu; rw [hu]; rfl) (by unfold maxLen; omega) (by omega) (by omega)
  refine ⟨v', W, hr, ?_, (hb1.mono hb).trans (Below.ofGrown own1 hgrow (by omega)), fun u kk g' hu hne => ?_⟩
  · unfold OwnI
    rw [List.range_succ, List.map_append, List.map_singleton, ← hx]
    exact hown
  · have hu1 : W1.ownsRow base 3 1 u kk ((List.range kk).map fun i => .int .i64 (g' i)) := World.ownsRow.kept (w := w) hu (grown_of_below (row := none) hb1) (by cases u.ownBlock <;> simp)
    refine ⟨World.ownsRow.kept hu1 hgrow hne, ?_⟩
    rcases hne with q | q
    · exact .inl q
    · rcases hblk with hh | hh
      · rw [hh]; exact .inr q
      · right; rw [hh]; intro e
        have := World.ownsRow.lt (w := w) hu W1.heap.size e
        omega

theorem nn {x y : Option Nat} (h : x = none ∨ x ≠ y) : y = none ∨ y ≠ x := by
  rcases h with q | q
  · cases y with
    | none => exact .inl rfl
    | some y => rw [q]; exact .inr (by simp)
  · exact .inr (fun e => q e.symm)

theorem eql_nil_yes (w : World) : Sem.run Try.prog (binOp .eql 30 (.slice none 0 0) (.slice none 0 0)) w = .ok (.bool true) w := by
  simp [binOp, run_equal_slice_nil (P := Try.prog) w 30 5 none 0 0 Try.underlying30]

set_option maxRecDepth 100000 in
set_option maxHeartbeats 2000000 in
theorem parted_any (a : Option Addr) (n c : Nat) (A : Nat → Option Addr) (L C : Nat → Nat) (F : Nat → Nat → Nat) (p : Nat → Bool) (w : World) (h : Mat w a n A L C F) (hn : n ≤ 900) (hp : ∀ i, i < n → (A i = none ↔ p i = false)) :
    Calls Try.prog 31 #[.slice a n c] w fun e w' => ∃ v1 v2, e = .returned (.tuple #[v1, v2]) ∧ OwnI w' w.heap.size v1 (th p n).length (fun i => ((ti p n i : Nat) : Int)) ∧ OwnI w' w.heap.size v2 (th (fun i => !p i) n).length (fun i => ((ti (fun i => !p i) n i : Nat) : Int)) ∧ Below w.heap.size w w' := by
  have HM : Hid (Mat w a n A L C F) := h
  have HP : Hid (∀ i, i < n → (A i = none ↔ p i = false)) := hp
  clear h hp
  go_enter Try.func31, Try.ntmps31
  go_wp2
  go_loopw [2, 3, 8] (fun v1 v2 i wr => ∃ t : Nat, t ≤ n ∧ i = .int .i64 t ∧ OwnI wr w.heap.size v1 (th p t).length (fun i => ((ti p n i : Nat) : Int)) ∧ OwnI wr w.heap.size v2 (th (fun i => !p i) t).length (fun i => ((ti (fun i => !p i) n i : Nat) : Int)) ∧ (v2.ownBlock = none ∨ v2.ownBlock ≠ v1.ownBlock) ∧ Below w.heap.size w wr) (fun _ _ i _ => n - (intOf i).toNat)
  case atStart => exact ⟨0, by omega, rfl, OwnI.start w w.heap.size _, OwnI.start w w.heap.size _, .inl rfl, Below.refl _ _⟩
  case round =>
    obtain ⟨t, ht, rfl, ho1, ho2, hne, hb⟩ := hrel
    have lt1 := th_len_le p t
    have lt2 := th_len_le (fun i => !p i) t
    by_cases hlt : t < n
    · have it : (t : Int) < (n : Int) := by omega
      have hM := HM.out.keep hb
      obtain ⟨b, o, rfl, hc⟩ := hM.lies (by omega)
      have ct := hc t hlt
      cases hA : A t with
      | none =>
        have hpt : p t = false := (HP.out t hlt).1 hA
        obtain ⟨hl0, hc0⟩ := hM.nil t hlt hA
        rw [hA, hl0, hc0] at ct
        have q0 := eql_nil_yes wr
        obtain ⟨v', W, hr, ho2', hb2, hk⟩ := ho2.pushK hb.size (x := (t : Int)) (by rw [ti_at hlt (by simp [hpt])]) (by omega)
        have ho1' := hk _ _ _ ho1 (nn hne)
        have R2 : Hid _ := hr
        have H1 : Hid (OwnI W w.heap.size u2 (th p (t + 1)).length (fun i => ((ti p n i : Nat) : Int))) := by rw [th_no hpt]; exact ho1'.1
        have H2 : Hid (OwnI W w.heap.size v' (th (fun i => !p i) (t + 1)).length (fun i => ((ti (fun i => !p i) n i : Nat) : Int))) := by
          rw [th_yes (p := fun i => !p i) (by simp [hpt]), List.length_append, List.length_singleton]; exact ho2'
        have H3 : Hid (v'.ownBlock = none ∨ v'.ownBlock ≠ u2.ownBlock) := nn ho1'.2
        have HB : Hid (Below w.heap.size w W) := hb.trans hb2
        clear hr ho1 ho2 ho1' ho2' hk hb2 hb hc hM hpt hA hne hl0 hc0
        go_wp2_with (at_builtin; refine wpList_append_ran (by rfl) _ _ 63 (by rfl) _ _ _ _ (by rfl) (by rfl) R2.out ?_)
        go_wp2
        go_round
        case rel => exact ⟨t + 1, by omega, by go_num, H1.out, H2.out, H3.out, HB.out⟩
        case measure => simp [intOf]; omega
      | some ad =>
        have hpt : p t = true := by
          cases q : p t with
          | true => rfl
          | false => rw [(HP.out t hlt).2 q] at hA; cases hA
        rw [hA] at ct
        have q0 := eql_nil wr ad (L t) (C t)
        obtain ⟨v', W, hr, ho1', hb2, hk⟩ := ho1.pushK hb.size (x := (t : Int)) (by rw [ti_at hlt hpt]) (by omega)
        have ho2' := hk _ _ _ ho2 hne
        have R2 : Hid _ := hr
        have H1 : Hid (OwnI W w.heap.size v' (th p (t + 1)).length (fun i => ((ti p n i : Nat) : Int))) := by
          rw [th_yes hpt, List.length_append, List.length_singleton]; exact ho1'
        have H2 : Hid (OwnI W w.heap.size u3 (th (fun i => !p i) (t + 1)).length (fun i => ((ti (fun i => !p i) n i : Nat) : Int))) := by
          rw [th_no (p := fun i => !p i) (by simp [hpt])]; exact ho2'.1
        have H3 : Hid (u3.ownBlock = none ∨ u3.ownBlock ≠ v'.ownBlock) := ho2'.2
        have HB : Hid (Below w.heap.size w W) := hb.trans hb2
        clear hr ho1 ho2 ho1' ho2' hk hb2 hb hc hM hpt hA hne
        generalize L t = lt at *
        generalize C t = cct at *
        go_wp2_with (at_builtin; refine wpList_append_ran (by rfl) _ _ 63 (by rfl) _ _ _ _ (by rfl) (by rfl) R2.out ?_)
        go_wp2
        go_round
        case rel => exact ⟨t + 1, by omega, by go_num, H1.out, H2.out, H3.out, HB.out⟩
        case measure => simp [intOf]; omega
    · have : t = n := by omega
      subst this
      have H1 : Hid _ := ho1
      have H2 : Hid _ := ho2
      clear ho1 ho2 hne
      go_wp2
      go_ret2
      exact ⟨_, _, rfl, H1.out, H2.out, hb⟩

set_option maxRecDepth 100000 in
set_option maxHeartbeats 2000000 in
theorem taken_any (a a2 : Option Addr) (n c m c2 : Nat) (A : Nat → Option Addr) (L C : Nat → Nat) (F : Nat → Nat → Nat) (q : Nat → Nat) (w : World) (h : Mat w a n A L C F) (hi : IRow w a2 m (fun i => ((q i : Nat) : Int))) (hn : n ≤ 900) (hm : m ≤ 900) (hq : ∀ i, i < m → q i < n) :
    Calls Try.prog 32 #[.slice a n c, .slice a2 m c2] w fun e w' => ∃ v, e = .returned v ∧ Rws w' w.heap.size v m (fun i => L (q i)) (fun i => F (q i)) ∧ Below w.heap.size w w' := by
  have HM : Hid (Mat w a n A L C F) := h
  have HI : Hid (IRow w a2 m (fun i => ((q i : Nat) : Int))) := hi
  have HQ : Hid (∀ i, i < m → q i < n) := hq
  clear h hi hq
  go_enter Try.func32, Try.ntmps32
  go_wp2
  go_loopw [5, 10] (fun v i wr => ∃ t : Nat, t ≤ m ∧ i = .int .i64 t ∧ Rws wr w.heap.size v t (fun i => L (q i)) (fun i => F (q i)) ∧ Below w.heap.size w wr) (fun _ i _ => m - (intOf i).toNat)
  case atStart => exact ⟨0, by omega, rfl, Rws.start w w.heap.size _ _, Below.refl _ _⟩
  case round =>
    obtain ⟨t, ht, rfl, hbl, hb⟩ := hrel
    by_cases hlt : t < m
    · have it : (t : Int) < (m : Int) := by omega
      have hqt := HQ.out t hlt
      have iq : ((q t : Nat) : Int) < (n : Int) := by omega
      have hM := HM.out.keep hb
      obtain ⟨b, o, rfl, hc⟩ := hM.lies (by omega)
      have cq := hc (q t) hqt
      obtain ⟨b2, o2, rfl, hc2⟩ := (HI.out.keep hb) (by omega)
      have ct : wr.cell? ⟨b2, o2 + t, none⟩ = some (.int .i64 ((q t : Nat) : Int)) := hc2 t hlt
      obtain ⟨v', W2, hr2, hbl2, hb2⟩ := hbl.push (c := C (q t)) Try.underlying27 (Below.refl wr.heap.size wr) hb.size (hM.row (q t) hqt) (fun hz ad e x => by
        obtain ⟨b', o', e', hc'⟩ := (HM.out.row (q t) hqt).lies hz
        rw [e] at e'; injection e' with e'; subst e'
        have h1 := block_lt_of_cell (hc' 0 hz)
        have h2 := hbl.lt b' x.symm
        simp only at h1
        omega) (fun e => hM.nil (q t) hqt e) (fun _ _ => rfl) (fun i j => HM.out.lt _ _) (by omega)
      have R2 : Hid _ := hr2
      have HB : Hid (Rws W2 w.heap.size v' (t + 1) (fun i => L (q i)) (fun i => F (q i))) := hbl2
      have HW : Hid (Below w.heap.size w W2) := hb.trans hb2
      clear hr2 hbl hbl2 hb2 hb hM hc hc2 HM
      generalize A (q t) = aq at *
      generalize C (q t) = cq' at *
      generalize L (q t) = lq at *
      generalize q t = qt at *
      go_wp2_with (at_builtin; refine wpList_append_ran (by rfl) _ _ 27 (by rfl) _ _ _ _ (by rfl) (by rfl) R2.out ?_)
      go_wp2
      go_round
      case rel => exact ⟨t + 1, by omega, by go_num, HB.out, HW.out⟩
      case measure => simp [intOf]; omega
    · have : t = m := by omega
      subst this
      have HB : Hid _ := hbl
      clear hbl
      go_wp2
      go_ret
      exact ⟨_, rfl, HB.out, hb⟩
end Go.Proofs.Ytbfhmdphhhjlnaa
