/-
  A square of bytes in memory of its own, whose rows are written in place and exchanged; and what the document's own Good and Square do.
-/
import Derived.Test.YtbfhmdphhhjlnaaInts
namespace Go.Proofs.Ytbfhmdphhhjlnaa
open Go.RowKit Gf
attribute [local go_sem ↓] Go.wp_at_zero Go.wp_at_succ

/-- Headers in block hb, row i in block G i; all these blocks are unlike, and from lo to below top. -/
structure Sq (w : World) (lo top hb n : Nat) (G C : Nat → Nat) (F : Nat → Nat → Nat) : Prop where
  hdr : ∀ i, i < n → w.cell? ⟨hb, i, none⟩ = some (.slice (some ⟨G i, 0, none⟩) n (C i))
  hsoft : ∀ i, i < n → w.frozen? ⟨hb, i, none⟩ = false
  cell : ∀ i, i < n → ∀ j, j < n → w.cell? ⟨G i, j, none⟩ = some (.int .u8 ((F i j : Nat) : Int))
  soft : ∀ i, i < n → ∀ j, j < n → w.frozen? ⟨G i, j, none⟩ = false
  ne : ∀ i, i < n → G i ≠ hb
  inj : ∀ i j, i < n → j < n → G i = G j → i = j
  hin : lo ≤ hb ∧ hb < top
  gin : ∀ i, i < n → lo ≤ G i ∧ G i < top

theorem Sq.congr {w : World} {lo top hb n : Nat} {G C : Nat → Nat} {F F' : Nat → Nat → Nat} (s : Sq w lo top hb n G C F) (e : ∀ i, i < n → ∀ j, j < n → F i j = F' i j) : Sq w lo top hb n G C F' :=
  ⟨s.hdr, s.hsoft, fun i hi j hj => by rw [s.cell i hi j hj, e i hi j hj], s.soft, s.ne, s.inj, s.hin, s.gin⟩
theorem Sq.drewN {w : World} {lo top hb n : Nat} {G C : Nat → Nat} {F : Nat → Nat → Nat} (s : Sq w lo top hb n G C F) (k : Nat) : Sq (w.drewN k) lo top hb n G C F :=
  ⟨s.hdr, s.hsoft, s.cell, s.soft, s.ne, s.inj, s.hin, s.gin⟩
theorem Sq.keep {w w' : World} {lo top hb n B' : Nat} {G C : Nat → Nat} {F : Nat → Nat → Nat} (s : Sq w lo top hb n G C F) (h : Below B' w w') (ht : top ≤ B') : Sq w' lo top hb n G C F := by
  have hh : hb < B' := by have := s.hin.2; omega
  have hg : ∀ i, i < n → G i < B' := fun i hi => by have := (s.gin i hi).2; omega
  exact ⟨fun i hi => (h.cell (p := ⟨hb, i, none⟩) hh).trans (s.hdr i hi), fun i hi => (h.frozen (p := ⟨hb, i, none⟩) hh).trans (s.hsoft i hi), fun i hi j hj => (h.cell (p := ⟨G i, j, none⟩) (hg i hi)).trans (s.cell i hi j hj), fun i hi j hj => (h.frozen (p := ⟨G i, j, none⟩) (hg i hi)).trans (s.soft i hi j hj), s.ne, s.inj, s.hin, s.gin⟩
theorem Sq.far {w : World} {lo top hb n b o : Nat} {v : Value} {G C : Nat → Nat} {F : Nat → Nat → Nat} (s : Sq w lo top hb n G C F) (h : b < lo ∨ top ≤ b) : Sq (w.setCell ⟨b, o, none⟩ v) lo top hb n G C F := by
  have hh : b ≠ hb := by have := s.hin; omega
  have hg : ∀ i, i < n → b ≠ G i := fun i hi => by have := s.gin i hi; omega
  exact ⟨fun i hi => by rw [cell_far hh]; exact s.hdr i hi, fun i hi => by rw [World.frozen?_setCell]; exact s.hsoft i hi, fun i hi j hj => by rw [cell_far (hg i hi)]; exact s.cell i hi j hj, fun i hi j hj => by rw [World.frozen?_setCell]; exact s.soft i hi j hj, s.ne, s.inj, s.hin, s.gin⟩
theorem Sq.put {w : World} {lo top hb n i j x : Nat} {G C : Nat → Nat} {F : Nat → Nat → Nat} (s : Sq w lo top hb n G C F) (hi : i < n) (hj : j < n) : Sq (w.setCell ⟨G i, j, none⟩ (.int .u8 ((x : Nat) : Int))) lo top hb n G C (put F i j x) := by
  refine ⟨fun r hr => by rw [cell_far (s.ne i hi)]; exact s.hdr r hr, fun r hr => by rw [World.frozen?_setCell]; exact s.hsoft r hr, fun r hr c hc => ?_, fun r hr c hc => by rw [World.frozen?_setCell]; exact s.soft r hr c hc, s.ne, s.inj, s.hin, s.gin⟩
  unfold Ytbfhmdphhhjlnaa.put
  by_cases e : r = i
  · subst e
    by_cases e2 : c = j
    · subst e2; rw [cell_same (s.cell r hr c hc), if_pos ⟨rfl, rfl⟩]
    · rw [cell_other (fun q => e2 q.symm), if_neg (fun q => e2 q.2)]; exact s.cell r hr c hc
  · rw [cell_far (fun q => e (s.inj r i hr hi q.symm)), if_neg (fun q => e q.1)]; exact s.cell r hr c hc
/-- Two numbers exchanged. -/
def swn {α : Type} (c p : Nat) (f : Nat → α) : Nat → α := fun i => if i = c then f p else if i = p then f c else f i
theorem Sq.swap {w : World} {lo top hb n c p : Nat} {G C : Nat → Nat} {F : Nat → Nat → Nat} (s : Sq w lo top hb n G C F) (hc : c < n) (hp : p < n) :
    Sq ((w.setCell ⟨hb, c, none⟩ (.slice (some ⟨G p, 0, none⟩) n (C p))).setCell ⟨hb, p, none⟩ (.slice (some ⟨G c, 0, none⟩) n (C c))) lo top hb n (swn c p G) (swn c p C) (swp c p F) := by
  have pick : ∀ i, i < n → ∃ r, r < n ∧ swn c p G i = G r ∧ swn c p C i = C r ∧ swp c p F i = F r := fun i hi => by
    unfold swn swp
    by_cases e : i = c
    · exact ⟨p, hp, by rw [if_pos e], by rw [if_pos e], by rw [if_pos e]⟩
    · by_cases q : i = p
      · exact ⟨c, hc, by rw [if_neg e, if_pos q], by rw [if_neg e, if_pos q], by rw [if_neg e, if_pos q]⟩
      · exact ⟨i, hi, by rw [if_neg e, if_neg q], by rw [if_neg e, if_neg q], by rw [if_neg e, if_neg q]⟩
  have cellG : ∀ r, r < n → ∀ j, j < n → ((w.setCell ⟨hb, c, none⟩ (.slice (some ⟨G p, 0, none⟩) n (C p))).setCell ⟨hb, p, none⟩ (.slice (some ⟨G c, 0, none⟩) n (C c))).cell? ⟨G r, j, none⟩ = some (.int .u8 ((F r j : Nat) : Int)) := fun r hr j hj => by
    rw [cell_far (fun q => s.ne r hr q.symm), cell_far (fun q => s.ne r hr q.symm)]; exact s.cell r hr j hj
  refine ⟨fun i hi => ?_, fun i hi => by rw [World.frozen?_setCell, World.frozen?_setCell]; exact s.hsoft i hi, fun i hi j hj => ?_, fun i hi j hj => ?_, fun i hi => ?_, fun i j hi hj e => ?_, s.hin, fun i hi => ?_⟩
  · have hcell1 : (w.setCell ⟨hb, c, none⟩ (.slice (some ⟨G p, 0, none⟩) n (C p))).cell? ⟨hb, p, none⟩ = some (.slice (some ⟨G p, 0, none⟩) n (C p)) := by
      by_cases e : p = c
      · subst e; exact cell_same (s.hdr p hp)
      · rw [cell_other (fun q => e q.symm)]; exact s.hdr p hp
    unfold swn
    by_cases q : i = p
    · subst q
      rw [cell_same hcell1]
      by_cases e : i = c
      · rw [if_pos e, if_pos e, e]
      · rw [if_neg e, if_neg e, if_pos rfl, if_pos rfl]
    · rw [cell_other (fun x => q x.symm)]
      by_cases e : i = c
      · subst e; rw [cell_same (s.hdr i hi), if_pos rfl, if_pos rfl]
      · rw [cell_other (fun x => e x.symm), if_neg e, if_neg e, if_neg q, if_neg q]; exact s.hdr i hi
  · obtain ⟨r, hr, e1, _, e3⟩ := pick i hi
    rw [e1, e3]; exact cellG r hr j hj
  · obtain ⟨r, hr, e1, _, _⟩ := pick i hi
    rw [e1, World.frozen?_setCell, World.frozen?_setCell]; exact s.soft r hr j hj
  · obtain ⟨r, hr, e1, _, _⟩ := pick i hi
    rw [e1]; exact s.ne r hr
  · have idx : ∀ i, swn c p G i = G (if i = c then p else if i = p then c else i) := fun i => by
      unfold swn
      by_cases e : i = c
      · rw [if_pos e, if_pos e]
      · rw [if_neg e, if_neg e]
        by_cases q : i = p
        · rw [if_pos q, if_pos q]
        · rw [if_neg q, if_neg q]
    rw [idx, idx] at e
    have := s.inj _ _ (by split; omega; split <;> omega) (by split; omega; split <;> omega) e
    revert this
    split <;> split <;> (try split) <;> (try split) <;> intro this <;> omega
  · obtain ⟨r, hr, e1, _, _⟩ := pick i hi
    rw [e1]; exact s.gin r hr
theorem Sq.mat {w : World} {lo top hb n : Nat} {G C : Nat → Nat} {F : Nat → Nat → Nat} (s : Sq w lo top hb n G C F) (hn : n ≤ 9223372036854775807) (hF : B F) : Mat w (some ⟨hb, 0, none⟩) n (fun i => some ⟨G i, 0, none⟩) (fun _ => n) C F :=
  ⟨fun _ => ⟨hb, 0, rfl, fun i hi => by rw [Nat.zero_add]; exact s.hdr i hi⟩, fun i hi => ⟨hF i, fun _ => ⟨G i, 0, rfl, fun j hj => by rw [Nat.zero_add]; exact s.cell i hi j hj⟩⟩, fun _ _ e => (by cases e), fun _ => hn, hF⟩

theorem Bld.sq {w : World} {base n : Nat} {v : Value} {A : Nat → Option Addr} {C : Nat → Nat} {F : Nat → Nat → Nat} (b : Bld w base v n A (fun _ => n) C F) (hn : 1 ≤ n) : ∃ hb c G, v = .slice (some ⟨hb, 0, none⟩) n c ∧ Sq w base w.heap.size hb n G C F := by
  rcases b.own.2 with ⟨_, e⟩ | ⟨hb, cap, cur, e, hbase, hheap, _⟩
  · omega
  · subst e
    have hA : ∀ i, i < n → A i = some ⟨((A i).getD ⟨0, 0, none⟩).block, 0, none⟩ := fun i hi => by
      cases q : A i with
      | none => have := (b.nil i hi q).1; omega
      | some ad => rw [Option.getD_some]; exact congrArg some (b.blk i hi ad q).1
    have hB : ∀ i, i < n → some ((A i).getD ⟨0, 0, none⟩).block ≠ some hb ∧ base ≤ ((A i).getD ⟨0, 0, none⟩).block ∧ ((A i).getD ⟨0, 0, none⟩).block < w.heap.size := fun i hi => (b.blk i hi _ (hA i hi)).2
    have hcell : ∀ i, i < n → w.cell? ⟨hb, i, none⟩ = some (.slice (A i) n (C i)) := fun i hi => by rw [b.own.cellAt i (by omega)]; simp [hi]
    refine ⟨hb, cap, fun i => ((A i).getD ⟨0, 0, none⟩).block, rfl, ⟨fun i hi => by rw [hcell i hi]; rw [← hA i hi], fun i hi => b.own.frozenAt i, fun i hi j hj => ?_, fun i hi j hj => b.soft i hi _ (hA i hi) j hj, fun i hi e => (hB i hi).1 (by rw [e]), fun i j hi hj e => b.inj i j hi hj _ _ (hA i hi) (hA j hj) e, ⟨hbase, block_lt_of_cell (hcell 0 (by omega))⟩, fun i hi => (hB i hi).2⟩⟩
    obtain ⟨bb, oo, e, hr⟩ := (b.row i hi).lies (by omega)
    rw [hA i hi] at e
    injection e with e
    injection e with e1 e2
    have := hr j hj
    rw [← e1, ← e2, Nat.zero_add] at this
    exact this

set_option maxRecDepth 100000 in
theorem good_yes (a : Option Addr) (n c : Nat) (A : Nat → Option Addr) (L C : Nat → Nat) (F : Nat → Nat → Nat) (w : World) (h : Mat w a n A L C F) (hm : IsM n L) :
    Calls Try.prog 49 #[.slice a n c] w fun e w' => e = .returned (.bool true) ∧ ∃ m, w' = w.drewN m := by
  obtain ⟨n1, n2, l1, l2, hl⟩ := hm
  obtain ⟨b, o, rfl, hc⟩ := h.lies (by omega)
  have c0 := hc 0 (by omega)
  simp only [Nat.add_zero] at c0
  have i0 : (0 : Int) < (n : Int) := by omega
  obtain ⟨l, hl0⟩ : ∃ l, L 0 = l := ⟨_, rfl⟩
  obtain ⟨c1, hc1⟩ : ∃ l, C 0 = l := ⟨_, rfl⟩
  obtain ⟨a1, ha1⟩ : ∃ l, A 0 = l := ⟨_, rfl⟩
  rw [hl0, hc1, ha1] at c0
  rw [hl0] at l1 l2
  have HC : Hid (∀ i, i < n → w.cell? ⟨b, o + i, none⟩ = some (.slice (A i) l (C i))) := fun i hi => by rw [hc i hi, hl i hi, hl0]
  clear hc hl hl0 hc1 ha1 h
  go_enter Try.func49, Try.ntmps49
  go_wp2
  go_loopw [3] (fun v wr => ∃ k m : Nat, k ≤ n ∧ v = .int .i64 k ∧ wr = w.drewN m) (fun v _ => n - (intOf v).toNat)
  case atStart => exact ⟨0, 0, by omega, rfl, rfl⟩
  case round =>
    obtain ⟨k, m, hk, rfl, rfl⟩ := hrel
    by_cases hlt : k < n
    · have ck := HC.out k hlt
      have ik : (k : Int) < (n : Int) := by omega
      generalize A k = ak at ck
      generalize C k = cck at ck
      go_wp2
      go_quiet (fail)
      go_wp2
      go_round
      case rel => exact ⟨k + 1, _, by omega, by go_num, rfl⟩
      case measure => simp [intOf]; omega
    · have : k = n := by omega
      subst this
      go_wp2
      go_ret
      exact ⟨rfl, _, rfl⟩

set_option maxRecDepth 100000 in
theorem rsquare_yes (a : Option Addr) (n c : Nat) (A : Nat → Option Addr) (C : Nat → Nat) (F : Nat → Nat → Nat) (w : World) (h : Mat w a n A (fun _ => n) C F) (n1 : 1 ≤ n) (n2 : n ≤ 255) :
    Calls Try.prog 50 #[.slice a n c] w fun e w' => e = .returned (.bool true) ∧ ∃ m, w' = w.drewN m := by
  have cM := good_yes a n c A (fun _ => n) C F w h (isM_const n1 n2 n1 n2)
  obtain ⟨b, o, rfl, hc⟩ := h.lies (by omega)
  have c0 := hc 0 (by omega)
  simp only [Nat.add_zero] at c0
  have i0 : (0 : Int) < (n : Int) := by omega
  generalize A 0 = a1 at c0
  generalize C 0 = c1 at c0
  clear hc h
  go_enter Try.func50, Try.ntmps50
  go_wp2_with fail
  go_at_call 49
  refine cM.mono ?_
  rintro e w' ⟨rfl, m, rfl⟩
  go_wp2
  go_ret
  exact ⟨rfl, _, rfl⟩
end Go.Proofs.Ytbfhmdphhhjlnaa
