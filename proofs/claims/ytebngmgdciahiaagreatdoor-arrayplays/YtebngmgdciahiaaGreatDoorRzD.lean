/-
  Arithmetic of the field and of codes (texts of stages 1 to 3, one behind the other, in a namespace of their own).
-/
import Derived.Test.YtebngmgdciahiaaGreatDoorRzC
import Derived.StillTailTactics
set_option maxRecDepth 100000
namespace Go.Proofs.YtebngmgdciahiaaGreatDoor.Rz
open Go.RowKit Gf
attribute [local go_sem ↓] Go.wp_at_zero Go.wp_at_succ

/-- Headers in block hb, row i in block G i; all these blocks are unlike, and from lo to below top. -/
structure Sq (w : World) (lo top hb n : Nat) (G C : Nat → Nat) (F : Nat → Nat → Nat) : Prop where
  hdr : ∀ i, i < n → w.cell? ⟨hb, i, none⟩ = some (.slice (some ⟨G i, 0, none⟩) n (C i))
  hsoft : ∀ i, i < n → w.frozen? ⟨hb, i, none⟩ = false
  cell : ∀ i, i < n → ∀ j, j < n → w.cell? ⟨G i, j, none⟩ = some (.int .u8 ((F i j : Nat) : Int))
  soft : ∀ i, i < n → ∀ j, j < n → w.frozen? ⟨G i, j, none⟩ = false
  ne : ∀ i, i < n → G i ≠ hb
  inj : ∀ i j, i < n → j < n → G i = G j → i = j
  hin : lo ≤ hb ∧ hb < top
  gin : ∀ i, i < n → lo ≤ G i ∧ G i < top

theorem Sq.congr {w : World} {lo top hb n : Nat} {G C : Nat → Nat} {F F' : Nat → Nat → Nat} (s : Sq w lo top hb n G C F) (e : ∀ i, i < n → ∀ j, j < n → F i j = F' i j) : Sq w lo top hb n G C F' :=
  ⟨s.hdr, s.hsoft, fun i hi j hj => by rw [s.cell i hi j hj, e i hi j hj], s.soft, s.ne, s.inj, s.hin, s.gin⟩
theorem Sq.drewN {w : World} {lo top hb n : Nat} {G C : Nat → Nat} {F : Nat → Nat → Nat} (s : Sq w lo top hb n G C F) (k : Nat) : Sq (w.drewN k) lo top hb n G C F :=
  ⟨s.hdr, s.hsoft, s.cell, s.soft, s.ne, s.inj, s.hin, s.gin⟩
theorem Sq.keep {w w' : World} {lo top hb n B' : Nat} {G C : Nat → Nat} {F : Nat → Nat → Nat} (s : Sq w lo top hb n G C F) (h : Below B' w w') (ht : top ≤ B') : Sq w' lo top hb n G C F := by
  have hh : hb < B' := by have := s.hin.2; omega
  have hg : ∀ i, i < n → G i < B' := fun i hi => by have := (s.gin i hi).2; omega
  exact ⟨fun i hi => (h.cell (p := ⟨hb, i, none⟩) hh).trans (s.hdr i hi), fun i hi => (h.frozen (p := ⟨hb, i, none⟩) hh).trans (s.hsoft i hi), fun i hi j hj => (h.cell (p := ⟨G i, j, none⟩) (hg i hi)).trans (s.cell i hi j hj), fun i hi j hj => (h.frozen (p := ⟨G i, j, none⟩) (hg i hi)).trans (s.soft i hi j hj), s.ne, s.inj, s.hin, s.gin⟩
theorem Sq.far {w : World} {lo top hb n b o : Nat} {v : Value} {G C : Nat → Nat} {F : Nat → Nat → Nat} (s : Sq w lo top hb n G C F) (h : b < lo ∨ top ≤ b) : Sq (w.setCell ⟨b, o, none⟩ v) lo top hb n G C F := by
  have hh : b ≠ hb := by have := s.hin; omega
  have hg : ∀ i, i < n → b ≠ G i := fun i hi => by have := s.gin i hi; omega
  exact ⟨fun i hi => by rw [cell_far hh]; exact s.hdr i hi, fun i hi => by rw [World.frozen?_setCell]; exact s.hsoft i hi, fun i hi j hj => by rw [cell_far (hg i hi)]; exact s.cell i hi j hj, fun i hi j hj => by rw [World.frozen?_setCell]; exact s.soft i hi j hj, s.ne, s.inj, s.hin, s.gin⟩
theorem Sq.put {w : World} {lo top hb n i j x : Nat} {G C : Nat → Nat} {F : Nat → Nat → Nat} (s : Sq w lo top hb n G C F) (hi : i < n) (hj : j < n) : Sq (w.setCell ⟨G i, j, none⟩ (.int .u8 ((x : Nat) : Int))) lo top hb n G C (put F i j x) := by
  refine ⟨fun r hr => by rw [cell_far (s.ne i hi)]; exact s.hdr r hr, fun r hr => by rw [World.frozen?_setCell]; exact s.hsoft r hr, fun r hr c hc => ?_, fun r hr c hc => by rw [World.frozen?_setCell]; exact s.soft r hr c hc, s.ne, s.inj, s.hin, s.gin⟩
  unfold YtebngmgdciahiaaGreatDoor.Rz.put
  by_cases e : r = i
  · subst e
    by_cases e2 : c = j
    · subst e2; rw [cell_same (s.cell r hr c hc), if_pos ⟨rfl, rfl⟩]
    · rw [cell_other (fun q => e2 q.symm), if_neg (fun q => e2 q.2)]; exact s.cell r hr c hc
  · rw [cell_far (fun q => e (s.inj r i hr hi q.symm)), if_neg (fun q => e q.1)]; exact s.cell r hr c hc
/-- Two numbers exchanged. -/
def swn {α : Type} (c p : Nat) (f : Nat → α) : Nat → α := fun i => if i = c then f p else if i = p then f c else f i
theorem Sq.swap {w : World} {lo top hb n c p : Nat} {G C : Nat → Nat} {F : Nat → Nat → Nat} (s : Sq w lo top hb n G C F) (hc : c < n) (hp : p < n) :
    Sq ((w.setCell ⟨hb, c, none⟩ (.slice (some ⟨G p, 0, none⟩) n (C p))).setCell ⟨hb, p, none⟩ (.slice (some ⟨G c, 0, none⟩) n (C c))) lo top hb n (swn c p G) (swn c p C) (swp c p F) := by
  have pick : ∀ i, i < n → ∃ r, r < n ∧ swn c p G i = G r ∧ swn c p C i = C r ∧ swp c p F i = F r := fun i hi => by
    unfold swn swp
    by_cases e : i = c
    · exact ⟨p, hp, by rw [if_pos e], by rw [if_pos e], by rw [if_pos e]⟩
    · by_cases q : i = p
      · exact ⟨c, hc, by rw [if_neg e, if_pos q], by rw [if_neg e, if_pos q], by rw [if_neg e, if_pos q]⟩
      · exact ⟨i, hi, by rw [if_neg e, if_neg q], by rw [if_neg e, if_neg q], by rw [if_neg e, if_neg q]⟩
  have cellG : ∀ r, r < n → ∀ j, j < n → ((w.setCell ⟨hb, c, none⟩ (.slice (some ⟨G p, 0, none⟩) n (C p))).setCell ⟨hb, p, none⟩ (.slice (some ⟨G c, 0, none⟩) n (C c))).cell? ⟨G r, j, none⟩ = some (.int .u8 ((F r j : Nat) : Int)) := fun r hr j hj => by
    rw [cell_far (fun q => s.ne r hr q.symm), cell_far (fun q => s.ne r hr q.symm)]; exact s.cell r hr j hj
  refine ⟨fun i hi => ?_, fun i hi => by rw [World.frozen?_setCell, World.frozen?_setCell]; exact s.hsoft i hi, fun i hi j hj => ?_, fun i hi j hj => ?_, fun i hi => ?_, fun i j hi hj e => ?_, s.hin, fun i hi => ?_⟩
  · have hcell1 : (w.setCell ⟨hb, c, none⟩ (.slice (some ⟨G p, 0, none⟩) n (C p))).cell? ⟨hb, p, none⟩ = some (.slice (some ⟨G p, 0, none⟩) n (C p)) := by
      by_cases e : p = c
      · subst e; exact cell_same (s.hdr p hp)
      · rw [cell_other (fun q => e q.symm)]; exact s.hdr p hp
    unfold swn
    by_cases q : i = p
    · subst q
      rw [cell_same hcell1]
      by_cases e : i = c
      · rw [if_pos e, if_pos e, e]
      · rw [if_neg e, if_neg e, if_pos rfl, if_pos rfl]
    · rw [cell_other (fun x => q x.symm)]
      by_cases e : i = c
      · subst e; rw [cell_same (s.hdr i hi), if_pos rfl, if_pos rfl]
      · rw [cell_other (fun x => e x.symm), if_neg e, if_neg e, if_neg q, if_neg q]; exact s.hdr i hi
  · obtain ⟨r, hr, e1, _, e3⟩ := pick i hi
    rw [e1, e3]; exact cellG r hr j hj
  · obtain ⟨r, hr, e1, _, _⟩ := pick i hi
    rw [e1, World.frozen?_setCell, World.frozen?_setCell]; exact s.soft r hr j hj
  · obtain ⟨r, hr, e1, _, _⟩ := pick i hi
    rw [e1]; exact s.ne r hr
  · have idx : ∀ i, swn c p G i = G (if i = c then p else if i = p then c else i) := fun i => by
      unfold swn
      by_cases e : i = c
      · rw [if_pos e, if_pos e]
      · rw [if_neg e, if_neg e]
        by_cases q : i = p
        · rw [if_pos q, if_pos q]
        · rw [if_neg q, if_neg q]
    rw [idx, idx] at e
    have := s.inj _ _ (by split; omega; split <;> omega) (by split; omega; split <;> omega) e
    revert this
    split <;> split <;> (try split) <;> (try split) <;> intro this <;> omega
  · obtain ⟨r, hr, e1, _, _⟩ := pick i hi
    rw [e1]; exact s.gin r hr
theorem Sq.mat {w : World} {lo top hb n : Nat} {G C : Nat → Nat} {F : Nat → Nat → Nat} (s : Sq w lo top hb n G C F) (hn : n ≤ 9223372036854775807) (hF : B F) : Mat w (some ⟨hb, 0, none⟩) n (fun i => some ⟨G i, 0, none⟩) (fun _ => n) C F :=
  ⟨fun _ => ⟨hb, 0, rfl, fun i hi => by rw [Nat.zero_add]; exact s.hdr i hi⟩, fun i hi => ⟨hF i, fun _ => ⟨G i, 0, rfl, fun j hj => by rw [Nat.zero_add]; exact s.cell i hi j hj⟩⟩, fun _ _ e => (by cases e), fun _ => hn, hF⟩

theorem Bld.sq {w : World} {base n : Nat} {v : Value} {A : Nat → Option Addr} {C : Nat → Nat} {F : Nat → Nat → Nat} (b : Bld w base v n A (fun _ => n) C F) (hn : 1 ≤ n) : ∃ hb c G, v = .slice (some ⟨hb, 0, none⟩) n c ∧ Sq w base w.heap.size hb n G C F := by
  rcases b.own.2 with ⟨_, e⟩ | ⟨hb, cap, cur, e, hbase, hheap, _⟩
  · omega
  · subst e
    have hA : ∀ i, i < n → A i = some ⟨((A i).getD ⟨0, 0, none⟩).block, 0, none⟩ := fun i hi => by
      cases q : A i with
      | none => have := (b.nil i hi q).1; omega
      | some ad => rw [Option.getD_some]; exact congrArg some (b.blk i hi ad q).1
    have hB : ∀ i, i < n → some ((A i).getD ⟨0, 0, none⟩).block ≠ some hb ∧ base ≤ ((A i).getD ⟨0, 0, none⟩).block ∧ ((A i).getD ⟨0, 0, none⟩).block < w.heap.size := fun i hi => (b.blk i hi _ (hA i hi)).2
    have hcell : ∀ i, i < n → w.cell? ⟨hb, i, none⟩ = some (.slice (A i) n (C i)) := fun i hi => by rw [b.own.cellAt i (by omega)]; simp [hi]
    refine ⟨hb, cap, fun i => ((A i).getD ⟨0, 0, none⟩).block, rfl, ⟨fun i hi => by rw [hcell i hi]; rw [← hA i hi], fun i hi => b.own.frozenAt i, fun i hi j hj => ?_, fun i hi j hj => b.soft i hi _ (hA i hi) j hj, fun i hi e => (hB i hi).1 (by rw [e]), fun i j hi hj e => b.inj i j hi hj _ _ (hA i hi) (hA j hj) e, ⟨hbase, block_lt_of_cell (hcell 0 (by omega))⟩, fun i hi => (hB i hi).2⟩⟩
    obtain ⟨bb, oo, e, hr⟩ := (b.row i hi).lies (by omega)
    rw [hA i hi] at e
    injection e with e
    injection e with e1 e2
    have := hr j hj
    rw [← e1, ← e2, Nat.zero_add] at this
    exact this

set_option maxRecDepth 100000 in
theorem good_yes (a : Option Addr) (n c : Nat) (A : Nat → Option Addr) (L C : Nat → Nat) (F : Nat → Nat → Nat) (w : World) (h : Mat w a n A L C F) (hm : IsM n L) :
    Calls Tryz.prog 145 #[.slice a n c] w fun e w' => e = .returned (.bool true) ∧ ∃ m, w' = w.drewN m := by
  obtain ⟨n1, n2, l1, l2, hl⟩ := hm
  obtain ⟨b, o, rfl, hc⟩ := h.lies (by omega)
  have c0 := hc 0 (by omega)
  simp only [Nat.add_zero] at c0
  have i0 : (0 : Int) < (n : Int) := by omega
  obtain ⟨l, hl0⟩ : ∃ l, L 0 = l := ⟨_, rfl⟩
  obtain ⟨c1, hc1⟩ : ∃ l, C 0 = l := ⟨_, rfl⟩
  obtain ⟨a1, ha1⟩ : ∃ l, A 0 = l := ⟨_, rfl⟩
  rw [hl0, hc1, ha1] at c0
  rw [hl0] at l1 l2
  have HC : Hid (∀ i, i < n → w.cell? ⟨b, o + i, none⟩ = some (.slice (A i) l (C i))) := fun i hi => by rw [hc i hi, hl i hi, hl0]
  clear hc hl hl0 hc1 ha1 h
  go_enter Tryz.func145, Tryz.ntmps145
  go_wp2
  go_loopw [3] (fun v wr => ∃ k m : Nat, k ≤ n ∧ v = .int .i64 k ∧ wr = w.drewN m) (fun v _ => n - (intOf v).toNat)
  case atStart => exact ⟨0, 0, by omega, rfl, rfl⟩
  case round =>
    obtain ⟨k, m, hk, rfl, rfl⟩ := hrel
    by_cases hlt : k < n
    · have ck := HC.out k hlt
      have ik : (k : Int) < (n : Int) := by omega
      generalize A k = ak at ck
      generalize C k = cck at ck
      go_wp2
      go_quiet (fail)
      go_wp2
      go_round
      case rel => exact ⟨k + 1, _, by omega, by go_num, rfl⟩
      case measure => simp [intOf]; omega
    · have : k = n := by omega
      subst this
      go_wp2
      go_ret
      exact ⟨rfl, _, rfl⟩

set_option maxRecDepth 100000 in
theorem rsquare_yes (a : Option Addr) (n c : Nat) (A : Nat → Option Addr) (C : Nat → Nat) (F : Nat → Nat → Nat) (w : World) (h : Mat w a n A (fun _ => n) C F) (n1 : 1 ≤ n) (n2 : n ≤ 255) :
    Calls Tryz.prog 140 #[.slice a n c] w fun e w' => e = .returned (.bool true) ∧ ∃ m, w' = w.drewN m := by
  have cM := good_yes a n c A (fun _ => n) C F w h (isM_const n1 n2 n1 n2)
  obtain ⟨b, o, rfl, hc⟩ := h.lies (by omega)
  have c0 := hc 0 (by omega)
  simp only [Nat.add_zero] at c0
  have i0 : (0 : Int) < (n : Int) := by omega
  generalize A 0 = a1 at c0
  generalize C 0 = c1 at c0
  clear hc h
  go_enter Tryz.func140, Tryz.ntmps140
  go_wp2_with fail
  go_at_call 145
  refine cM.mono ?_
  rintro e w' ⟨rfl, m, rfl⟩
  go_wp2
  go_ret
  exact ⟨rfl, _, rfl⟩
end Go.Proofs.YtebngmgdciahiaaGreatDoor.Rz

namespace Go.Proofs.YtebngmgdciahiaaGreatDoor.Rz
open Go.RowKit Gf
attribute [local go_sem ↓] Go.wp_at_zero Go.wp_at_succ

theorem rmul_still (x y : Nat) (w : World) (hx : x < 256) (hy : y < 256) :
    Calls Tryz.prog 144 #[.int .u8 x, .int .u8 y] w fun e w'' => e = .returned (.int .u8 (M x y : Nat)) ∧ w'' = w :=
  (rmul_any x y w hx hy).mono fun _ _ h => ⟨h.1, h.2.symm⟩

set_option maxRecDepth 100000 in
set_option maxHeartbeats 1000000 in
theorem rmulMat_any (a a' : Option Addr) (n m l c c' : Nat) (A A' : Nat → Option Addr) (C C' : Nat → Nat) (F G : Nat → Nat → Nat) (w : World) (h1 : Mat w a n A (fun _ => m) C F) (h2 : Mat w a' m A' (fun _ => l) C' G)
    (n1 : 1 ≤ n) (n2 : n ≤ 255) (m1 : 1 ≤ m) (m2 : m ≤ 255) (l1 : 1 ≤ l) (l2 : l ≤ 255) :
    Calls Tryz.prog 108 #[.slice a n c, .slice a' m c'] w fun e w' => ∃ v, e = .returned (.tuple #[v, .bool true]) ∧ Built w' w.heap.size v n (fun _ => l) (mm m F G) ∧ Below w.heap.size w w' := by
  have mk := run_make_row' (P := Tryz.prog) 27 5 (.int .u8 0) 1 Tryz.underlying27 info5 rfl .i64 .i64 l (by omega) (by omega)
  have H1 : Hid (Mat w a n A (fun _ => m) C F) := h1
  have H2 : Hid (Mat w a' m A' (fun _ => l) C' G) := h2
  have q1 := good_yes a n c A (fun _ => m) C F w h1 (isM_const n1 n2 m1 m2)
  have q2 := fun k => good_yes a' m c' A' (fun _ => l) C' G (w.drewN k) (h2.drewN k) (isM_const m1 m2 l1 l2)
  obtain ⟨ba, oa, rfl, hca⟩ := h1.lies (by omega)
  obtain ⟨bb, ob, rfl, hcb⟩ := h2.lies (by omega)
  have d1 := hca 0 (by omega)
  have d2 := hcb 0 (by omega)
  simp only [Nat.add_zero] at d1 d2
  have i1 : (0 : Int) < (n : Int) := by omega
  have i2 : (0 : Int) < (m : Int) := by omega
  have Ba : ba < w.heap.size := block_lt_of_cell d1
  have Bb : bb < w.heap.size := block_lt_of_cell d2
  have HCA : Hid (∀ i, i < n → w.cell? ⟨ba, oa + i, none⟩ = some (.slice (A i) m (C i))) := hca
  have HCB : Hid (∀ i, i < m → w.cell? ⟨bb, ob + i, none⟩ = some (.slice (A' i) l (C' i))) := hcb
  clear h1 h2 hca hcb
  have HD2 : Hid (∃ x y, w.cell? ⟨bb, ob, none⟩ = some (.slice x l y)) := ⟨_, _, d2⟩
  generalize A 0 = x1 at d1
  generalize C 0 = y1 at d1
  generalize A' 0 = x2 at d2
  generalize C' 0 = y2 at d2
  go_enter Tryz.func108, Tryz.ntmps108
  go_wp2_with fail
  go_at_call_of 145 (Value.slice (some ⟨ba, oa, none⟩) n c)
  refine q1.mono ?_
  rintro e w' ⟨rfl, k1, rfl⟩
  go_wp2_with fail
  go_at_call 145
  refine (q2 k1).mono ?_
  rintro e w' ⟨rfl, k2, rfl⟩
  clear q1 q2
  have b0 : Below w.heap.size w (w.drewN (k1 + k2)) := below_drewN (Below.refl _ _) (k1 + k2)
  have hB0 : Hid (Below w.heap.size w (w.drewN (k1 + k2))) := b0
  clear b0
  go_wp2
  go_loopw [6, 7] (fun v i wr => ∃ k : Nat, k ≤ n ∧ i = .int .i64 k ∧ Built wr w.heap.size v k (fun _ => l) (mm m F G) ∧ Below w.heap.size w wr) (fun _ i _ => n - (intOf i).toNat)
  case atStart => exact ⟨0, by omega, rfl, ⟨_, _, Bld.start _ w.heap.size (fun _ => none) (fun _ => l) (fun _ => 0) _⟩, hB0.out⟩
  case round =>
  obtain ⟨i, hi, rfl, hbl, hb⟩ := hrel
  rename World => wo
  by_cases hlt : i < n
  · have ii : (i : Int) < (n : Int) := by omega
    have d2' := (hb.cell (p := ⟨bb, ob, none⟩) Bb).trans d2
    obtain ⟨W, hW⟩ : ∃ W, W = wo.alloc (.cells (madeCells #[.int .u8 0] l) 5) := ⟨_, rfl⟩
    have mkr : Sem.run Tryz.prog (Instr.makeSlice 27 (.int .i64 (l : Int)) (.int .i64 (l : Int))) wo = .ok (.slice (some ⟨wo.heap.size, 0, none⟩) l l) W := by rw [hW]; exact mk wo
    have M0 : Hid (Made W wo.heap.size l (fun _ => 0)) := by rw [hW]; exact Made.start wo l
    have hb0 : Below wo.heap.size wo W := by rw [hW]; exact (Below.refl _ _).alloc (Nat.le_refl _) _
    have HBL : Hid (Built wo w.heap.size _ i (fun _ => l) (mm m F G)) := hbl
    have HAI : Hid (∃ b1 o1, A i = some ⟨b1, o1, none⟩ ∧ b1 < w.heap.size ∧ ∀ j, j < m → w.cell? ⟨b1, o1 + j, none⟩ = some (.int .u8 ((F i j : Nat) : Int))) := by
      obtain ⟨b1, o1, e, hr⟩ := (H1.out.row i hlt).lies (by omega)
      exact ⟨b1, o1, e, block_lt_of_cell (hr 0 (by omega)), hr⟩
    obtain ⟨b1, o1, eA, B1, hra⟩ := HAI.out
    have HRA : Hid (∀ j, j < m → w.cell? ⟨b1, o1 + j, none⟩ = some (.int .u8 ((F i j : Nat) : Int))) := hra
    have hci := HCA.out i hlt
    rw [eA] at hci
    have HCI : Hid (w.cell? ⟨ba, oa + i, none⟩ = some (.slice (some ⟨b1, o1, none⟩) m (C i))) := hci
    clear hW mk hbl HAI eA hra hci
    obtain ⟨G0, hG0⟩ : ∃ G0, wo.heap.size = G0 := ⟨_, rfl⟩
    have HG0 : Hid (wo.heap.size = G0) := hG0
    have hwG : w.heap.size ≤ G0 := by have := hb.size; omega
    rw [hG0] at mkr M0 hb0
    clear hG0
    go_wp2
    clear mkr d2'
    go_loopw [9] (fun v wr => ∃ k : Nat, k ≤ m ∧ v = .int .i64 k ∧ Made wr G0 l (fun c => xs k (fun s => M (F i s) (G s c))) ∧ Below G0 wo wr) (fun v _ => m - (intOf v).toNat)
    case atStart => exact ⟨0, by omega, rfl, M0.out, hb0⟩
    case round =>
    obtain ⟨k, hk, rfl, hmd, hbk⟩ := hrel
    clear M0 hb0
    have HMD : Hid (Made wr G0 l (fun c => xs k (fun s => M (F i s) (G s c)))) := hmd
    clear hmd
    by_cases hltk : k < m
    · have ikm : (k : Int) < (m : Int) := by omega
      obtain ⟨b2, o2, eB, hrb⟩ := (H2.out.row k hltk).lies (by omega)
      have B2 : b2 < w.heap.size := block_lt_of_cell (hrb 0 (by omega))
      have HRB : Hid (∀ j, j < l → w.cell? ⟨b2, o2 + j, none⟩ = some (.int .u8 ((G k j : Nat) : Int))) := hrb
      have hcb := HCB.out k hltk
      rw [eB] at hcb
      have HCK : Hid (w.cell? ⟨bb, ob + k, none⟩ = some (.slice (some ⟨b2, o2, none⟩) l (C' k))) := hcb
      clear eB hrb hcb
      go_wp2
      go_loopw [10] (fun v wr => ∃ t : Nat, t ≤ l ∧ v = .int .i64 t ∧ Made wr G0 l (fun c => if c < t then xs (k + 1) (fun s => M (F i s) (G s c)) else xs k (fun s => M (F i s) (G s c))) ∧ Below G0 wo wr) (fun v _ => l - (intOf v).toNat)
      case atStart => exact ⟨0, by omega, rfl, HMD.out.congr fun j _ => by rw [if_neg (by omega)], hbk⟩
      case round =>
      obtain ⟨t, ht, rfl, hmd, hbt⟩ := hrel
      clear HMD hbk
      by_cases hltt : t < l
      · have itl : (t : Int) < (l : Int) := by omega
        have hbw : Below w.heap.size w wr := hb.trans (hbt.mono hwG)
        have c0 := hmd.cell t hltt
        rw [if_neg (by omega)] at c0
        have f0 := hmd.soft t hltt
        have ca := (hbw.cell (p := ⟨ba, oa + i, none⟩) Ba).trans HCI.out
        have cai := (hbw.cell (p := ⟨b1, o1 + k, none⟩) B1).trans (HRA.out k hltk)
        have cb := (hbw.cell (p := ⟨bb, ob + k, none⟩) Bb).trans HCK.out
        have cbk := (hbw.cell (p := ⟨b2, o2 + t, none⟩) B2).trans (HRB.out t hltt)
        have lF := H1.out.lt i k
        have lG := H2.out.lt k t
        have lM := M_lt (G k t) lF
        have lu : xs k (fun s => M (F i s) (G s t)) < 256 := xs_lt fun s _ => M_lt _ (H1.out.lt i s)
        have cM := fun w => rmul_still (F i k) (G k t) w lF lG
        have hxx : bits .xor .u8 ((xs k (fun s => M (F i s) (G s t)) : Nat) : Int) ((M (F i k) (G k t) : Nat) : Int) = ((xs k (fun s => M (F i s) (G s t)) ^^^ M (F i k) (G k t) : Nat) : Int) := u8_xor_nat _ _ lu lM
        have lx := xor_lt lu lM
        have S1 : Hid (Made (wr.setCell ⟨G0, t, none⟩ (.int .u8 ((xs k (fun s => M (F i s) (G s t)) ^^^ M (F i k) (G k t) : Nat) : Int))).drew G0 l (fun c => if c < t + 1 then xs (k + 1) (fun s => M (F i s) (G s c)) else xs k (fun s => M (F i s) (G s c)))) := by
          have := (hmd.put (x := xs k (fun s => M (F i s) (G s t)) ^^^ M (F i k) (G k t)) hltt).congr (f' := fun c => if c < t + 1 then xs (k + 1) (fun s => M (F i s) (G s c)) else xs k (fun s => M (F i s) (G s c))) fun j hj => by
            unfold upd
            by_cases e : j = t
            · subst e; rw [if_pos rfl, if_pos (by omega)]; rfl
            · rw [if_neg e]
              dsimp only
              by_cases q : j < t
              · rw [if_pos q, if_pos (by omega)]
              · rw [if_neg q, if_neg (by omega)]
          exact ⟨this.cell, this.soft⟩
        have S2 : Hid (Below G0 wo (wr.setCell ⟨G0, t, none⟩ (.int .u8 ((xs k (fun s => M (F i s) (G s t)) ^^^ M (F i k) (G k t) : Nat) : Int))).drew) := (hbt.setCell (p := ⟨G0, t, none⟩) (Nat.le_refl _) _).drew
        clear hmd hbt hbw
        generalize xs k (fun s => M (F i s) (G s t)) = u at *
        generalize M (F i k) (G k t) = p at *
        generalize F i k = fx at *
        generalize G k t = gx at *
        generalize u ^^^ p = z at *
        generalize C i = cci at *
        generalize C' k = cck at *
        go_wp2
        refine wp_region_still_tail 22 (by kernel_rfl) (by kernel_rfl) ?_
        change wpStill _ _ wr.drew _ _ _
        simp only [List.take_succ_cons, List.take_zero, List.drop_succ_cons, List.drop_zero]
        repeat still_step
        still_call (cM _)
        repeat still_step
        refine wpStill_nil ?_
        go_wp2
        go_round
        case rel => exact ⟨t + 1, by omega, by go_num, S1.out, S2.out⟩
        case measure => simp [intOf]; omega
      · have : t = l := by omega
        subst this
        have HE : Hid (Made wr G0 t (fun c => xs (k + 1) (fun s => M (F i s) (G s c)))) := hmd.congr fun j hj => by rw [if_pos hj]
        clear hmd
        go_wp2
        go_round
        case rel => exact ⟨k + 1, by omega, by go_num, HE.out, hbt⟩
        case measure => simp [intOf]; omega
    · have : k = m := by omega
      subst this
      have hmd' : Made wr wo.heap.size l (mm k F G i) := by rw [HG0.out]; exact HMD.out
      have hbk' : Below wo.heap.size wo wr := by rw [HG0.out]; exact hbk
      obtain ⟨v', W2, hr2, hbl2, hb2⟩ := HBL.out.push (c := l) Tryz.underlying142 hbk' hb.size (hmd'.new (Nat.le_refl _) l1 (fun j => mm_B H1.out.lt i j)) (fun _ _ => rfl) (mm_B H1.out.lt) (by omega)
      rw [HG0.out] at hr2
      have R2 : Hid _ := hr2
      have HB : Hid (Built W2 w.heap.size v' (i + 1) (fun _ => l) (mm k F G)) := hbl2
      have HW : Hid (Below w.heap.size w W2) := hb.trans hb2
      clear hr2 hbl2 hb2 hb hmd' hbk hbk' HBL HMD
      go_wp2_with (at_builtin; refine wpList_append_ran (by rfl) _ _ 142 (by rfl) _ _ _ _ (by rfl) (by rfl) R2.out ?_)
      go_wp2
      go_round
      case rel => exact ⟨i + 1, by omega, by go_num, HB.out, HW.out⟩
      case measure => simp [intOf]; omega
  · have : i = n := by omega
    subst this
    have HB : Hid (Built wo w.heap.size _ i (fun _ => l) (mm m F G)) := hbl
    clear hbl mk
    go_wp2
    go_ret2
    exact ⟨_, rfl, HB.out, hb⟩
end Go.Proofs.YtebngmgdciahiaaGreatDoor.Rz

namespace Go.Proofs.YtebngmgdciahiaaGreatDoor.Rz
open Go

section
variable {P : Program} {ops : Array Oper} {md : Region.Mode} {w : World}

/-- For each operation below n but x waits a later one, up to n, that is not x. -/
def sinkX (md : Region.Mode) (ops : Array Oper) (n x : Nat) : Bool :=
  (List.range n).all fun i => decide (i = x) || (List.range (n + 1)).any fun j => decide (i < j ∧ j ≠ x) && Region.waitsFor md ops j i

theorem waits_out {listed : Array Bool} {t i : Nat} (h : Region.waitsFor md ops t i = true) (hun : listed.getD i false = false) : t ∉ Region.ready md ops listed := fun hr => by
  obtain ⟨_, ot, hot, hall⟩ := mem_ready.1 hr
  obtain ⟨o', ho', e, he, hb, hon⟩ := Region.waitsFor_spec h
  rw [hot] at ho'
  injection ho' with ho'
  subst ho'
  have := hall e he hb
  rw [hon, hun] at this
  cases this
theorem waits_un {n : Nat} {listed : Array Bool} (inv : HeadInv md ops n listed) {j i : Nat} (h : Region.waitsFor md ops j i = true) (hun : listed.getD i false = false) : listed.getD j false = false := by
  obtain ⟨oj, hoj, e, he, hb, hon⟩ := Region.waitsFor_spec h
  cases q : listed.getD j false with
  | false => rfl
  | true =>
    have := inv.closed j oj hoj q e he hb
    rw [hon, hun] at this
    cases this

theorem late {n x : Nat} {listed : Array Bool} (hs : sinkX md ops n x = true) (hc : Region.chainB md ops n = true) (hn : n < ops.size) (inv : HeadInv md ops n listed) :
    ∀ (d i : Nat), n - i = d → i < n → i ≠ x → listed.getD i false = false → ∀ t, t ∈ Region.ready md ops listed → t < n := by
  intro d
  induction d using Nat.strongRecOn with
  | _ d ih =>
    intro i hd hi hx hun t hr
    rcases Nat.lt_or_ge t n with h | h
    · exact h
    · exfalso
      rcases Nat.lt_or_ge n t with h' | h'
      · have hts : t < ops.size := by
          obtain ⟨_, ot, hot, _⟩ := mem_ready.1 hr
          exact (Array.getElem?_eq_some_iff.1 hot).1
        have c := List.all_eq_true.1 hc t (List.mem_range.2 hts)
        simp only [Bool.or_eq_true, decide_eq_true_eq] at c
        rcases c with c | c
        · omega
        · exact waits_out c (getD_both (inv.tail (t - 1) (by omega) (by omega))) hr
      · obtain rfl : t = n := by omega
        have s := List.all_eq_true.1 hs i (List.mem_range.2 hi)
        simp only [Bool.or_eq_true, decide_eq_true_eq] at s
        rcases s with s | s
        · exact hx s
        · obtain ⟨j, hj, hj2⟩ := List.any_eq_true.1 s
          simp only [Bool.and_eq_true, decide_eq_true_eq] at hj2
          have hjt := List.mem_range.1 hj
          rcases Nat.lt_or_ge j t with q | q
          · exact absurd (ih (t - j) (by omega) j rfl q hj2.1.2 (waits_un inv hj2.2 hun) t hr) (by omega)
          · obtain rfl : j = t := by omega
            exact waits_out hj2.2 hun hr

theorem still_first {n x i : Nat} {oi : Oper} {v : Value} {L : Array Bool → Act → Prop} (hs : sinkX md ops n x = true) (hc : Region.chainB md ops n = true) (hn : n < ops.size) (hsel : ∀ (j : Nat) (o : Oper) cs b, ops[j]? = some o → o.op ≠ .select cs b)
    (hi : ops[i]? = some oi) (hin : i < n) (hix : i ≠ x) (hdone : ∀ listed a, L listed a → ∀ j ∈ Region.ready md ops listed, n ≤ j) (f : Nat) :
    ∀ (listed : Array Bool) (a : Act), HeadInv md ops n listed →
      (∀ j oj, ops[j]? = some oj → j ≠ i → listed.getD j true = false → (∀ e ∈ oj.after, Region.binds md e = true → e.on ≠ i) → oi.apart ops oj = true) →
      i ∈ Region.ready md ops listed → YieldsAt P ops w oi v a → wpAnyL P md ops w n L f (listed.setIfInBounds i true) (a.put oi.dst v) → wpAnyL P md ops w n L (f + 1) listed a := by
  induction f with
  | zero =>
    intro listed a inv _ hr hy H
    refine ⟨List.ne_nil_of_mem hr, fun j hj => ?_⟩
    have hjn := late hs hc hn inv _ i rfl hin hix (getD_both (mem_ready.1 hr).1) j hj
    rcases Nat.decEq j i with q | q
    · exact absurd (hdone _ _ H j (ready_mono hj q)) (by omega)
    · subst q; exact ⟨hjn, hy.stOp hi H⟩
  | succ f ih =>
    intro listed a inv hfree hr hy H
    have hun := (mem_ready.1 hr).1
    refine ⟨List.ne_nil_of_mem hr, fun j hj => ?_⟩
    have hjn := late hs hc hn inv _ i rfl hin hix (getD_both hun) j hj
    refine ⟨hjn, ?_⟩
    rcases Nat.decEq j i with q | q
    · obtain ⟨hjun, oj, hoj, hall⟩ := mem_ready.1 hj
      have apart := hfree j oj hoj q hjun fun e he hb x => by
        have := hall e he hb
        rw [x, getD_both hun] at this
        cases this
      have both := stOp_put hoj apart (fun cs b => hsel i oi cs b hi) (fun cs b => hsel j oj cs b hoj) hy (H.2 j (ready_mono hj q)).2
      refine stOp_mono (fun a' ha' => ih (listed.setIfInBounds j true) a' (inv.set hj hjn) (fun k ok hk hki hku hno => hfree k ok hk hki ?_ hno) (ready_mono hr (Ne.symm q)) ha'.1 ?_) both
      · rcases Nat.decEq j k with z | z
        · rwa [getD_set_ne true z] at hku
        · subst z; exact hjun
      · rw [Array.setIfInBounds_comm _ _ q]; exact ha'.2
    · subst q; exact hy.stOp hi H

/-- May these be walked one after the other, each below n and none x? And what is listed then. -/
def walkX (md : Region.Mode) (ops : Array Oper) (n x : Nat) : List Nat → Array Bool → Bool
  | [], _ => true
  | k :: ks, listed => decide (k < n ∧ k ≠ x) && (Region.ready md ops listed).contains k && Region.free md ops listed k && walkX md ops n x ks (listed.setIfInBounds k true)
def listX : List Nat → Array Bool → Array Bool
  | [], listed => listed
  | k :: ks, listed => listX ks (listed.setIfInBounds k true)

theorem still_walk {n x : Nat} {Lq : Act → Prop} {full : Array Bool} (hs : sinkX md ops n x = true) (hc : Region.chainB md ops n = true) (hn : n < ops.size) (hsel : Region.noSelect ops = true) (hfull : ∀ j ∈ Region.ready md ops full, n ≤ j) :
    ∀ (ks : List Nat) (l : List Oper) (listed : Array Bool) (a : Act), l.map some = ks.map (fun k => ops[k]?) → HeadInv md ops n listed → walkX md ops n x ks listed = true → listX ks listed = full →
      wpStill P ops w Lq l a → wpAnyL P md ops w n (fun listed' a' => listed' = full ∧ Lq a') ks.length listed a
  | [], [], _, _, _, _, _, hF, h => ⟨hF, h⟩
  | [], _ :: _, _, _, hl, _, _, _, _ => by simp at hl
  | _ :: _, [], _, _, hl, _, _, _, _ => by simp at hl
  | k :: ks, o :: l, listed, a, hl, inv, hW, hF, h => by
    simp only [List.map_cons, List.cons.injEq] at hl
    have h0 : ops[k]? = some o := hl.1.symm
    simp only [walkX, Bool.and_eq_true, decide_eq_true_eq] at hW
    have hr : k ∈ Region.ready md ops listed := by simpa using hW.1.1.2
    obtain ⟨v, hy, hK⟩ := yieldsAt_of_stOp h0 (show stOp P ops w k (wpStill P ops w Lq l) a by unfold stOp; simp only [h0]; exact h)
    exact still_first hs hc hn (Region.noSelect_spec hsel) h0 hW.1.1.1.1 hW.1.1.1.2 (fun listed' a' hL => by rw [hL.1]; exact hfull) ks.length listed a inv (Region.free_spec h0 hW.1.2) hr hy
      (still_walk hs hc hn hsel hfull ks l _ _ hl.2 (inv.set hr hW.1.1.1.1) hW.2 hF hK)

/-- All that is asked of the region, in one look. -/
def partsB (md : Region.Mode) (ops : Array Oper) (n x : Nat) (ks : List Nat) (listed full : Array Bool) : Bool :=
  sinkX md ops n x && Region.chainB md ops n && decide (n < ops.size) && Region.noSelect ops && walkX md ops n x ks listed && (Region.ready md ops full).all (fun j => decide (n ≤ j)) && Region.seqB md ops (ops.size - n) n full

theorem head_start (n : Nat) : HeadInv md ops n (Array.replicate ops.size false) :=
  ⟨by simp, fun j oj _ hl => (by rw [getD_replicate_false] at hl; cases hl), fun t _ ht => getD_in (by simpa using ht) (getD_replicate_false _ _)⟩

theorem any_parts {Q : Exit → Act → World → Prop} {a : Act} {w : World} {l : List Oper} (n x f : Nat) (ks : List Nat) (full : Array Bool) (hr : (Region.ready .any l.toArray (Array.replicate l.toArray.size false)).contains x = true) (hxn : x < n)
    (hB : partsB .any l.toArray n x ks ((Array.replicate l.toArray.size false).setIfInBounds x true) full = true) (hF : listX ks ((Array.replicate l.toArray.size false).setIfInBounds x true) = full)
    (hl : (l.take x ++ (l.drop (x + 1)).take (n - x - 1)).map some = ks.map (fun k => l.toArray[k]?)) (hf : f = ks.length + (l.length - n))
    (h : wpStill P l.toArray w (fun a' => wpList P l.toArray Q (l.drop n) a' w) (l.take x ++ (l.drop (x + 1)).take (n - x - 1)) a) : wpAny P .any l.toArray Q f ((Array.replicate l.toArray.size false).setIfInBounds x true) a w := by
  simp only [partsB, Bool.and_eq_true, decide_eq_true_eq] at hB
  obtain ⟨⟨⟨⟨⟨⟨hs, hc⟩, hn⟩, hsel⟩, hW⟩, hR⟩, hq⟩ := hB
  have inv := (head_start (md := .any) (ops := l.toArray) n).set (by simpa using hr) hxn
  have H := still_walk (md := .any) (full := full) hs hc hn hsel (fun j hj => by have := List.all_eq_true.1 hR j hj; simpa using this) ks _ _ a hl inv hW hF h
  have hdl : (l.drop n).length = l.length - n := by simp
  have := wpAny_of_head (Q' := Q) (g := l.length - n) (fun listed a' hL => by
    rw [hL.1]
    have q := wpAny_of_seq (md := .any) (Q' := Q) (l.drop n) n full a' w (fun j => by simp [List.getElem?_drop]) (by rw [hdl]; simpa using hq) hL.2
    rwa [hdl] at q) _ _ _ H
  rw [hf]; exact this
end
end Go.Proofs.YtebngmgdciahiaaGreatDoor.Rz
