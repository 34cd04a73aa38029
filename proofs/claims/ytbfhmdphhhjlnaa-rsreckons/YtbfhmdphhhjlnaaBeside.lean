/-
  What slices.Concat does with two rows, beside with two matrices, columnsFrom with one: new rows.
-/
import Derived.Test.YtbfhmdphhhjlnaaCat
namespace Go.Proofs.Ytbfhmdphhhjlnaa
open Go.RowKit Gf
attribute [local go_sem ↓] Go.wp_at_zero Go.wp_at_succ

set_option maxRecDepth 100000 in
set_option maxHeartbeats 1000000 in
theorem concat_two (b l0 l1 c0 c1 : Nat) (a0 a1 : Option Addr) (f g : Nat → Nat) (w : World) (d0 : w.cell? ⟨b, 0, none⟩ = some (.slice a0 l0 c0)) (d1 : w.cell? ⟨b, 1, none⟩ = some (.slice a1 l1 c1)) (r0 : Row w a0 l0 f) (r1 : Row w a1 l1 g)
    (p0 : 1 ≤ l0) (p1 : 1 ≤ l1) (q0 : l0 ≤ 255) (q1 : l1 ≤ 255) :
    Calls Try.prog 68 #[.slice (some ⟨b, 0, none⟩) 2 2] w fun e w' => ∃ h c, e = .returned (.slice (some ⟨h, 0, none⟩) (l0 + l1) c) ∧ w.heap.size ≤ h ∧ l0 + l1 ≤ c ∧ Row w' (some ⟨h, 0, none⟩) (l0 + l1) (cat l0 f g) ∧ Below w.heap.size w w' := by
  have gr := grow_nil (l0 + l1) w (by omega) (by omega)
  have Bb : b < w.heap.size := block_lt_of_cell d0
  have R0 : Hid (Row w a0 l0 f) := r0
  have R1 : Hid (Row w a1 l1 g) := r1
  clear r0 r1
  go_enter Try.func68, Try.ntmps68
  go_wp2
  go_loop [3, 11] (fun s i => (s = .int .i64 0 ∧ i = .int .i64 0) ∨ (s = .int .i64 l0 ∧ i = .int .i64 1) ∨ (s = .int .i64 ((l0 + l1 : Nat) : Int) ∧ i = .int .i64 2)) (fun _ i => 2 - (intOf i).toNat)
  case atStart => exact .inl ⟨rfl, rfl⟩
  case round =>
    rcases hrel with ⟨rfl, rfl⟩ | ⟨rfl, rfl⟩ | ⟨rfl, rfl⟩
    · go_wp2
      go_round
      case rel => exact .inr (.inl ⟨by go_num, by go_num⟩)
      case measure => simp [intOf]
    · go_wp2
      go_round
      case rel => exact .inr (.inr ⟨by go_num, by go_num⟩)
      case measure => simp [intOf]
    · go_wp2_with fail
      go_at_call 71
      refine gr.mono ?_
      rintro e w1 ⟨g0, cg, rfl, hown, hb1⟩
      clear gr
      have HO : Hid (w1.ownsRow w.heap.size 5 1 (.slice (some ⟨g0, 0, none⟩) 0 cg) 0 []) := hown
      clear hown
      go_wp2
      go_loopw [6, 27] (fun v i wr => ((i = .int .i64 0 ∧ wr.ownsRow w.heap.size 5 1 v 0 (bs f 0)) ∨ (i = .int .i64 1 ∧ wr.ownsRow w.heap.size 5 1 v l0 (bs f l0)) ∨ (i = .int .i64 2 ∧ wr.ownsRow w.heap.size 5 1 v (l0 + l1) (bs (cat l0 f g) (l0 + l1)))) ∧ Below w.heap.size w wr) (fun _ i _ => 2 - (intOf i).toNat)
      case atStart => exact ⟨.inl ⟨rfl, HO.out⟩, hb1⟩
      case round =>
        obtain ⟨hcase, hb⟩ := hrel
        clear HO hb1
        have e0 := (hb.cell (p := ⟨b, 0, none⟩) Bb).trans d0
        have e1 := (hb.cell (p := ⟨b, 1, none⟩) Bb).trans d1
        clear d0 d1
        rcases hcase with ⟨rfl, own⟩ | ⟨rfl, own⟩ | ⟨rfl, own⟩
        · obtain ⟨v', W, hr, own', _, hbW⟩ := appendB (c := c0) own (R0.out.keep hb) p0 (by omega) hb.size
          have HA : Hid _ := hr
          rw [Nat.zero_add] at own'
          have HO : Hid (W.ownsRow w.heap.size 5 1 v' l0 (bs f l0)) := by
            have e : bs (cat 0 f f) l0 = bs f l0 := by
              unfold bs; apply List.map_congr_left; intro i _; unfold cat; rw [if_neg (by omega), Nat.sub_zero]
            exact e ▸ own'
          have HB : Hid (Below w.heap.size w W) := hb.trans hbW
          clear own own' hb hbW hr
          go_wp2_with (at_builtin; refine wpList_append_ran (by rfl) _ _ 30 (by rfl) _ _ _ _ (by rfl) (by rfl) HA.out ?_)
          go_wp2
          go_round
          case rel => exact ⟨.inr (.inl ⟨by go_num, HO.out⟩), HB.out⟩
          case measure => simp [intOf]
        · obtain ⟨v', W, hr, own', _, hbW⟩ := appendB (c := c1) own (R1.out.keep hb) p1 (by omega) hb.size
          have HA : Hid _ := hr
          have HO : Hid (W.ownsRow w.heap.size 5 1 v' (l0 + l1) (bs (cat l0 f g) (l0 + l1))) := own'
          have HB : Hid (Below w.heap.size w W) := hb.trans hbW
          clear own own' hb hbW hr
          go_wp2_with (at_builtin; refine wpList_append_ran (by rfl) _ _ 30 (by rfl) _ _ _ _ (by rfl) (by rfl) HA.out ?_)
          go_wp2
          go_round
          case rel => exact ⟨.inr (.inr ⟨by go_num, HO.out⟩), HB.out⟩
          case measure => simp [intOf]
        · obtain ⟨h, c, rfl, hh, hnc, hrow⟩ := ownB_row own (by omega) (cat_lt R0.out.lt R1.out.lt)
          have HR : Hid (Row wr (some ⟨h, 0, none⟩) (l0 + l1) (cat l0 f g)) := hrow
          clear own hrow
          go_wp2
          go_ret
          exact ⟨h, c, rfl, hh, hnc, HR.out, hb⟩

/-- Rows that are being laid: k are there, the other headers are nil yet. -/
def Lay (w : World) (h n l k : Nat) (F : Nat → Nat → Nat) : Prop :=
  ∃ (A : Nat → Option Addr) (C : Nat → Nat), (∀ i, i < k → w.cell? ⟨h, i, none⟩ = some (.slice (A i) l (C i)) ∧ Row w (A i) l (F i) ∧ (A i = none → l = 0 ∧ C i = 0) ∧ l ≤ C i) ∧ (∀ i, i < n → k ≤ i → w.cell? ⟨h, i, none⟩ = some (.slice none 0 0)) ∧ ∀ i, i < n → w.frozen? ⟨h, i, none⟩ = false

theorem Lay.start (w : World) (n l : Nat) (F : Nat → Nat → Nat) : Lay (w.alloc (.cells (madeCells #[.slice none 0 0] n) 30)) w.heap.size n l 0 F := by
  refine ⟨fun _ => none, fun _ => 0, fun i hi => absurd hi (by omega), fun i hi _ => ?_, fun i _ => World.frozen?_alloc_new _ _ _ _⟩
  rw [World.cell?_alloc_new, ← Array.getElem?_toList, toList_madeCells_one, List.getElem?_replicate, if_pos (by omega)]
theorem Lay.keep {w w' : World} {h n l k : Nat} {F : Nat → Nat → Nat} (o : Lay w h n l k F) (hb : Below w.heap.size w w') (hk : k < n) : Lay w' h n l k F := by
  obtain ⟨A, C, p, q, s⟩ := o
  have hh : h < w.heap.size := block_lt_of_cell (q k hk (Nat.le_refl _))
  exact ⟨A, C, fun i hi => ⟨(hb.cell (p := ⟨h, i, none⟩) hh).trans (p i hi).1, (p i hi).2.1.keep hb, (p i hi).2.2⟩, fun i hi hki => (hb.cell (p := ⟨h, i, none⟩) hh).trans (q i hi hki), fun i hi => (hb.frozen (p := ⟨h, i, none⟩) hh).trans (s i hi)⟩
theorem Lay.next {w : World} {h n l k : Nat} {F : Nat → Nat → Nat} (o : Lay w h n l k F) (hk : k < n) : w.cell? ⟨h, k, none⟩ = some (.slice none 0 0) ∧ w.frozen? ⟨h, k, none⟩ = false := by
  obtain ⟨A, C, p, q, s⟩ := o
  exact ⟨q k hk (Nat.le_refl _), s k hk⟩
theorem Lay.step {w : World} {h n l k c : Nat} {F : Nat → Nat → Nat} {a : Addr} {f : Nat → Nat} (o : Lay w h n l k F) (hk : k < n) (r : Row w (some a) l f) (hlc : l ≤ c) (hF : B F) (e1 : ∀ j, j < l → f j = F k j) : Lay (w.setCell ⟨h, k, none⟩ (.slice (some a) l c)) h n l (k + 1) F := by
  obtain ⟨A, C, p, q, s⟩ := o
  have ck := q k hk (Nat.le_refl _)
  refine ⟨fun i => if i = k then some a else A i, fun i => if i = k then c else C i, fun i hi => ?_, fun i hi hki => ?_, fun i hi => ?_⟩
  · dsimp only
    by_cases e : i = k
    · subst e
      rw [if_pos rfl, if_pos rfl]
      refine ⟨cell_same ck, ⟨hF i, fun hn => ?_⟩, fun e => (by cases e), hlc⟩
      obtain ⟨b, o, q, hr⟩ := (r.hset ck _).lies hn
      exact ⟨b, o, q, fun j hj => by rw [hr j hj, e1 j hj]⟩
    · rw [if_neg e, if_neg e]
      have := p i (by omega)
      exact ⟨by rw [cell_other (fun q => e q.symm)]; exact this.1, this.2.1.hset ck _, this.2.2⟩
  · rw [cell_other (by omega)]; exact q i hi (by omega)
  · rw [World.frozen?_setCell]; exact s i hi
theorem Lay.done {w : World} {h n l : Nat} {F : Nat → Nat → Nat} (o : Lay w h n l n F) (hl : l ≤ 9223372036854775807) (hF : B F) : Out w h n l F := by
  obtain ⟨A, C, p, q, s⟩ := o
  exact ⟨A, C, ⟨fun _ => ⟨h, 0, rfl, fun i hi => by rw [Nat.zero_add]; exact (p i hi).1⟩, fun i hi => (p i hi).2.1, fun i hi => (p i hi).2.2.1, fun _ => hl, hF⟩, s, fun i hi => (p i hi).2.2.2⟩

set_option maxRecDepth 100000 in
set_option maxHeartbeats 1000000 in
theorem columns_any (a : Option Addr) (n l k0 c : Nat) (A : Nat → Option Addr) (C : Nat → Nat) (F : Nat → Nat → Nat) (w : World) (h : Mat w a n A (fun _ => l) C F) (n1 : 1 ≤ n) (n2 : n ≤ 255) (hk0 : k0 < l) (hl : l ≤ 510) (hC : ∀ i, i < n → l ≤ C i) :
    Calls Try.prog 59 #[.slice a n c, .int .i64 k0] w fun e w' => ∃ h, e = .returned (.slice (some ⟨h, 0, none⟩) n n) ∧ w.heap.size ≤ h ∧ Out w' h n (l - k0) (fun i j => F i (k0 + j)) ∧ Below w.heap.size w w' := by
  have mk1 := run_make_row' (P := Try.prog) 54 30 (.slice none 0 0) 24 Try.underlying54 info27 rfl .i64 .i64 n (by omega) (by omega)
  obtain ⟨b, o, rfl, hc⟩ := h.lies (by omega)
  have H : Hid (Mat w (some ⟨b, o, none⟩) n A (fun _ => l) C F) := h
  have HC : Hid (∀ i, i < n → w.cell? ⟨b, o + i, none⟩ = some (.slice (A i) l (C i))) := hc
  have Bb : b < w.heap.size := block_lt_of_cell (hc 0 (by omega))
  have HCC : Hid (∀ i, i < n → l ≤ C i) := hC
  clear h hc hC
  go_enter Try.func59, Try.ntmps59
  go_wp2
  clear mk1
  go_loopw [13] (fun v wr => ∃ k : Nat, k ≤ n ∧ v = .int .i64 k ∧ Lay wr w.heap.size n (l - k0) k (fun i j => F i (k0 + j)) ∧ Below w.heap.size w wr) (fun v _ => n - (intOf v).toNat)
  case atStart => exact ⟨0, by omega, rfl, Lay.start w n _ _, (Below.refl _ _).alloc (Nat.le_refl _) _⟩
  case round =>
    obtain ⟨k, hk, rfl, ho, hb⟩ := hrel
    by_cases hlt : k < n
    · have ik : (k : Int) < (n : Int) := by omega
      have ck := (hb.cell (p := ⟨b, o + k, none⟩) Bb).trans (HC.out k hlt)
      have hcap := HCC.out k hlt
      have hrow := (H.out.row k hlt).keep hb
      have lF := H.out.lt
      obtain ⟨b1, o1, hA, hr⟩ := hrow.lies (by omega)
      rw [hA] at ck
      have hrow2 : Row wr (some ⟨b1, o1 + k0, none⟩) (l - k0) (fun j => F k (k0 + j)) := ⟨fun j => lF _ _, fun _ => ⟨b1, o1 + k0, rfl, fun j hj => by rw [Nat.add_assoc]; exact hr (k0 + j) (by omega)⟩⟩
      have cl := clone_any (some ⟨b1, o1 + k0, none⟩) (l - k0) (C k - k0) _ wr hrow2 (by omega) (by omega)
      have K : Hid (Calls Try.prog 65 #[.slice (some ⟨b1, o1 + k0, none⟩) (l - k0) (C k - k0)] wr fun e w' => ∃ g c', e = .returned (.slice (some ⟨g, 0, none⟩) (l - k0) c') ∧ w'.cell? ⟨w.heap.size, k, none⟩ = some (.slice none 0 0) ∧ w'.frozen? ⟨w.heap.size, k, none⟩ = false ∧
          Lay (w'.setCell ⟨w.heap.size, k, none⟩ (.slice (some ⟨g, 0, none⟩) (l - k0) c')) w.heap.size n (l - k0) (k + 1) (fun i j => F i (k0 + j)) ∧ Below w.heap.size w (w'.setCell ⟨w.heap.size, k, none⟩ (.slice (some ⟨g, 0, none⟩) (l - k0) c'))) := by
        refine cl.mono ?_
        rintro e w' ⟨g, c', rfl, hg, hnc, hrw, hbw⟩
        have ho' := ho.keep hbw hlt
        exact ⟨g, c', rfl, (ho'.next hlt).1, (ho'.next hlt).2, ho'.step hlt hrw hnc (fun i j => lF _ _) (fun j _ => rfl), (hb.trans (hbw.mono hb.size)).setCell (Nat.le_refl _) _⟩
      have ik0 : (k0 : Int) ≤ (l : Int) := by omega
      clear hr hrow hrow2 cl lF ho hb hA H HC HCC
      generalize C k = cck at *
      go_wp2_with fail
      go_at_call 65
      refine K.out.mono ?_
      rintro e w' ⟨g, c', rfl, y1, y2, y3, y4⟩
      go_wp2
      go_round
      case rel => exact ⟨k + 1, by omega, by go_num, y3, y4⟩
      case measure => simp [intOf]; omega
    · have : k = n := by omega
      subst this
      have HE : Hid (Out wr w.heap.size k (l - k0) (fun i j => F i (k0 + j))) := ho.done (by omega) (fun i j => H.out.lt _ _)
      clear ho
      go_wp2
      go_ret
      exact ⟨_, rfl, Nat.le_refl _, HE.out, hb⟩

theorem two_cells (w : World) (u v : Value) : (w.alloc (.cells #[u, v] 30)).cell? ⟨w.heap.size, 0, none⟩ = some u ∧ (w.alloc (.cells #[u, v] 30)).cell? ⟨w.heap.size, 1, none⟩ = some v := by
  constructor <;> rw [World.cell?_alloc_new] <;> rfl

set_option maxRecDepth 100000 in
set_option maxHeartbeats 2000000 in
theorem beside_any (a a' : Option Addr) (n l l' c c' : Nat) (A A' : Nat → Option Addr) (C C' : Nat → Nat) (F G : Nat → Nat → Nat) (w : World) (h : Mat w a n A (fun _ => l) C F) (h' : Mat w a' n A' (fun _ => l') C' G) (n1 : 1 ≤ n) (n2 : n ≤ 255) (l1 : 1 ≤ l) (l2 : l ≤ 255) (k1 : 1 ≤ l') (k2 : l' ≤ 255) :
    Calls Try.prog 56 #[.slice a n c, .slice a' n c'] w fun e w' => ∃ h, e = .returned (.slice (some ⟨h, 0, none⟩) n n) ∧ w.heap.size ≤ h ∧ Out w' h n (l + l') (fun i => cat l (F i) (G i)) ∧ Below w.heap.size w w' := by
  have mk1 := run_make_row' (P := Try.prog) 54 30 (.slice none 0 0) 24 Try.underlying54 info27 rfl .i64 .i64 n (by omega) (by omega)
  obtain ⟨b, o, rfl, hc⟩ := h.lies (by omega)
  obtain ⟨b', o', rfl, hc'⟩ := h'.lies (by omega)
  have H : Hid (Mat w (some ⟨b, o, none⟩) n A (fun _ => l) C F) := h
  have H' : Hid (Mat w (some ⟨b', o', none⟩) n A' (fun _ => l') C' G) := h'
  have HC : Hid (∀ i, i < n → w.cell? ⟨b, o + i, none⟩ = some (.slice (A i) l (C i))) := hc
  have HC' : Hid (∀ i, i < n → w.cell? ⟨b', o' + i, none⟩ = some (.slice (A' i) l' (C' i))) := hc'
  have Bb : b < w.heap.size := block_lt_of_cell (hc 0 (by omega))
  have Bb' : b' < w.heap.size := block_lt_of_cell (hc' 0 (by omega))
  have HF : Hid (B (fun i => cat l (F i) (G i))) := fun i j => cat_lt (h.lt i) (h'.lt i) j
  clear h hc h' hc'
  go_enter Try.func56, Try.ntmps56
  go_wp2
  clear mk1
  go_loopw [12] (fun v wr => ∃ k : Nat, k ≤ n ∧ v = .int .i64 k ∧ Lay wr w.heap.size n (l + l') k (fun i => cat l (F i) (G i)) ∧ Below w.heap.size w wr) (fun v _ => n - (intOf v).toNat)
  case atStart => exact ⟨0, by omega, rfl, Lay.start w n _ _, (Below.refl _ _).alloc (Nat.le_refl _) _⟩
  case round =>
    obtain ⟨k, hk, rfl, ho, hb⟩ := hrel
    by_cases hlt : k < n
    · have ik : (k : Int) < (n : Int) := by omega
      have ck := (hb.cell (p := ⟨b, o + k, none⟩) Bb).trans (HC.out k hlt)
      have ck' := (hb.cell (p := ⟨b', o' + k, none⟩) Bb').trans (HC'.out k hlt)
      have hbA : Below wr.heap.size wr (wr.drew.alloc (.cells #[.slice (A k) l (C k), .slice (A' k) l' (C' k)] 30)) := (Below.refl _ _).drew.alloc (Nat.le_refl _) _
      have tc := two_cells wr.drew (.slice (A k) l (C k)) (.slice (A' k) l' (C' k))
      have cl := concat_two wr.heap.size l l' (C k) (C' k) (A k) (A' k) (F k) (G k) _ tc.1 tc.2 (((H.out.row k hlt).keep hb).keep hbA) (((H'.out.row k hlt).keep hb).keep hbA) l1 k1 l2 k2
      have K : Hid (Calls Try.prog 68 #[.slice (some ⟨wr.heap.size, 0, none⟩) 2 2] (wr.drew.alloc (.cells #[.slice (A k) l (C k), .slice (A' k) l' (C' k)] 30)) fun e w' => ∃ g c', e = .returned (.slice (some ⟨g, 0, none⟩) (l + l') c') ∧ w'.cell? ⟨w.heap.size, k, none⟩ = some (.slice none 0 0) ∧ w'.frozen? ⟨w.heap.size, k, none⟩ = false ∧
          Lay (w'.setCell ⟨w.heap.size, k, none⟩ (.slice (some ⟨g, 0, none⟩) (l + l') c')) w.heap.size n (l + l') (k + 1) (fun i => cat l (F i) (G i)) ∧ Below w.heap.size w (w'.setCell ⟨w.heap.size, k, none⟩ (.slice (some ⟨g, 0, none⟩) (l + l') c'))) := by
        refine cl.mono ?_
        rintro e w' ⟨g, c', rfl, hg, hnc, hrw, hbw⟩
        have hb2 : Below wr.heap.size wr w' := hbA.trans (hbw.mono hbA.size)
        have ho' := ho.keep hb2 hlt
        exact ⟨g, c', rfl, (ho'.next hlt).1, (ho'.next hlt).2, ho'.step hlt hrw hnc HF.out (fun j _ => rfl), (hb.trans (hb2.mono hb.size)).setCell (Nat.le_refl _) _⟩
      clear cl tc hbA ho hb H HC H' HC' HF
      generalize C k = cck at *
      generalize C' k = cck' at *
      generalize A k = ak at *
      generalize A' k = ak' at *
      go_wp2
      go_region_with (go_at_call 68; refine K.out.mono ?_; rintro e w' ⟨g, c', rfl, y1, y2, y3, y4⟩)
      all_goals
        go_wp2
        go_round
        case rel => exact ⟨k + 1, by omega, by go_num, y3, y4⟩
        case measure => simp [intOf]; omega
    · have : k = n := by omega
      subst this
      have HE : Hid (Out wr w.heap.size k (l + l') (fun i => cat l (F i) (G i))) := ho.done (by omega) HF.out
      clear ho
      go_wp2
      go_ret
      exact ⟨_, rfl, Nat.le_refl _, HE.out, hb⟩
end Go.Proofs.Ytbfhmdphhhjlnaa
