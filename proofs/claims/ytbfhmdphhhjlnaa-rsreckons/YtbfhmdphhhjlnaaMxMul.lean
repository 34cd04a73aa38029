/-
  What matrix.Mul does: of two matrices that fit, new rows that hold the product; else nothing, and false.
-/
import Derived.Test.YtbfhmdphhhjlnaaVand
namespace Go.Proofs.Ytbfhmdphhhjlnaa
open Go.RowKit Gf
attribute [local go_sem ↓] Go.wp_at_zero Go.wp_at_succ

/-- dst with k times src. -/
def ad (f g : Nat → Nat) (n k : Nat) : Nat → Nat := fun i => if i < n then f i ^^^ M k (g i) else f i
theorem ad_lt {f g : Nat → Nat} {n k : Nat} (hf : ∀ i, f i < 256) (hk : k < 256) (i : Nat) : ad f g n k i < 256 := by
  unfold ad; split
  · exact xor_lt (hf i) (M_lt _ hk)
  · exact hf i
theorem mulAdd_row (b k n0 c0 n1 c1 : Nat) (a0 a1 : Option Addr) (f g : Nat → Nat) (w : World) (htab : Tab w b) (hk : k < 256) (h0 : Row w a0 n0 f) (h1 : Row w a1 n1 g) (l0 : n0 ≤ 140737488355328) (l1 : n1 ≤ 140737488355328) :
    Calls Try.prog 45 #[.pointer (some ⟨b, 0, none⟩), .slice a0 n0 c0, .slice a1 n1 c1, .int .u8 k] w fun e w' =>
      e = .returned (.slice (some ⟨w.heap.size, 0, none⟩) n0 n0) ∧ Row w' (some ⟨w.heap.size, 0, none⟩) n0 (ad f g n1 k) ∧ Below w.heap.size w w' := by
  refine (mulAdd_any b k n0 c0 n1 c1 a0 a1 f g w htab hk h0 h1 l0 l1).mono ?_
  rintro e w' ⟨rfl, hc, hb⟩
  exact ⟨rfl, ⟨ad_lt h0.lt hk, fun _ => ⟨w.heap.size, 0, rfl, fun i hi => by rw [Nat.zero_add]; exact hc i hi⟩⟩, hb⟩

/-- A store over a header touches no row of bytes. -/
theorem Row.hset {w : World} {a : Option Addr} {n : Nat} {f : Nat → Nat} (r : Row w a n f) {h k : Nat} {x : Option Addr} {y z : Nat} (hc : w.cell? ⟨h, k, none⟩ = some (.slice x y z)) (v : Value) : Row (w.setCell ⟨h, k, none⟩ v) a n f := by
  refine ⟨r.lt, fun hn => ?_⟩
  obtain ⟨b, o, e, hr⟩ := r.lies hn
  refine ⟨b, o, e, fun i hi => ?_⟩
  rw [World.cell?_setCell_other]
  · exact hr i hi
  · intro q
    have q1 : (⟨h, k, none⟩ : Addr) = ⟨b, o + i, none⟩ := by first | exact q | exact q.symm
    rw [q1, hr i hi] at hc
    cases hc

/-- New rows of l bytes whose headers lie, soft, from the beginning of block h on. -/
def Out (w : World) (h n l : Nat) (F : Nat → Nat → Nat) : Prop :=
  ∃ A C, Mat w (some ⟨h, 0, none⟩) n A (fun _ => l) C F ∧ (∀ i, i < n → w.frozen? ⟨h, i, none⟩ = false) ∧ ∀ i, i < n → l ≤ C i

theorem Grid.out {w : World} {h n m : Nat} {F : Nat → Nat → Nat} (g : Grid w h n m F) (hm : m ≤ 9223372036854775807) (hF : B F) : Out w h n m F := ⟨_, _, g.mat hm hF, g.softh, fun _ _ => Nat.le_refl _⟩

theorem Mat.cellAt {w : World} {h n : Nat} {A : Nat → Option Addr} {L C : Nat → Nat} {F : Nat → Nat → Nat} (m : Mat w (some ⟨h, 0, none⟩) n A L C F) {i : Nat} (hi : i < n) : w.cell? ⟨h, i, none⟩ = some (.slice (A i) (L i) (C i)) := by
  obtain ⟨b, o, e, hc⟩ := m.lies (by omega)
  injection e with e
  injection e with e1 e2
  subst e1 e2
  have := hc i hi
  rwa [Nat.zero_add] at this

theorem Out.keep {w w' : World} {h n l : Nat} {F : Nat → Nat → Nat} (o : Out w h n l F) (hb : Below w.heap.size w w') : Out w' h n l F := by
  obtain ⟨A, C, m, s, q⟩ := o
  exact ⟨A, C, m.keep hb, fun i hi => (by rw [hb.frozen (p := ⟨h, i, none⟩) (block_lt_of_cell (m.cellAt hi))]; exact s i hi), q⟩

theorem Out.congr {w : World} {h n l : Nat} {F G : Nat → Nat → Nat} (o : Out w h n l F) (hG : B G) (e : ∀ i, i < n → ∀ j, j < l → F i j = G i j) : Out w h n l G := by
  obtain ⟨A, C, m, s, qq⟩ := o
  refine ⟨A, C, ⟨m.lies, fun i hi => ⟨hG i, fun hn => ?_⟩, m.nil, m.le, hG⟩, s, qq⟩
  obtain ⟨b, o, q, hr⟩ := (m.row i hi).lies hn
  exact ⟨b, o, q, fun j hj => by rw [hr j hj, e i hi j hj]⟩

theorem Out.set {w : World} {h n l k : Nat} {F G : Nat → Nat → Nat} {a : Option Addr} {c : Nat} {f : Nat → Nat} (o : Out w h n l F) (hk : k < n) (r : Row w a l f) (hnil : a = none → l = 0 ∧ c = 0) (hlc : l ≤ c) (hG : B G)
    (e1 : ∀ j, j < l → f j = G k j) (e2 : ∀ i, i < n → i ≠ k → ∀ j, j < l → F i j = G i j) : Out (w.setCell ⟨h, k, none⟩ (.slice a l c)) h n l G := by
  obtain ⟨A, C, m, s, qq⟩ := o
  have ck := m.cellAt hk
  refine ⟨fun i => if i = k then a else A i, fun i => if i = k then c else C i, ⟨fun _ => ⟨h, 0, rfl, fun i hi => ?_⟩, fun i hi => ?_, fun i hi q => ?_, m.le, hG⟩, fun i hi => ?_, fun i hi => ?_⟩
  · rw [Nat.zero_add]
    by_cases e : i = k
    · subst e; rw [cell_same ck, if_pos rfl, if_pos rfl]
    · rw [cell_other (fun q => e q.symm), if_neg e, if_neg e]; exact m.cellAt hi
  · by_cases e : i = k
    · subst e
      rw [if_pos rfl]
      refine ⟨hG i, fun hn => ?_⟩
      obtain ⟨b, o, q, hr⟩ := (r.hset ck _).lies hn
      exact ⟨b, o, q, fun j hj => by rw [hr j hj, e1 j hj]⟩
    · rw [if_neg e]
      refine ⟨hG i, fun hn => ?_⟩
      obtain ⟨b, o, q, hr⟩ := ((m.row i hi).hset ck _).lies hn
      exact ⟨b, o, q, fun j hj => by rw [hr j hj, e2 i hi e j hj]⟩
  · by_cases e : i = k
    · rw [if_pos e] at q ⊢; exact hnil q
    · rw [if_neg e] at q ⊢; exact m.nil i hi q
  · rw [World.frozen?_setCell]; exact s i hi
  · dsimp only; split
    · exact hlc
    · exact qq i hi

/-- How much of row i is summed up. -/
def part (m k t i : Nat) : Nat := if i < k then m else if i = k then t else 0
def psum (m k t : Nat) (F G : Nat → Nat → Nat) : Nat → Nat → Nat := fun i j => xs (part m k t i) (fun s => M (F i s) (G s j))
theorem psum_B {m k t : Nat} {F G : Nat → Nat → Nat} (hF : B F) : B (psum m k t F G) := fun i _ => xs_lt fun s _ => M_lt _ (hF i s)

set_option maxRecDepth 100000 in
set_option maxHeartbeats 2000000 in
theorem mxMul_yes (a a' : Option Addr) (n m c c' : Nat) (A A' : Nat → Option Addr) (L L' C C' : Nat → Nat) (F G : Nat → Nat → Nat) (w : World) (h1 : Mat w a n A L C F) (h2 : Mat w a' m A' L' C' G) (g1 : IsM n L) (g2 : IsM m L') (hlm : L 0 = m) :
    Calls Try.prog 43 #[.slice a n c, .slice a' m c'] w fun e w' => ∃ h, e = .returned (.tuple #[.slice (some ⟨h, 0, none⟩) n n, .bool true]) ∧ w.heap.size ≤ h ∧ Out w' h n (L' 0) (mm m F G) ∧ Below w.heap.size w w' := by
  have q1 := fun w h => isMatrix_yes a n c A L C F w h g1
  have q2 := fun w h => isMatrix_yes a' m c' A' L' C' G w h g2
  obtain ⟨n1, n2, l1, l2, hl⟩ := g1
  obtain ⟨m1, m2, k1, k2, hl'⟩ := g2
  obtain ⟨b1, o1, rfl, hc1⟩ := h1.lies (by omega)
  obtain ⟨b2, o2, rfl, hc2⟩ := h2.lies (by omega)
  have d1 := hc1 0 (by omega)
  have d2 := hc2 0 (by omega)
  simp only [Nat.add_zero] at d1 d2
  rw [hlm] at d1
  have i1 : (0 : Int) < (n : Int) := by omega
  have i2 : (0 : Int) < (m : Int) := by omega
  obtain ⟨l, hl0⟩ : ∃ l, L' 0 = l := ⟨_, rfl⟩
  have z := fun w => zeros_yes n l w n1 n2 (by omega) (by omega)
  have H1 : Hid (Mat w (some ⟨b1, o1, none⟩) n A L C F) := h1
  have H2 : Hid (Mat w (some ⟨b2, o2, none⟩) m A' L' C' G) := h2
  have HL : Hid (∀ i, i < n → L i = m) := fun i hi => by rw [hl i hi, hlm]
  have HL' : Hid (∀ i, i < m → L' i = l) := fun i hi => by rw [hl' i hi, hl0]
  have HC1 : Hid (∀ i, i < n → w.cell? ⟨b1, o1 + i, none⟩ = some (.slice (A i) m (C i))) := fun i hi => by rw [hc1 i hi, HL.out i hi]
  have HC2 : Hid (∀ i, i < m → w.cell? ⟨b2, o2 + i, none⟩ = some (.slice (A' i) l (C' i))) := fun i hi => by rw [hc2 i hi, HL'.out i hi]
  have p1 := q1 w h1
  have p2 := q2 w h2
  rw [hl0] at d2 k1 k2
  rw [hl0]
  have B1 : b1 < w.heap.size := block_lt_of_cell d1
  have B2 : b2 < w.heap.size := block_lt_of_cell d2
  clear q1 q2 hl hl' hc1 hc2 hlm hl0 h1 h2 l1 l2
  generalize C 0 = c1 at d1
  generalize C' 0 = c2 at d2
  generalize A 0 = x1 at d1
  generalize A' 0 = x2 at d2
  go_enter Try.func43, Try.ntmps43
  go_wp2_with fail
  go_at_call_of 60 (Value.slice (some ⟨b1, o1, none⟩) n c)
  refine p1.mono ?_
  rintro e w' ⟨rfl, rfl⟩
  go_wp2_with fail
  go_at_call 60
  refine p2.mono ?_
  rintro e w' ⟨rfl, rfl⟩
  go_wp2_with fail
  go_at_call 25
  refine (new_any _).mono ?_
  rintro e w1 ⟨rfl, hu, hb1⟩
  have d2' := (hb1.cell (p := ⟨b2, o2, none⟩) B2).trans d2
  have ht := hu.tab
  have hlt1 : w.heap.size < w1.heap.size := block_lt_of_cell ht.one
  clear d1 d2 p1 p2 hu
  go_wp2_with fail
  go_at_call 53
  refine (z _).mono ?_
  rintro e w2 ⟨rfl, hg2, hb2, hs2⟩
  clear z d2' hs2
  have HT : Hid (Tab w1 w.heap.size) := ht
  have HS : Hid (Out w2 w1.heap.size n l (psum m 0 0 F G)) := (hg2.out (by omega) (fun _ _ => by omega)).congr (psum_B H1.out.lt) fun i hi j hj => by
    unfold psum part
    rw [if_neg (by omega)]
    by_cases e : i = 0
    · rw [if_pos e]; rfl
    · rw [if_neg e]; rfl
  have HB1 : Hid (Below w.heap.size w w1) := hb1
  clear hg2 ht hb1
  obtain ⟨h, hH⟩ : ∃ h, w1.heap.size = h := ⟨_, rfl⟩
  rw [hH] at hb2 HS hlt1
  go_wp2
  have HH : Hid (w1.heap.size = h) := hH
  clear hH
  go_loopw [39] (fun v wr => ∃ k : Nat, k ≤ n ∧ v = .int .i64 k ∧ Out wr h n l (psum m k 0 F G) ∧ Below h w1 wr) (fun v _ => n - (intOf v).toNat)
  case atStart => exact ⟨0, by omega, rfl, HS.out, hb2⟩
  case round =>
    obtain ⟨k, hk, rfl, ho, hb⟩ := hrel
    clear HS hb2
    have HO : Hid (Out wr h n l (psum m k 0 F G)) := ho
    clear ho
    by_cases hlt : k < n
    · have ik : (k : Int) < (n : Int) := by omega
      have ck : wr.cell? ⟨b1, o1 + k, none⟩ = some (.slice (A k) m (C k)) := by
        rw [hb.cell (p := ⟨b1, o1 + k, none⟩) (by simp; omega), HB1.out.cell (p := ⟨b1, o1 + k, none⟩) B1]; exact HC1.out k hlt
      obtain ⟨ba, oa, hA, hr⟩ := (H1.out.row k hlt).lies (by rw [HL.out k hlt]; omega)
      rw [hA] at ck
      have HR : Hid (∀ i, i < m → w.cell? ⟨ba, oa + i, none⟩ = some (.int .u8 ((F k i : Nat) : Int))) := fun i hi => hr i (by rw [HL.out k hlt]; exact hi)
      have Ba : ba < w.heap.size := block_lt_of_cell (HR.out 0 (by omega))
      clear hr hA
      generalize C k = cc at ck
      go_wp2
      clear ck
      go_loopw [46] (fun v wr => ∃ t : Nat, t ≤ m ∧ v = .int .i64 t ∧ Out wr h n l (psum m k t F G) ∧ Below h w1 wr) (fun v _ => m - (intOf v).toNat)
      case atStart => exact ⟨0, by omega, rfl, HO.out, hb⟩
      case round =>
        obtain ⟨t, htm, rfl, ho, hbr⟩ := hrel
        clear HO hb
        by_cases hlt2 : t < m
        · have it : (t : Int) < (m : Int) := by omega
          have hbw : Below w.heap.size w wr := HB1.out.trans (hbr.mono (by omega))
          have cf : wr.cell? ⟨ba, oa + t, none⟩ = some (.int .u8 ((F k t : Nat) : Int)) := (hbw.cell (p := ⟨ba, oa + t, none⟩) Ba).trans (HR.out t hlt2)
          have cb : wr.cell? ⟨b2, o2 + t, none⟩ = some (.slice (A' t) l (C' t)) := (hbw.cell (p := ⟨b2, o2 + t, none⟩) B2).trans (HC2.out t hlt2)
          obtain ⟨A1, C1, hm1, hs1, hq1⟩ := ho
          have cp := hm1.cellAt hlt
          have fp := hs1 k hlt
          have lF := H1.out.lt k t
          have hT : Tab wr w.heap.size := HT.out.keep hbr hlt1
          have rG := (H2.out.row t hlt2).keep hbw
          rw [HL'.out t hlt2] at rG
          have KO : Hid (Out wr h n l (psum m k t F G)) := ⟨A1, C1, hm1, hs1, hq1⟩
          have K : Hid (Calls Try.prog 45 #[.pointer (some ⟨w.heap.size, 0, none⟩), .slice (A1 k) l (C1 k), .slice (A' t) l (C' t), .int .u8 ((F k t : Nat) : Int)] wr.drew fun e w' =>
              e = .returned (.slice (some ⟨wr.heap.size, 0, none⟩) l l) ∧ w'.cell? ⟨h, k, none⟩ = some (.slice (A1 k) l (C1 k)) ∧ w'.frozen? ⟨h, k, none⟩ = false ∧ Out (w'.setCell ⟨h, k, none⟩ (.slice (some ⟨wr.heap.size, 0, none⟩) l l)) h n l (psum m k (t + 1) F G) ∧ Below h w1 (w'.setCell ⟨h, k, none⟩ (.slice (some ⟨wr.heap.size, 0, none⟩) l l))) := by
            refine (mulAdd_row w.heap.size (F k t) l (C1 k) l (C' t) (A1 k) (A' t) (psum m k t F G k) (G t) wr.drew (hT.drewN 1) lF ((hm1.row k hlt).drewN 1) (rG.drewN 1) (by omega) (by omega)).mono ?_
            rintro e w' ⟨rfl, hrow, hbel⟩
            have hb3 : Below wr.heap.size wr w' := (Below.refl wr.heap.size wr).drew.trans hbel
            have hhs : h < wr.heap.size := block_lt_of_cell cp
            refine ⟨rfl, (hb3.cell (p := ⟨h, k, none⟩) hhs).trans cp, (hb3.frozen (p := ⟨h, k, none⟩) hhs).trans fp, ?_, ?_⟩
            · refine (KO.out.keep hb3).set hlt hrow (fun e => by cases e) (Nat.le_refl _) (psum_B H1.out.lt) (fun j hj => ?_) fun i hi hne j hj => ?_
              · unfold ad psum part
                rw [if_pos hj, if_neg (by omega), if_pos rfl, if_neg (by omega), if_pos rfl]; rfl
              · unfold psum part
                by_cases e : i < k
                · rw [if_pos e, if_pos e]
                · rw [if_neg e, if_neg hne, if_neg e, if_neg hne]
            · exact (hbr.trans (hb3.mono (by omega))).setCell (Nat.le_refl _) _
          clear hbw hm1 hs1 hq1 hT rG KO hbr
          generalize F k t = f at *
          generalize A1 k = ap at *
          generalize C1 k = acp at *
          generalize A' t = ab at *
          generalize C' t = acb at *
          go_wp2
          go_region_with (go_at_call 45; refine K.out.mono ?_; rintro e w' ⟨rfl, y1, y2, y3, y4⟩)
          all_goals
            go_wp2
            go_round
            case rel => exact ⟨t + 1, by omega, by go_num, y3, y4⟩
            case measure => simp [intOf]; omega
        · have : t = m := by omega
          subst this
          have HH : Hid (Out wr h n l (psum t (k + 1) 0 F G)) := ho.congr (psum_B H1.out.lt) fun i hi j hj => by
            unfold psum part
            by_cases e : i < k
            · rw [if_pos e, if_pos (by omega)]
            · by_cases e2 : i = k
              · rw [if_neg e, if_pos e2, if_pos (by omega)]
              · rw [if_neg e, if_neg e2, if_neg (by omega)]
                by_cases e3 : i = k + 1
                · rw [if_pos e3]
                · rw [if_neg e3]
          clear ho
          go_wp2
          go_round
          case rel => exact ⟨k + 1, by omega, by go_num, HH.out, hbr⟩
          case measure => simp [intOf]; omega
    · have : k = n := by omega
      subst this
      have HE : Hid (Out wr h k l (mm m F G)) := HO.out.congr (mm_B H1.out.lt) fun i hi j hj => by
        unfold psum part; rw [if_pos hi]; rfl
      go_wp2
      go_ret2
      exact ⟨h, rfl, by omega, HE.out, HB1.out.trans (hb.mono (by omega))⟩

set_option maxRecDepth 100000 in
set_option maxHeartbeats 1000000 in
theorem mxMul_no (a a' : Option Addr) (n m c c' : Nat) (A A' : Nat → Option Addr) (L L' C C' : Nat → Nat) (F G : Nat → Nat → Nat) (w : World) (h1 : Mat w a n A L C F) (h2 : Mat w a' m A' L' C' G) (hn : n ≤ maxLen) (hm : m ≤ maxLen) (hno : ¬ (IsM n L ∧ IsM m L' ∧ L 0 = m)) :
    Calls Try.prog 43 #[.slice a n c, .slice a' m c'] w fun e w' => e = .returned (.tuple #[.slice none 0 0, .bool false]) ∧ w = w' := by
  by_cases g1 : IsM n L
  · have p1 := isMatrix_yes a n c A L C F w h1 g1
    by_cases g2 : IsM m L'
    · have p2 := isMatrix_yes a' m c' A' L' C' G w h2 g2
      have hne : ¬ L 0 = m := fun q => hno ⟨g1, g2, q⟩
      obtain ⟨n1, n2, l1, l2, hl⟩ := g1
      obtain ⟨m1, m2, k1, k2, hl'⟩ := g2
      obtain ⟨b1, o1, rfl, hc1⟩ := h1.lies (by omega)
      have d1 := hc1 0 (by omega)
      simp only [Nat.add_zero] at d1
      have i1 : (0 : Int) < (n : Int) := by omega
      have hne' : ((L 0 : Nat) : Int) ≠ (m : Int) := by omega
      clear hc1 h1 h2 hno hl hl' k1 k2 hne
      generalize C 0 = c1 at d1
      generalize A 0 = x1 at d1
      generalize L 0 = l at *
      go_enter Try.func43, Try.ntmps43
      go_wp2_with fail
      go_at_call_of 60 (Value.slice (some ⟨b1, o1, none⟩) n c)
      refine p1.mono ?_
      rintro e w' ⟨rfl, rfl⟩
      go_wp2_with fail
      go_at_call 60
      refine p2.mono ?_
      rintro e w' ⟨rfl, rfl⟩
      go_wp2
      go_ret2
      exact ⟨rfl, rfl⟩
    · have p2 := isMatrix_no a' m c' A' L' C' G w h2 hm g2
      clear h1 h2 hno g1 g2
      go_enter Try.func43, Try.ntmps43
      go_wp2_with fail
      go_at_call 60
      refine p1.mono ?_
      rintro e w' ⟨rfl, rfl⟩
      go_wp2_with fail
      go_at_call 60
      refine p2.mono ?_
      rintro e w' ⟨rfl, rfl⟩
      go_wp2
      go_ret2
      exact ⟨rfl, rfl⟩
  · have p1 := isMatrix_no a n c A L C F w h1 hn g1
    clear h1 h2 hno g1
    go_enter Try.func43, Try.ntmps43
    go_wp2_with fail
    go_at_call 60
    refine p1.mono ?_
    rintro e w' ⟨rfl, rfl⟩
    go_wp2
    go_ret2
    exact ⟨rfl, rfl⟩
end Go.Proofs.Ytbfhmdphhhjlnaa
