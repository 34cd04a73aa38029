/-
  Rows that grow side by side, each in memory of its own; and the document's Split, which makes rows so.
-/
import Derived.Test.YtfifcghjbdooeaaSpD
import Derived.Maps.AppendAt
import Derived.Deep.DeepCutAuto
set_option maxRecDepth 100000
set_option linter.unusedVariables false
namespace Go.Proofs.Ytfifcghjbdooeaa
open Go.RowKit
attribute [local go_sem ↓] Go.wp_at_zero Go.wp_at_succ

/-- k headers in block H, each of a row of one's own behind it; no two of the rows in one block. -/
structure Grow (w : World) (H k : Nat) (A : Nat → Option Addr) (L C : Nat → Nat) (F : Nat → Nat → Nat) : Prop where
  hdr : ∀ i, i < k → w.cell? ⟨H, i, none⟩ = some (.slice (A i) (L i) (C i))
  soft : ∀ i, i < k → w.frozen? ⟨H, i, none⟩ = false
  own : ∀ i, i < k → Own w (H + 1) (.slice (A i) (L i) (C i)) (L i) (F i)
  apart : ∀ i j, i < k → j < k → i ≠ j → ∀ x y, A i = some x → A j = some y → x.block ≠ y.block

theorem Grow.congr {w : World} {H k : Nat} {A : Nat → Option Addr} {L C : Nat → Nat} {F G : Nat → Nat → Nat} (g : Grow w H k A L C F) (e : ∀ i, i < k → ∀ j, j < L i → F i j = G i j) : Grow w H k A L C G :=
  ⟨g.hdr, g.soft, fun i hi => (g.own i hi).congr (e i hi), g.apart⟩
theorem Grow.len {w : World} {H k : Nat} {A : Nat → Option Addr} {L L' C : Nat → Nat} {F : Nat → Nat → Nat} (g : Grow w H k A L C F) (e : ∀ i, i < k → L i = L' i) : Grow w H k A L' C F :=
  ⟨fun i hi => by rw [← e i hi]; exact g.hdr i hi, g.soft, fun i hi => by rw [← e i hi]; exact g.own i hi, g.apart⟩
theorem Grow.keep {w w' : World} {H k : Nat} {A : Nat → Option Addr} {L C : Nat → Nat} {F : Nat → Nat → Nat} (g : Grow w H k A L C F) (hb : Below w.heap.size w w') : Grow w' H k A L C F :=
  ⟨fun i hi => (hb.cell (p := ⟨H, i, none⟩) (block_lt_of_cell (g.hdr i hi))).trans (g.hdr i hi), fun i hi => (hb.frozen (p := ⟨H, i, none⟩) (block_lt_of_cell (g.hdr i hi))).trans (g.soft i hi), fun i hi => (g.own i hi).keep hb, g.apart⟩
theorem Grow.start (w : World) (k : Nat) (F : Nat → Nat → Nat) : Grow (w.alloc (.cells (madeCells #[.slice none 0 0] k) 22)) w.heap.size k (fun _ => none) (fun _ => 0) (fun _ => 0) F := by
  refine ⟨fun i hi => ?_, fun i _ => World.frozen?_alloc_new _ _ _ _, fun i hi => Own.start _ _ _, fun i j _ _ _ x y e => by cases e⟩
  rw [World.cell?_alloc_new, ← Array.getElem?_toList, toList_madeCells_one, List.getElem?_replicate, if_pos (by omega)]

/-- A row more behind one of them. -/
theorem Grow.step {w : World} {H k i m c : Nat} {A : Nat → Option Addr} {L C : Nat → Nat} {F : Nat → Nat → Nat} {ad : Addr} {u : Nat → Nat} (g : Grow w H k A L C F) (hi : i < k) (r : Row w (some ad) m u) (hl : L i + m ≤ 140737488355328) :
    ∃ a' c' W, Sem.run Try.prog (Builtin.append_ #[22, 22] 22 #[.slice (A i) (L i) (C i), .slice (some ad) m c]) w = .ok (.slice a' (L i + m) c') W ∧ W.cell? ⟨H, i, none⟩ = some (.slice (A i) (L i) (C i)) ∧ W.frozen? ⟨H, i, none⟩ = false ∧
      Grow (W.setCell ⟨H, i, none⟩ (.slice a' (L i + m) c')) H k (upd A i a') (upd L i (L i + m)) (upd C i c') (upd F i (cat (L i) (F i) u)) ∧ Below H w (W.setCell ⟨H, i, none⟩ (.slice a' (L i + m) c')) := by
  obtain ⟨x, hx, hzz⟩ := Option.map_eq_some_iff.1 info5
  simp only [Prod.mk.injEq] at hzz
  obtain ⟨hz, hs, hby⟩ := hzz
  have hH : H < w.heap.size := block_lt_of_cell (g.hdr i hi)
  have hcell : ∀ j, j < m → w.cell? (ad.add j) = some (.int .u8 ((u j : Nat) : Int)) := fun j hj => by
    obtain ⟨b, o, e, hc⟩ := r.lies (by omega)
    injection e with e; subst e
    rw [add_plain]; exact hc j hj
  obtain ⟨v', W, hr, hown, hg, _, hblk⟩ := run_append_own_at (P := Try.prog) w (H + 1) 22 22 5 x (.int .u8 0) 1 1 Try.underlying22 hx hz hs hby rfl (by omega) _ (L i) (bs (F i) (L i)) (g.own i hi) ad m c (bs u m) (by rw [bs_length]; omega)
    (fun j y hy => by
      have hj : j < m := by rw [← bs_length u m]; exact (List.getElem?_eq_some_iff.1 hy).1
      rw [bs_at hj] at hy; injection hy with hy
      rw [hcell j hj, hy]) bs_one (by unfold maxLen; omega) (by omega) (by omega)
  rw [bs_cat] at hown
  have lt : ∀ j, j < k → ∀ b, (Value.slice (A j) (L j) (C j)).ownBlock = some b → H + 1 ≤ b ∧ b < w.heap.size := fun j hj => (g.own j hj).lt
  have hne : some H ≠ (Value.slice (A i) (L i) (C i)).ownBlock := fun e => by
    have := lt i hi H e.symm; omega
  have hblkH : W.heap[H]? = w.heap[H]? := hg.block H hH hne
  obtain ⟨a', c', rfl⟩ : ∃ a' c', v' = .slice a' (L i + m) c' := by
    rcases hown.2 with ⟨e, e0⟩ | ⟨gg, cap, cur, e, _⟩
    · exact ⟨none, 0, by rw [e, e0]⟩
    · exact ⟨_, cap, e⟩
  have hci : W.cell? ⟨H, i, none⟩ = some (.slice (A i) (L i) (C i)) := (World.cell?_of_block (w := w) (a := ⟨H, i, none⟩) hblkH).trans (g.hdr i hi)
  have hsW := hg.size
  -- a row of one's own stands behind a store of a header
  have stay : ∀ {v : Value} {n : Nat} {f : Nat → Nat} (y : Value), Own W (H + 1) v n f → Own (W.setCell ⟨H, i, none⟩ y) (H + 1) v n f := fun {v n f} y h => by
    rcases h with ⟨hl, e | ⟨gg, cap, cur, e, hgg, hh, hr⟩⟩
    · exact ⟨hl, .inl e⟩
    · exact ⟨hl, .inr ⟨gg, cap, cur, e, hgg, by rw [Below.heap_setCell _ _ _ _ (by show gg ≠ H; omega)]; exact hh, hr⟩⟩
  refine ⟨a', c', W, hr, hci, (World.frozen?_of_block (w := w) (a := ⟨H, i, none⟩) hblkH).trans (g.soft i hi), ⟨fun j hj => ?_, fun j hj => ?_, fun j hj => ?_, fun p q hp hq hpq y z ep eq => ?_⟩, ?_⟩
  · by_cases e : j = i
    · subst e; rw [upd_at, upd_at, upd_at, cell_same hci]
    · rw [upd_ne _ _ e, upd_ne _ _ e, upd_ne _ _ e, cell_other (fun q => e q.symm)]
      exact (World.cell?_of_block (w := w) (a := ⟨H, j, none⟩) hblkH).trans (g.hdr j hj)
  · rw [World.frozen?_setCell]
    exact (World.frozen?_of_block (w := w) (a := ⟨H, j, none⟩) hblkH).trans (g.soft j hj)
  · by_cases e : j = i
    · subst e; rw [upd_at, upd_at, upd_at, upd_at]; exact stay _ hown
    · rw [upd_ne _ _ e, upd_ne _ _ e, upd_ne _ _ e, upd_ne _ _ e]
      refine stay _ (World.ownsRow.kept (g.own j hj) hg ?_)
      cases hA : A j with
      | none => exact .inl rfl
      | some y =>
        right
        cases hA2 : A i with
        | none => simp [Value.ownBlock]
        | some z =>
          have := g.apart j i hj hi e y z hA hA2
          simp [Value.ownBlock]; exact this
  · have key : ∀ j, j < k → j ≠ i → ∀ y z, A j = some y → a' = some z → y.block ≠ z.block := fun j hj e y z e1 e2 => by
      have l1 := lt j hj y.block (by rw [e1]; rfl)
      subst e2
      rcases hblk with h | h
      · cases hA2 : A i with
        | none => rw [hA2] at h; simp [Value.ownBlock] at h
        | some t =>
          rw [hA2] at h; simp [Value.ownBlock] at h
          rw [h]; exact g.apart j i hj hi e y t e1 hA2
      · simp [Value.ownBlock] at h
        omega
    by_cases e1 : p = i
    · subst e1
      rw [upd_at] at ep
      rw [upd_ne _ _ (fun e => hpq e.symm)] at eq
      exact fun e => key q hq (fun e => hpq e.symm) z y eq ep e.symm
    · rw [upd_ne _ _ e1] at ep
      by_cases e2 : q = i
      · subst e2
        rw [upd_at] at eq
        exact key p hp e1 y z ep eq
      · rw [upd_ne _ _ e2] at eq
        exact g.apart p q hp hq hpq y z ep eq
  · exact ((Below.refl H w).grown hg (by omega) fun b hb => by have := lt i hi b hb; omega).setCell (Nat.le_refl _) _

theorem Grow.mat {w : World} {H k : Nat} {A : Nat → Option Addr} {L C : Nat → Nat} {F : Nat → Nat → Nat} (g : Grow w H k A L C F) (hL : ∀ i, L i ≤ 9223372036854775807) (hF : B F) : Mat w (some ⟨H, 0, none⟩) k A L C F := by
  refine ⟨fun _ => ⟨H, 0, rfl, fun i hi => by rw [Nat.zero_add]; exact g.hdr i hi⟩, fun i hi => ?_, fun i hi e => ?_, hL, hF⟩
  · by_cases h0 : L i = 0
    · rw [h0]; exact Row.zero _ _ (hF i)
    · obtain ⟨gg, cc, e, _, _, _, r⟩ := (g.own i hi).row (by omega) (hF i)
      injection e with e1 e2 e3
      rw [e1]; exact r
  · rcases (g.own i hi).2 with ⟨e1, _⟩ | ⟨gg, cap, cur, e1, _⟩
    · injection e1 with _ e2 e3; exact ⟨e2, e3⟩
    · injection e1 with e2; rw [e] at e2; cases e2

theorem rsplit_no (a : Option Addr) (n c : Nat) (k B : Int) (w : World) (hn : n ≤ maxLen) (h : ¬ MayN n k B) :
    Calls Try.prog 10 #[.slice a n c, .int .i64 k, .int .i64 B] w fun e w' => e = .returned (.tuple #[.slice none 0 0, .bool false]) ∧ w' = w := by
  unfold maxLen at hn
  unfold MayN at h
  by_cases h3 : k < 1
  · clear h
    go_enter Try.func10, Try.ntmps10
    go_wp2
    go_ret2
    exact ⟨rfl, rfl⟩
  · have h3' := Int.not_lt.1 h3
    by_cases h4 : k > 255
    · clear h
      go_enter Try.func10, Try.ntmps10
      go_wp2
      go_ret2
      exact ⟨rfl, rfl⟩
    · have h4' := Int.not_lt.1 h4
      by_cases h5 : B < 1
      · clear h
        go_enter Try.func10, Try.ntmps10
        go_wp2
        go_ret2
        exact ⟨rfl, rfl⟩
      · have h5' := Int.not_lt.1 h5
        by_cases h6 : B > 4096
        · clear h
          go_enter Try.func10, Try.ntmps10
          go_wp2
          go_ret2
          exact ⟨rfl, rfl⟩
        · have h6' := Int.not_lt.1 h6
          have h9 : (n : Int) > 65536 := by omega
          clear h
          go_enter Try.func10, Try.ntmps10
          go_wp2
          go_ret2
          exact ⟨rfl, rfl⟩

/-- How long row r is while stripe s is laid to the rows ahead of row i. -/
def gl (t x i : Nat) : Nat → Nat := fun r => if r < i then t + x else t

set_option maxHeartbeats 2000000 in
theorem rsplit_yes (a : Option Addr) (n c k B : Nat) (f : Nat → Nat) (w : World) (hr : Row w a n f) (hc : n ≤ c) (h : MayN n k B) :
    Calls Try.prog 10 #[.slice a n c, .int .i64 k, .int .i64 B] w fun e w' => ∃ A C, e = .returned (.tuple #[.slice (some ⟨w.heap.size, 0, none⟩) k k, .bool true]) ∧ Grow w' w.heap.size k A (fun _ => ln n k B) C (spq f n k B n) ∧ Below w.heap.size w w' := by
  obtain ⟨h1, h2, h3, h4, h5, h6⟩ := h
  have hk : 1 ≤ k := by omega
  have hB : 1 ≤ B := by omega
  have hl := ln_le n hk hB
  have hK := KB hk hB
  have hK2 : k * B ≤ 255 * 4096 := Nat.mul_le_mul (by omega) (by omega)
  obtain ⟨l, hle⟩ : ∃ l, ln n k B = l := ⟨_, rfl⟩
  have HLN : Hid (ln n k B = l) := hle
  rw [hle] at hl ⊢
  obtain ⟨K, hKe⟩ : ∃ K, k * B = K := ⟨_, rfl⟩
  have HKE : Hid (k * B = K) := hKe
  have hKi : (k : Int) * (B : Int) = (K : Int) := by rw [← hKe]; simp
  rw [hKe] at hK hK2
  have mk1 := run_make_row' (P := Try.prog) 24 22 (.slice none 0 0) 24 Try.underlying24 info27 rfl .i64 .i64 k (by omega) (by omega) w
  have HR : Hid (Row w a n f) := hr
  have HFl : Hid (∀ i, f i < 256) := hr.lt
  have HG0 : Hid (Grow (w.alloc (.cells (madeCells #[.slice none 0 0] k) 22)) w.heap.size k (fun _ => none) (fun _ => min l (0 * B)) (fun _ => 0) (spq f n k B n)) := (Grow.start w k _).len fun i hi => by omega
  have HB0 : Hid (Below w.heap.size w (w.alloc (.cells (madeCells #[.slice none 0 0] k) 22))) := bal _ _
  clear hr hle hKe
  generalize w.alloc (.cells (madeCells #[.slice none 0 0] k) 22) = W0 at *
  generalize hH : w.heap.size = H at *
  go_enter Try.func10, Try.ntmps10
  go_wp2
  clear mk1
  go_loopg [9] n (fun kx v9 wr => ∃ s A C, s * B ≤ 69632 ∧ s * K ≤ 2000000 ∧ v9 = .int .i64 ((s * K : Nat) : Int) ∧ Hid (n - s * K ≤ kx) ∧ Hid (Grow wr H k A (fun _ => min l (s * B)) C (spq f n k B n)) ∧ Hid (Below H w wr))
  case atStart => exact ⟨0, _, _, by omega, by omega, by simp, Nat.sub_le _ _, HG0, HB0⟩
  case round =>
  obtain ⟨s, A, C, hsb, hsk, rfl, HKX, HG, HBr⟩ := hrel
  clear HG0 HB0
  obtain ⟨g0, hg0⟩ : ∃ g0, g0 = gk := ⟨_, rfl⟩
  rw [← hg0] at HKX
  have HG00 : Hid (g0 = gk) := hg0
  clear hg0
  by_cases hlt : s * K < n
  · have hlt' : s * (k * B) < n := by rw [HKE.out]; exact hlt
    have HXE : Hid (min B (l - s * B) = wd (n - s * K) k B) := by
      have e := wd_ln (n := n) hk hB (Nat.le_of_lt hlt')
      rw [HKE.out, HLN.out] at e
      exact e.symm
    have HTL : Hid (s * B < l) := by rw [← HLN.out]; exact ln_lt hk hB hlt'
    have HLT : Hid (s * (k * B) < n) := hlt'
    have HLK : Hid (s * K < n) := hlt
    have HSB : Hid (s * B ≤ s * K) := by rw [← HKE.out]; exact Nat.mul_le_mul_left s (Nat.le_mul_of_pos_left B hk)
    have HMN : Hid (min l (s * B) = s * B) := by have := HTL.out; show min l (s * B) = s * B; omega
    have HX1 : Hid (1 ≤ wd (n - s * K) k B) := wd_pos hk hB (by omega)
    have HX2 : Hid (wd (n - s * K) k B ≤ B) := wd_le _ _ _
    rw [HMN.out] at HG
    have hsub : (n : Int) - ((s * K : Nat) : Int) = ((n - s * K : Nat) : Int) := by omega
    have hE := cdiv_int (n - s * K) k hk
    have hW1 : n - s * K < K → cdiv (n - s * K) k = wd (n - s * K) k B := fun q => (wd_part hk (by rw [HKE.out]; omega)).symm
    have hW2 : ¬ n - s * K < K → B = wd (n - s * K) k B := fun q => (wd_full hk (by rw [HKE.out]; omega)).symm
    clear hlt' hsk hlt
    obtain ⟨t, ht⟩ : ∃ t, s * B = t := ⟨_, rfl⟩
    obtain ⟨t9, ht9⟩ : ∃ t9, s * K = t9 := ⟨_, rfl⟩
    obtain ⟨r, hr⟩ : ∃ r, n - s * K = r := ⟨_, rfl⟩
    obtain ⟨x, hx⟩ : ∃ x, wd r k B = x := ⟨_, rfl⟩
    rw [hr] at HXE HX1 HX2 hsub hE hW1 hW2
    rw [hx] at HXE HX1 HX2 hW1 hW2
    rw [ht] at HXE HTL HSB HMN HG hsb
    rw [ht9] at HSB HLK hsub ⊢
    have HTE : Hid (s * B = t) := ht
    have HT9 : Hid (s * K = t9) := ht9
    have HRE : Hid (n - s * K = r) := hr
    have HXW : Hid (wd (n - s * (k * B)) k B = x) := by rw [HKE.out]; rw [hr]; exact hx
    have htn : t9 < n := HLK.out
    have hrn : r ≤ 65536 := by have := HRE.out; omega
    have hx4 : x ≤ 4096 := by have := HX2.out; omega
    clear ht ht9 hr hx
    generalize cdiv r k = cd at *
    go_upto_if 52 with fail
    go_cut [10] (fun v wx => v = .int .i64 (x : Int) ∧ wx = wr)
    case first =>
      by_cases hrk : r < K
      · have hcx := hW1 hrk
        rw [hcx] at hE
        have hrk' : (r : Int) < (K : Int) := by omega
        clear hW1 hW2
        go_wp2_with fail
        go_meet
        exact ⟨by rw [hE], rfl⟩
      · have hcx := hW2 hrk
        have hrk' : ¬ (r : Int) < (K : Int) := by omega
        have HBX : Hid (B = x) := hcx
        clear hW1 hW2 hE hcx
        go_wp2_with fail
        go_meet
        exact ⟨by rw [HBX.out], rfl⟩
    case rest =>
    obtain ⟨rfl, hwc⟩ := hcut
    subst hwc
    clear hW1 hW2 hE hsub
    have HG2 : Hid (Grow wc H k A (gl t x 0) C (spq f n k B n)) := HG.out.len fun r _ => by unfold gl; rw [if_neg (by omega)]
    clear HG
    go_wp2
    go_loopg [11] k (fun kx v wo => ∃ i A C, i ≤ k ∧ k - i ≤ kx ∧ v = .int .i64 ((i : Nat) : Int) ∧ Hid (Grow wo H k A (gl t x i) C (spq f n k B n)) ∧ Hid (Below H w wo))
    case atStart => exact ⟨0, A, C, by omega, by omega, by simp, HG2, HBr⟩
    case round =>
    rename World => wo
    obtain ⟨i, A2, C2, hi, hkx, rfl, HG3, HB3⟩ := hrel
    clear HG2 HBr
    by_cases hik : i < k
    · have ik : (i : Int) < (k : Int) := by omega
      have mk2 := run_make_row' (P := Try.prog) 22 5 (.int .u8 0) 1 Try.underlying22 info5 rfl .i64 .i64 x (by omega) (by omega) wo
      obtain ⟨ix, hix⟩ : ∃ ix, i * x = ix := ⟨_, rfl⟩
      have HIX : Hid (i * x = ix) := hix
      have hix1 : (i : Int) * (x : Int) = (ix : Int) := by rw [← hix]; simp
      have hix2 : ix ≤ 255 * 4096 := by rw [← hix]; exact Nat.mul_le_mul (by omega) (by omega)
      clear hix
      obtain ⟨fr, hfr⟩ : ∃ fr, fr = min n (t9 + ix) := ⟨_, rfl⟩
      have hmin1 : (if (n : Int) < (t9 : Int) + (ix : Int) then (n : Int) else (t9 : Int) + (ix : Int)) = (fr : Int) := by split <;> omega
      obtain ⟨y, hy⟩ : ∃ y, y = min x (n - fr) := ⟨_, rfl⟩
      have hmin2 : (if (n : Int) < (fr : Int) + (x : Int) then (n : Int) else (fr : Int) + (x : Int)) = (fr : Int) + (y : Int) := by split <;> omega
      have hfn : fr + y ≤ n := by omega
      obtain ⟨A3, e3, row3, _, _⟩ := cut_lhs (c := c) HR.out fr y hfn hc
      have bW1 : Below wo.heap.size wo (wo.alloc (.cells (madeCells #[.int .u8 0] x) 5)) := bal _ _
      have hwo : H ≤ wo.heap.size := by have := HB3.out.size; omega
      have bw1 : Below w.heap.size w (wo.alloc (.cells (madeCells #[.int .u8 0] x) 5)) := by rw [hH]; exact HB3.out.trans (bW1.mono hwo)
      have M1 := Made.start wo x
      have e4 := copyR (w := wo.alloc (.cells (madeCells #[.int .u8 0] x) 5)) (A := some ⟨wo.heap.size, 0, none⟩) (dl := x) (dc := x) (sl := y) (sc := c - fr) (o := 0) (m := y) M1.cell M1.soft (by omega) (fun _ => rfl) (row3.keep bw1) (by omega)
      have M2 := M1.copy (o := 0) (m := y) (u := fun j => f (fr + j)) (by omega)
      have bW2 : Below wo.heap.size wo ((wo.alloc (.cells (madeCells #[.int .u8 0] x) 5)).setCells wo.heap.size 0 (bs (fun j => f (fr + j)) y)) := below_setCells (Nat.le_refl _) _ _ _ bW1
      have r2 : Row ((wo.alloc (.cells (madeCells #[.int .u8 0] x) 5)).setCells wo.heap.size 0 (bs (fun j => f (fr + j)) y)) (some ⟨wo.heap.size, 0, none⟩) x (ovr (fun _ => 0) 0 y (fun j => f (fr + j))) := M2.row (ovr_lt (fun _ => by omega) fun _ => HFl.out _)
      have g2 := HG3.out.keep bW2
      have hgl : gl t x i i = t := by unfold gl; rw [if_neg (by omega)]
      obtain ⟨a5, c5, W3, e5, ck, fk, g5, b5⟩ := g2.step (c := x) hik r2 (by rw [hgl]; omega)
      have ck0 := g2.hdr i hik
      rw [hgl] at e5 ck g5 b5 ck0
      have HG5 : Hid (Grow (W3.setCell ⟨H, i, none⟩ (.slice a5 (t + x) c5)) H k (upd A2 i a5) (gl t x (i + 1)) (upd C2 i c5) (spq f n k B n)) := by
        refine (g5.len fun r hr => ?_).congr fun r hr j hj => ?_
        · unfold gl
          by_cases e : r = i
          · subst e; rw [upd_at, if_pos (by omega)]
          · rw [upd_ne _ _ e]
            by_cases e2 : r < i
            · rw [if_pos e2, if_pos (by omega)]
            · rw [if_neg e2, if_neg (by omega)]
        · by_cases e : r = i
          · subst e
            rw [upd_at]
            unfold gl at hj
            rw [if_pos (by omega)] at hj
            unfold cat ovr
            by_cases hj2 : j < t
            · rw [if_pos hj2]
            · rw [if_neg hj2]
              obtain ⟨o, rfl⟩ : ∃ o, j = t + o := ⟨j - t, by omega⟩
              have hp := pos_at (n := n) (k := k) (B := B) (s := s) (i := r) (o := o) (by have := HX2.out; omega)
              rw [HXW.out, HTE.out, HKE.out, HT9.out, HIX.out] at hp
              unfold spq
              rw [hp, Nat.add_sub_cancel_left]
              by_cases q : t9 + ix + o < n
              · rw [if_pos q, if_pos ⟨by omega, by omega⟩]
                show f (fr + (o - 0)) = f (t9 + ix + o)
                congr 1; omega
              · rw [if_neg q, if_neg (by omega)]
          · rw [upd_ne _ _ e]
      have HB5 : Hid (Below H w (W3.setCell ⟨H, i, none⟩ (.slice a5 (t + x) c5))) := HB3.out.trans ((bW2.mono hwo).trans b5)
      clear HG3 HB3 row3 M1 M2 r2 g2 g5 b5 bW1 bW2 bw1 hwo hfr hy hgl
      generalize (wo.alloc (.cells (madeCells #[.int .u8 0] x) 5)).setCells wo.heap.size 0 (bs (fun j => f (fr + j)) y) = W2 at *
      generalize wo.alloc (.cells (madeCells #[.int .u8 0] x) 5) = W1 at *
      generalize A2 i = a2 at *
      generalize C2 i = c2 at *
      obtain ⟨v, hv⟩ : ∃ v, Value.slice a2 t c2 = v := ⟨_, rfl⟩
      rw [hv] at ck0 ck e5
      have HA : Hid (Sem.run Try.prog (Builtin.append_ #[22, 22] 22 #[v, .slice (some ⟨wo.heap.size, 0, none⟩) x x]) W2 = .ok (.slice a5 (t + x) c5) W3) := e5
      clear hv e5
      go_wp2_with (at_builtin; refine wpList_append_ran (by rfl) _ _ 22 (by rfl) _ _ _ _ (by rfl) (by rfl) HA.out ?_)
      go_roundg (k - (i + 1))
      case measure => omega
      case rel => exact ⟨i + 1, _, _, by omega, by omega, by go_num, HG5, HB5⟩
    · have hik' : k = i := by omega
      have HG7 : Hid (Grow wo H k A2 (fun _ => min l ((s + 1) * B)) C2 (spq f n k B n)) := HG3.out.len fun r hr => by
        have e1 : (s + 1) * B = t + B := by rw [Nat.add_mul, Nat.one_mul, HTE.out]
        have := HXE.out; have := HTL.out
        unfold gl
        rw [if_pos (by omega), e1]; omega
      have HN1 : Hid ((s + 1) * K = t9 + K) := by show (s + 1) * K = t9 + K; rw [Nat.add_mul, Nat.one_mul, HT9.out]
      have HN2 : Hid ((s + 1) * B = t + B) := by show (s + 1) * B = t + B; rw [Nat.add_mul, Nat.one_mul, HTE.out]
      have ht6 : t ≤ 65536 := by have := HSB.out; omega
      have hg1 : n - t9 ≤ g0 := by have := HKX.out; rw [HT9.out] at this; exact this
      clear HG3 hi hik hkx
      subst hik'
      go_wp2
      go_roundg (g0 - 1)
      case measure => have := HG00.out; omega
      case rel => exact ⟨s + 1, A2, C2, by rw [HN2.out]; omega, by rw [HN1.out]; omega, by rw [HN1.out]; go_num, by show n - (s + 1) * K ≤ g0 - 1; rw [HN1.out]; omega, HG7, HB3⟩
  · have HG9 : Hid (Grow wr H k A (fun _ => l) C (spq f n k B n)) := HG.out.len fun r hr => by
      have e := ln_done (n := n) (s := s) hk hB (by rw [HKE.out]; omega)
      rw [HLN.out] at e
      omega
    have hlt' : ¬ ((s * K : Nat) : Int) < (n : Int) := by omega
    clear HG HKX hlt
    generalize s * K = t9 at *
    go_wp2
    go_ret2
    exact ⟨rfl, ⟨A, C, HG9.out⟩, HBr.out⟩
end Go.Proofs.Ytfifcghjbdooeaa
