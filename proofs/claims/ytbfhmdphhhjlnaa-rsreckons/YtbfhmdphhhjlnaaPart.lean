/-
  What rs.withNils, parted and taken do.
-/
import Derived.Test.YtbfhmdphhhjlnaaCd
namespace Go.Proofs.Ytbfhmdphhhjlnaa
open Go.RowKit Gf
attribute [local go_sem ↓] Go.wp_at_zero Go.wp_at_succ

/-- The greatest of the first n. -/
def mx (L : Nat → Nat) : Nat → Nat | 0 => 0 | n + 1 => max (mx L n) (L n)
theorem mx_le {L : Nat → Nat} {b : Nat} (h : ∀ i, L i ≤ b) : ∀ n, mx L n ≤ b
  | 0 => by unfold mx; omega
  | n + 1 => by have := mx_le h n; have := h n; unfold mx; omega
theorem mx_ge {L : Nat → Nat} {n i : Nat} (hi : i < n) : L i ≤ mx L n := by
  induction n with
  | zero => omega
  | succ n ih =>
    unfold mx
    by_cases e : i = n
    · subst e; omega
    · have := ih (by omega); omega
theorem mx_at {L : Nat → Nat} {n : Nat} (h : 0 < mx L n) : ∃ i, i < n ∧ L i = mx L n := by
  induction n with
  | zero => simp [mx] at h
  | succ n ih =>
    by_cases e : mx L n ≤ L n
    · exact ⟨n, by omega, by unfold mx; omega⟩
    · obtain ⟨i, hi, q⟩ := ih (by omega)
      exact ⟨i, by omega, by unfold mx; omega⟩
theorem mx_congr {L L' : Nat → Nat} {n : Nat} (h : ∀ i, i < n → L i = L' i) : mx L n = mx L' n := by
  induction n with
  | zero => rfl
  | succ n ih => unfold mx; rw [ih (fun i hi => h i (by omega)), h n (by omega)]

theorem upd_id {α : Type} (f : Nat → α) (k : Nat) : upd f k (f k) = f := by
  funext i; unfold upd; split
  · rename_i h; rw [h]
  · rfl

/-- Is row i of n there? -/
def isT (L : Nat → Nat) (n i : Nat) : Bool := decide (0 < L i) || decide (mx L n = 0)

set_option maxRecDepth 100000 in
set_option maxHeartbeats 2000000 in
theorem withNils_any (a : Option Addr) (n c : Nat) (A : Nat → Option Addr) (L C : Nat → Nat) (F : Nat → Nat → Nat) (w : World) (h : Mat w a n A L C F) (hn : n ≤ 1000) (hL : ∀ i, i < n → L i ≤ 140737488355328) :
    Calls Try.prog 30 #[.slice a n c] w fun e w' => ∃ hh A' C', e = .returned (.slice (some ⟨hh, 0, none⟩) n n) ∧ Hold w' hh n A' L C' F ∧ (∀ i, i < n → (A' i = none ↔ isT L n i = false)) ∧ w.heap.size ≤ hh ∧ Below w.heap.size w w' := by
  have HM : Hid (Mat w a n A L C F) := h
  have HL : Hid (∀ i, i < n → L i ≤ 140737488355328) := hL
  have HLe : Hid (∀ i, L i ≤ 9223372036854775807) := h.le
  have hF := h.lt
  clear h hL
  go_enter Try.func30, Try.ntmps30
  go_wp2
  go_loop [3, 11] (fun m v => ∃ k : Nat, k ≤ n ∧ v = .int .i64 k ∧ m = .int .i64 ((mx L k : Nat) : Int)) (fun _ v => n - (intOf v).toNat)
  case atStart => exact ⟨0, by omega, rfl, rfl⟩
  case round =>
    obtain ⟨k, hk, rfl, rfl⟩ := hrel
    by_cases hlt : k < n
    · obtain ⟨b, o, rfl, hc⟩ := HM.out.lies (by omega)
      have ck := hc k hlt
      have ik : (k : Int) < (n : Int) := by omega
      have l1 := HLe.out k
      have l2 := mx_le HLe.out k
      have HX : Hid (mx L (k + 1) = max (mx L k) (L k)) := rfl
      clear hc HM HL
      generalize A k = ak at *
      generalize C k = cck at *
      generalize L k = lk at *
      generalize mx L k = mk at *
      go_wp2
      all_goals
        go_round
        case rel => exact ⟨k + 1, by omega, by go_num, by rw [HX.out]; first | rfl | (congr 1; omega)⟩
        case measure => simp [intOf]; omega
    · have : k = n := by omega
      subst this
      have mk := run_make_row' (P := Try.prog) 27 30 (.slice none 0 0) 24 Try.underlying27 info27 rfl .i64 .i64 k (by omega) (by omega)
      obtain ⟨W, hW⟩ : ∃ W, W = w.alloc (.cells (madeCells #[.slice none 0 0] k) 30) := ⟨_, rfl⟩
      have mkr : Sem.run Try.prog (Instr.makeSlice 27 (.int .i64 (k : Int)) (.int .i64 (k : Int))) w = .ok (.slice (some ⟨w.heap.size, 0, none⟩) k k) W := by rw [hW]; exact mk w
      have H0 : Hid (Hold W w.heap.size k (fun _ => none) (fun _ => 0) (fun _ => 0) F) := by
        rw [hW]; exact Hold.made w k F hF
      have HB0 : Hid (Below w.heap.size w W) := by rw [hW]; exact (Below.refl _ _).alloc (Nat.le_refl _) _
      have hx : isT L k = fun i => decide (0 < L i) || decide (mx L k = 0) := rfl
      have HT : Hid (∀ i, isT L k i = (decide (0 < L i) || decide (mx L k = 0))) := fun _ => rfl
      have HZ : Hid (∀ i, i < k → L i ≤ mx L k) := fun i hi => mx_ge hi
      have l2 := mx_le HLe.out k
      clear mk hW hx
      generalize hmx : mx L k = m at *
      clear hmx
      go_wp2
      clear mkr
      go_loopw [25] (fun v wr => ∃ (t : Nat) (A' : Nat → Option Addr) (L' C' : Nat → Nat), t ≤ k ∧ v = .int .i64 t ∧ Hold wr w.heap.size k A' L' C' F ∧ (∀ i, i < t → L' i = L i ∧ (A' i = none ↔ isT L k i = false)) ∧ (∀ i, t ≤ i → L' i = 0 ∧ A' i = none) ∧ Below w.heap.size w wr) (fun v _ => k - (intOf v).toNat)
      case atStart => exact ⟨0, _, _, _, by omega, rfl, H0.out, fun i hi => absurd hi (by omega), fun _ _ => ⟨rfl, rfl⟩, HB0.out⟩
      case round =>
        obtain ⟨t, A', L', C', ht, rfl, hold, hnil, hrest, hb⟩ := hrel
        clear H0 HB0
        have HH : Hid (Hold wr w.heap.size k A' L' C' F) := hold
        have HN : Hid (∀ i, i < t → L' i = L i ∧ (A' i = none ↔ isT L k i = false)) := hnil
        have HR : Hid (∀ i, t ≤ i → L' i = 0 ∧ A' i = none) := hrest
        clear hold hnil hrest
        by_cases hlt2 : t < k
        · have it : (t : Int) < (k : Int) := by omega
          have hM := HM.out.keep hb
          obtain ⟨b, o, rfl, hc⟩ := hM.lies (by omega)
          have ct := hc t hlt2
          have l1 := HLe.out t
          by_cases hT : 0 < L t ∨ m = 0
          · have hTb : isT L k t = true := by rw [HT.out]; simpa using hT
            have cc := copied_any (A t) (L t) (C t) (F t) wr (hM.row t hlt2) (hM.nil t hlt2) (HL.out t hlt2)
            have fz := HH.out.soft t hlt2
            have cz := HH.out.mat.cellAt hlt2
            have K : Hid (Calls Try.prog 28 #[.slice (A t) (L t) (C t)] wr fun e w' => ∃ g c', e = .returned (.slice (some ⟨g, 0, none⟩) (L t) c') ∧ w'.cell? ⟨w.heap.size, t, none⟩ = some (.slice (A' t) (L' t) (C' t)) ∧ w'.frozen? ⟨w.heap.size, t, none⟩ = false ∧ Hold (w'.setCell ⟨w.heap.size, t, none⟩ (.slice (some ⟨g, 0, none⟩) (L t) c')) w.heap.size k (upd A' t (some ⟨g, 0, none⟩)) (upd L' t (L t)) (upd C' t c') F ∧ Below w.heap.size w (w'.setCell ⟨w.heap.size, t, none⟩ (.slice (some ⟨g, 0, none⟩) (L t) c'))) := by
              refine cc.mono ?_
              rintro e w1 ⟨g, c', rfl, hrow, hg, hb1⟩
              have hs := block_lt_of_cell cz
              have hold1 := (HH.out.keep hb1).set (c := c') hlt2 hrow (fun e => by cases e) l1
              rw [upd_id] at hold1
              exact ⟨g, c', rfl, (hb1.cell (p := ⟨w.heap.size, t, none⟩) hs).trans cz, (hb1.frozen (p := ⟨w.heap.size, t, none⟩) hs).trans fz, hold1, (hb.trans (hb1.mono hb.size)).setCell (Nat.le_refl _) _⟩
            have HN2 : Hid (∀ g : Nat, (∀ i, i < t + 1 → upd L' t (L t) i = L i ∧ (upd A' t (some ⟨g, 0, none⟩) i = none ↔ isT L k i = false)) ∧ ∀ i, t + 1 ≤ i → upd L' t (L t) i = 0 ∧ upd A' t (some ⟨g, 0, none⟩) i = none) := fun g => ⟨fun i hi => by
              by_cases e : i = t
              · subst e; rw [upd_at, upd_at, hTb]; simp
              · rw [upd_ne _ _ e, upd_ne _ _ e]; exact HN.out i (by omega), fun i hi => by
              rw [upd_ne _ _ (by omega), upd_ne _ _ (by omega)]; exact HR.out i (by omega)⟩
            clear hM hc cc fz cz HM HL HLe HN HH hTb HT HZ hb HR
            generalize A t = at' at *
            generalize C t = ct' at *
            obtain ⟨lt, hLt⟩ : ∃ l, L t = l := ⟨_, rfl⟩
            rw [hLt] at K HN2 ct hT l1
            clear hLt
            generalize A' t = az at *
            generalize C' t = cz at *
            obtain ⟨lz, hLz⟩ : ∃ l, L' t = l := ⟨_, rfl⟩
            rw [hLz] at K
            clear hLz
            by_cases hT1 : 0 < lt
            · clear hT
              go_wp2_with fail
              go_at_call 28
              refine K.out.mono ?_
              rintro e w1 ⟨g, c', rfl, y1, y2, y3, y4⟩
              go_wp2
              go_round
              case rel => exact ⟨t + 1, _, _, _, by omega, by go_num, y3, (HN2.out g).1, (HN2.out g).2, y4⟩
              case measure => simp [intOf]; omega
            · have hmb : ((m : Int) == 0) = true := by simp; omega
              have hl0 : lt = 0 := by omega
              subst hl0
              clear hT
              go_wp2_with fail
              go_at_call 28
              refine K.out.mono ?_
              rintro e w1 ⟨g, c', rfl, y1, y2, y3, y4⟩
              go_wp2
              go_round
              case rel => exact ⟨t + 1, _, _, _, by omega, by go_num, y3, (HN2.out g).1, (HN2.out g).2, y4⟩
              case measure => simp [intOf]; omega
          · have hl0 : L t = 0 := by omega
            have hm0 : (m : Int) ≠ 0 := by omega
            have hTb : isT L k t = false := by rw [HT.out]; simp; omega
            have HN2 : Hid ((∀ i, i < t + 1 → L' i = L i ∧ (A' i = none ↔ isT L k i = false)) ∧ ∀ i, t + 1 ≤ i → L' i = 0 ∧ A' i = none) := ⟨fun i hi => by
              by_cases e : i = t
              · subst e
                have := HR.out i (Nat.le_refl _)
                exact ⟨by rw [this.1, hl0], by rw [this.2, hTb]; simp⟩
              · exact HN.out i (by omega), fun i hi => HR.out i (by omega)⟩
            rw [hl0] at ct
            clear hM hc HM HL HLe HN hTb HT HZ HR hT hl0 l1
            generalize A t = at' at *
            generalize C t = ct' at *
            go_wp2
            go_round
            case rel => exact ⟨t + 1, _, _, _, by omega, by go_num, HH.out, HN2.out.1, HN2.out.2, hb⟩
            case measure => simp [intOf]; omega
        · have : t = k := by omega
          subst this
          have HE : Hid (Hold wr w.heap.size t A' L C' F) := ⟨HH.out.mat.congr (fun i hi => (HN.out i hi).1) HLe.out (fun _ _ _ _ => rfl) hF, HH.out.soft⟩
          clear HH
          go_wp2
          go_ret
          exact ⟨w.heap.size, A', C', rfl, HE.out, fun i hi => (HN.out i hi).2, Nat.le_refl _, hb⟩
end Go.Proofs.Ytbfhmdphhhjlnaa
