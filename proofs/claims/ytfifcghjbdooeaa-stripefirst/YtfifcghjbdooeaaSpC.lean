/-
  What blank, all and Split do: rows of noughts, whether all have one length, and data cut to rows.
-/
import Derived.Test.YtfifcghjbdooeaaSpA
import Derived.Test.YtfifcghjbdooeaaSpB
set_option maxRecDepth 100000
set_option linter.unusedVariables false
namespace Go.Proofs.Ytfifcghjbdooeaa
open Go.RowKit
attribute [local go_sem ↓] Go.wp_at_zero Go.wp_at_succ

theorem bdn (w : World) (n : Nat) : Below w.heap.size w (w.drewN n) := ⟨rfl, rfl, rfl, Nat.le_refl _, fun _ _ => rfl⟩

theorem blank_any (n m : Nat) (w : World) (n1 : 1 ≤ n) (n2 : n ≤ 255) (m2 : m ≤ 65536) :
    Calls Try.prog 17 #[.int .i64 n, .int .i64 m] w fun e w' => e = .returned (.slice (some ⟨w.heap.size, 0, none⟩) n n) ∧ Grid w' w.heap.size n m (fun _ _ => 0) ∧ Below w.heap.size w w' ∧ w'.heap.size = w.heap.size + 1 + n := by
  have mk1 := run_make_row' (P := Try.prog) 24 22 (.slice none 0 0) 24 Try.underlying24 info27 rfl .i64 .i64 n (by omega) (by omega)
  have mk2 := run_make_row' (P := Try.prog) 22 5 (.int .u8 0) 1 Try.underlying22 info5 rfl .i64 .i64 m (by omega) (by omega)
  go_enter Try.func17, Try.ntmps17
  go_wp2
  clear mk1
  go_loopw [11] (fun v wr => ∃ k : Nat, k ≤ n ∧ v = .int .i64 k ∧ Half wr w.heap.size n m k ∧ Below w.heap.size w wr) (fun v _ => n - (intOf v).toNat)
  case atStart => exact ⟨0, by omega, rfl, Half.start w n m, (Below.refl _ _).alloc (Nat.le_refl _) _⟩
  case round =>
    obtain ⟨k, hk, rfl, hh, hb⟩ := hrel
    by_cases hlt : k < n
    · have ik : (k : Int) < (n : Int) := by omega
      have hs := hh.size
      have hb' : Below wr.heap.size wr (wr.alloc (.cells (madeCells #[.int .u8 0] m) 5)) := (Below.refl _ _).alloc (Nat.le_refl _) _
      have ck : (wr.alloc (.cells (madeCells #[.int .u8 0] m) 5)).cell? ⟨w.heap.size, k, none⟩ = some (.slice none 0 0) := by
        rw [hb'.cell (p := ⟨w.heap.size, k, none⟩) (by simp; omega)]; exact hh.rest k hlt (Nat.le_refl _)
      have fk : (wr.alloc (.cells (madeCells #[.int .u8 0] m) 5)).frozen? ⟨w.heap.size, k, none⟩ = false := by
        rw [hb'.frozen (p := ⟨w.heap.size, k, none⟩) (by simp; omega)]; exact hh.softh k hlt
      have H2 : Hid (Half ((wr.alloc (.cells (madeCells #[.int .u8 0] m) 5)).setCell ⟨w.heap.size, k, none⟩ (.slice (some ⟨wr.heap.size, 0, none⟩) m m)) w.heap.size n m (k + 1)) := hh.step hlt
      have HB : Hid (Below w.heap.size w ((wr.alloc (.cells (madeCells #[.int .u8 0] m) 5)).setCell ⟨w.heap.size, k, none⟩ (.slice (some ⟨wr.heap.size, 0, none⟩) m m))) := (hb.alloc (by omega) _).setCell (Nat.le_refl _) _
      have mk := mk2 wr
      clear hh hb hb' mk2 hs
      generalize wr.alloc (.cells (madeCells #[.int .u8 0] m) 5) = W at *
      go_wp2
      go_round
      case rel => exact ⟨k + 1, by omega, by go_num, H2.out, HB.out⟩
      case measure => simp [intOf]; omega
    · have : k = n := by omega
      subst this
      have HH : Hid (Half wr w.heap.size k m k) := hh
      clear hh mk2
      go_wp2
      go_ret
      exact ⟨rfl, HH.out.done, hb, HH.out.size⟩

theorem all_yes (a : Option Addr) (n c l : Nat) (A : Nat → Option Addr) (L C : Nat → Nat) (F : Nat → Nat → Nat) (w : World) (h : Mat w a n A L C F) (hn : n ≤ 255) (hl : ∀ i, i < n → L i = l) :
    Calls Try.prog 19 #[.slice a n c, .int .i64 l] w fun e w' => e = .returned (.bool true) ∧ w' = w := by
  have HC : Hid (0 < n → ∃ b o, a = some ⟨b, o, none⟩ ∧ ∀ i, i < n → w.cell? ⟨b, o + i, none⟩ = some (.slice (A i) (L i) (C i))) := h.lies
  have HL : Hid (∀ i, i < n → L i = l) := hl
  clear h hl
  go_enter Try.func19, Try.ntmps19
  go_wp2
  go_loop [9] (fun v => ∃ k : Nat, k ≤ n ∧ v = .int .i64 k) (fun v => n - (intOf v).toNat)
  case atStart => exact ⟨0, by omega, rfl⟩
  case round =>
    obtain ⟨k, hk, rfl⟩ := hrel
    by_cases hlt : k < n
    · obtain ⟨b, o, rfl, hc⟩ := HC.out (by omega)
      have ck := hc k hlt
      rw [HL.out k hlt] at ck
      have ik : (k : Int) < (n : Int) := by omega
      clear hc HC HL
      generalize A k = ak at ck
      generalize C k = cck at ck
      go_wp2
      go_round
      case rel => exact ⟨k + 1, by omega, by go_num⟩
      case measure => simp [intOf]; omega
    · have : k = n := by omega
      subst this
      go_wp2
      go_ret
      exact ⟨rfl, rfl⟩

theorem all_no (a : Option Addr) (n c l : Nat) (A : Nat → Option Addr) (L C : Nat → Nat) (F : Nat → Nat → Nat) (w : World) (h : Mat w a n A L C F) (hn : n ≤ 255) (hl : ¬ ∀ i, i < n → L i = l) :
    Calls Try.prog 19 #[.slice a n c, .int .i64 l] w fun e w' => e = .returned (.bool false) ∧ w' = w := by
  have HC : Hid (0 < n → ∃ b o, a = some ⟨b, o, none⟩ ∧ ∀ i, i < n → w.cell? ⟨b, o + i, none⟩ = some (.slice (A i) (L i) (C i))) := h.lies
  have HN : Hid (¬ ∀ i, i < n → L i = l) := hl
  clear h hl
  go_enter Try.func19, Try.ntmps19
  go_wp2
  go_loop [9] (fun v => ∃ k : Nat, k ≤ n ∧ v = .int .i64 k ∧ Hid (∀ i, i < k → L i = l)) (fun v => n - (intOf v).toNat)
  case atStart => exact ⟨0, by omega, rfl, fun i hi => absurd hi (by omega)⟩
  case round =>
    obtain ⟨k, hk, rfl, hsame⟩ := hrel
    by_cases hlt : k < n
    · obtain ⟨b, o, rfl, hc⟩ := HC.out (by omega)
      have ck := hc k hlt
      have ik : (k : Int) < (n : Int) := by omega
      by_cases he : L k = l
      · have HS : Hid (∀ i, i < k + 1 → L i = l) := fun i hi => by
          by_cases e : i = k
          · rw [e]; exact he
          · exact hsame.out i (by omega)
        rw [he] at ck
        clear hsame he hc HC HN
        generalize A k = ak at ck
        generalize C k = cck at ck
        go_wp2
        go_round
        case rel => exact ⟨k + 1, by omega, by go_num, HS⟩
        case measure => simp [intOf]; omega
      · have he' : ((L k : Nat) : Int) ≠ (l : Int) := by omega
        clear hsame he hc HC HN
        generalize A k = ak at ck
        generalize C k = cck at ck
        generalize L k = lk' at *
        go_wp2
        go_ret
        exact ⟨rfl, rfl⟩
    · have : k = n := by omega
      subst this
      exact absurd hsame.out HN.out

theorem split_no (a : Option Addr) (n c : Nat) (k B : Int) (w : World) (hn : n ≤ maxLen) (h : ¬ MayN n k B) :
    Calls Try.prog 9 #[.slice a n c, .int .i64 k, .int .i64 B] w fun e w' => e = .returned (.tuple #[.slice none 0 0, .bool false]) ∧ w' = w := by
  unfold maxLen at hn
  have m := may_no n k B w h
  clear h
  go_enter Try.func9, Try.ntmps9
  go_wp2_with fail
  go_at_call 16
  refine m.mono ?_
  rintro e w' ⟨rfl, rfl⟩
  go_wp2
  go_ret2
  exact ⟨rfl, rfl⟩

theorem split_yes (a : Option Addr) (n c k B : Nat) (f : Nat → Nat) (w : World) (hr : Row w a n f) (hz : a = none → n = 0) (hc : n ≤ c) (h : MayN n k B) :
    Calls Try.prog 9 #[.slice a n c, .int .i64 k, .int .i64 B] w fun e w' => ∃ h, e = .returned (.tuple #[.slice (some ⟨h, 0, none⟩) k k, .bool true]) ∧ w.heap.size ≤ h ∧ Grid w' h k (ln n k B) (spq f n k B n) ∧ Below w.heap.size w w' := by
  have m := may_yes n k B w h
  have c1 := length_yes n k B w h
  obtain ⟨h1, h2, h3, h4, h5, h6⟩ := h
  have hk : 1 ≤ k := by omega
  have hB : 1 ≤ B := by omega
  have hl := ln_le n hk hB
  go_enter Try.func9, Try.ntmps9
  go_wp2_with fail
  go_at_call 16
  refine m.mono ?_
  rintro e w' ⟨rfl, rfl⟩
  clear m
  go_wp2_with fail
  go_at_call 14
  refine c1.mono ?_
  rintro e w1 ⟨rfl, q, rfl⟩
  clear c1
  obtain ⟨l, hle⟩ : ∃ l, ln n k B = l := ⟨_, rfl⟩
  have HLN : Hid (ln n k B = l) := hle
  rw [hle] at hl ⊢
  clear hle
  have c2 := blank_any k l (w.drewN q) hk (by omega) (by omega)
  go_wp2_with fail
  go_at_call 17
  refine c2.mono ?_
  rintro e w2 ⟨rfl, g2, b2, s2⟩
  clear c2
  have b02 : Below w.heap.size w w2 := hop (bdn w q) b2
  have hsz : (w.drewN q).heap.size = w.heap.size := rfl
  rw [hsz] at g2 s2 ⊢
  have HR : Hid (Row w a n f) := hr
  have HFl : Hid (∀ i, f i < 256) := hr.lt
  have HG : Hid (Grid w2 w.heap.size k l (spq f n k B 0)) := g2.congr fun i _ j _ => by unfold spq; rw [if_neg (by omega)]
  have HB0 : Hid (Below w.heap.size w w2) := b02
  clear hr g2 b02 b2 s2 hsz
  generalize hH : w.heap.size = H at *
  go_wp2
  go_loopw [9, 10] (fun v9 v10 wr => ∃ s q A, q = min n (s * (k * B)) ∧ s * B ≤ 69632 ∧ v10 = .int .i64 ((s * B : Nat) : Int) ∧ v9 = .slice A (n - q) (c - q) ∧ Hid (Row w A (n - q) (fun i => f (q + i))) ∧ Hid (Grid wr H k l (spq f n k B q)) ∧ Hid (Below H w wr)) (fun v9 _ _ => match v9 with | .slice _ x _ => x | _ => 0)
  case atStart => exact ⟨0, 0, a, by omega, by omega, by simp, rfl, by simpa using HR, HG, HB0⟩
  case round =>
  obtain ⟨s, q, A, hq, hsb, rfl, rfl, HRr, HGr, HBr⟩ := hrel
  clear HG HB0 HR
  by_cases hlt : s * (k * B) < n
  · have hqe : q = s * (k * B) := by omega
    have HF : Hid (s * B + wd (n - q) k B ≤ l) := by rw [hqe, ← HLN.out]; exact stripe_fits hk hB (Nat.le_of_lt hlt)
    have HX1 : Hid (1 ≤ wd (n - q) k B) := wd_pos hk hB (by omega)
    have HX2 : Hid (wd (n - q) k B ≤ B) := wd_le _ _ _
    have HXE : Hid (wd (n - q) k B = wd (n - s * (k * B)) k B) := by rw [hqe]; rfl
    have HM : Hid (n - q = n - s * (k * B)) := by rw [hqe]; rfl
    have HT : Hid (s * B = s * B) := rfl
    have hqn : q ≤ n := by omega
    have HQ : Hid (q = min n (s * (k * B))) := hq
    have HLT : Hid (s * (k * B) < n) := hlt
    have HSB : Hid (s * B ≤ s * (k * B)) := Nat.mul_le_mul_left s (Nat.le_mul_of_pos_left B hk)
    have c3 := share_any (n - q) k B wr (by omega) hk (by omega) (by omega)
    have ir : (0 : Int) < ((n - q : Nat) : Int) := by omega
    have HNR : Hid (n - q ≤ n) := Nat.sub_le _ _
    have hrb : n - q ≤ 65536 := by omega
    clear hq hqe hlt hqn
    obtain ⟨t, ht⟩ : ∃ t, s * B = t := ⟨_, rfl⟩
    obtain ⟨r, hr⟩ : ∃ r, n - q = r := ⟨_, rfl⟩
    obtain ⟨cr, hcr⟩ : ∃ cr, c - q = cr := ⟨_, rfl⟩
    obtain ⟨x, hx⟩ : ∃ x, wd r k B = x := ⟨_, rfl⟩
    rw [hr] at HF HX1 HX2 HXE HM c3 ir HNR HRr hrb ⊢
    rw [hx] at HF HX1 HX2 HXE c3
    rw [ht] at HF HSB hsb ⊢
    rw [hcr] at ⊢
    have HTE : Hid (s * B = t) := ht
    have HRE : Hid (n - q = r) := hr
    have HCE : Hid (c - q = cr) := hcr
    clear ht hr hcr hx HT
    go_wp2_with fail
    go_at_call 18
    refine c3.mono ?_
    rintro e w' ⟨rfl, rfl⟩
    clear c3
    go_wp2
    go_loopw [9, 42] (fun v9 v42 wo => ∃ i p A r2 cr2, i ≤ k ∧ v42 = .int .i64 ((i : Nat) : Int) ∧ v9 = .slice A r2 cr2 ∧ Hid (p = min n (s * (k * B) + i * x) ∧ n - p = r2 ∧ c - p = cr2) ∧ Hid (Row w A r2 (fun j => f (p + j))) ∧ Hid (Grid wo H k l (spq f n k B p)) ∧ Hid (Below H w wo)) (fun _ v _ => k - (intOf v).toNat)
    case atStart => exact ⟨0, q, A, r, cr, by omega, by simp, rfl, ⟨by have := HQ.out; simpa using this, HRE.out, HCE.out⟩, HRr, HGr, HBr⟩
    case round =>
    rename World => wo
    obtain ⟨i, p, A2, r2, cr2, hi, rfl, rfl, HP, HR2, HG2, HB2⟩ := hrel
    clear HRr HGr HBr
    by_cases hik : i < k
    · have ik : (i : Int) < (k : Int) := by omega
      have ck := HG2.out.hdr i hik
      have hx4 : x ≤ 4096 := by have := HX2.out; omega
      have rowi : Row wo (some ⟨H + 1 + i, 0, none⟩) l (spq f n k B p i) := ⟨fun _ => spq_lt HFl.out _ _ _ _ _ _, fun _ => ⟨_, 0, rfl, fun j hj => by rw [Nat.zero_add]; exact HG2.out.cell i hik j hj⟩⟩
      obtain ⟨A3, e3, _, hA3, _⟩ := cut_lhs (c := l) rowi t x HF.out (Nat.le_refl _)
      have row2 : Row wo A2 r2 (fun j => f (p + j)) := HR2.out.keep (by rw [hH]; exact HB2.out)
      obtain ⟨m, hm⟩ : ∃ m, m = min r2 x := ⟨_, rfl⟩
      have e4 := copyR (A := A3) (dl := x) (dc := l - t) (sc := cr2) (o := t) (HG2.out.cell i hik) (HG2.out.soft i hik) hm (fun z => by rw [hA3 (by omega)]; simp [add_plain]) row2 (by have := HF.out; omega)
      obtain ⟨A4, e5, row4, _⟩ := cut_ls (c := cr2) HR2.out m (by omega) (by have := HP.out; omega)
      have HG5 : Hid (Grid (wo.setCells (H + 1 + i) t (bs (fun j => f (p + j)) m)) H k l (spq f n k B (p + m))) := by
        refine (HG2.out.copy hik (by have := HF.out; omega)).congr fun r hr j hj => ?_
        have hx := HXE.out
        rw [hx] at hm
        have e := spq_step (f := f) (n := n) (k := k) (B := B) (s := s) (i := i) (r := r) (j := j) hk hB hik hr (by rw [HLN.out]; exact hj) rfl (q := p) (by rw [← hx]; exact HP.out.1) (m := m) (by have := HP.out.2.1; omega)
        rw [HTE.out] at e
        rw [e]
      have HB5 : Hid (Below H w (wo.setCells (H + 1 + i) t (bs (fun j => f (p + j)) m))) := below_setCells (by omega) _ _ _ HB2.out
      have HR5 : Hid (Row w A4 (r2 - m) (fun j => f (p + m + j))) := by
        have e : (fun j => f (p + m + j)) = (fun j => f (p + (m + j))) := by funext j; rw [Nat.add_assoc]
        rw [e]; exact row4
      have HP5 : Hid (p + m = min n (s * (k * B) + (i + 1) * x) ∧ n - (p + m) = r2 - m ∧ c - (p + m) = cr2 - m) := by
        obtain ⟨q1, q2, q3⟩ := HP.out
        refine ⟨?_, by omega, by omega⟩
        have := step_next (n := n) (s := s) (K := k * B) (i := i) (w := x)
        rw [← q1, q2] at this
        rw [hm, Nat.min_comm]; exact this
      clear HR2 HG2 HB2 HP rowi row2 row4 hA3 hm
      generalize wo.setCells (H + 1 + i) t (bs (fun j => f (p + j)) m) = W at *
      go_wp2
      go_round
      case rel => exact ⟨i + 1, p + m, A4, r2 - m, cr2 - m, by omega, by go_num, rfl, HP5, HR5, HG5, HB5⟩
      case measure => simp [intOf]; omega
    · have hik' : k = i := by omega
      have HP6 : Hid (p = min n ((s + 1) * (k * B)) ∧ n - p = r2 ∧ c - p = cr2 ∧ r2 < r) := by
        obtain ⟨q1, q2, q3⟩ := HP.out
        have e := stripe_end (n := n) (s := s) (B := B) hk
        rw [← hik'] at q1
        rw [← HXE.out, ← q1] at e
        have e2 : (s + 1) * (k * B) = s * (k * B) + k * B := by rw [Nat.add_mul, Nat.one_mul]
        have e3 := KB hk hB
        have := HM.out; have := HLT.out
        exact ⟨e, q2, q3, by omega⟩
      have HS6 : Hid ((s + 1) * B = t + B) := by show (s + 1) * B = t + B; rw [Nat.add_mul, Nat.one_mul, HTE.out]
      have ht6 : t ≤ 65536 := by have := HSB.out; have := HLT.out; omega
      clear HP hi hik
      subst hik'
      go_wp2
      go_round
      case rel => exact ⟨s + 1, p, A2, HP6.out.1, by rw [HS6.out]; omega, by rw [HS6.out]; go_num, by rw [HP6.out.2.1, HP6.out.2.2.1], by rw [HP6.out.2.1]; exact HR2, HG2, HB2⟩
      case measure => have := HP6.out.2.2.2; simp; exact this
  · have HQ : Hid (q = n) := by have : q = n := by omega
                                exact this
    have e0 : n - q = 0 := by have := HQ.out; omega
    rw [e0] at HRr ⊢
    have HG9 : Hid (Grid wr H k l (spq f n k B n)) := by
      have := HGr
      rw [HQ.out] at this; exact this
    clear hq HGr hlt
    go_wp2
    go_ret2
    exact ⟨H, rfl, by omega, by rw [HLN.out]; exact HG9.out, by rw [hH]; exact HBr.out⟩
end Go.Proofs.Ytfifcghjbdooeaa
