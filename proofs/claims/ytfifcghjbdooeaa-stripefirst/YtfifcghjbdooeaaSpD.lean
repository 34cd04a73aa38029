/-
  What Join does: the data of rows that have the right length; else nothing, and false.
-/
import Derived.Test.YtfifcghjbdooeaaSpC
set_option maxRecDepth 100000
set_option linter.unusedVariables false
namespace Go.Proofs.Ytfifcghjbdooeaa
open Go.RowKit
attribute [local go_sem ↓] Go.wp_at_zero Go.wp_at_succ

theorem Mat.below {w w' : World} {H : Nat} {a : Option Addr} {n : Nat} {A : Nat → Option Addr} {L C : Nat → Nat} {F : Nat → Nat → Nat} (h : Mat w a n A L C F) (e : w.heap.size = H) (hb : Below H w w') : Mat w' a n A L C F := by
  subst e; exact h.keep hb

/-- A slice without its first bytes. -/
theorem cut_e (a : Option Addr) (n c t : Nat) (ht : t ≤ n) (hc : n ≤ c) :
    ∃ A, (∀ w', Sem.run Try.prog (Instr.slice 22 (.slice a n c) (some (.int .i64 (t : Int))) none none) w' = .ok (.slice A (n - t) (c - t)) w') ∧ (t < n → A = a.map (·.add t)) := by
  refine ⟨if c = t then a else a.map (·.add (t * 1)), ?_, fun h => by rw [if_neg (by omega), Nat.mul_one]⟩
  intro w'
  rw [run_slice_l w' 22 a n c Try.underlying22 .i64 (t : Int) (by omega) (by omega)]
  have e : (sizeOf (Try.prog.elem 22)).run Try.prog w' = .ok 1 w' := by kernel_rfl
  rw [e]
  show Result.ok (sliced a _ _ c 1) w' = _
  unfold sliced
  rw [show ((t : Int)).toNat = t by omega]

theorem join_no1 (a : Option Addr) (k c : Nat) (n B : Int) (w : World) (hk : k ≤ maxLen) (h : ¬ MayN n k B) :
    Calls Try.prog 11 #[.slice a k c, .int .i64 n, .int .i64 B] w fun e w' => e = .returned (.tuple #[.slice none 0 0, .bool false]) ∧ ∃ m, w' = w.drewN m := by
  unfold maxLen at hk
  have m := may_no n k B w h
  clear h
  go_enter Try.func11, Try.ntmps11
  go_wp2_with fail
  go_at_call 16
  refine m.mono ?_
  rintro e w' ⟨rfl, rfl⟩
  go_wp2
  go_ret2
  exact ⟨rfl, 0, rfl⟩

theorem join_no2 (a : Option Addr) (n k c B : Nat) (A : Nat → Option Addr) (L C : Nat → Nat) (F : Nat → Nat → Nat) (w : World) (hm : Mat w a k A L C F) (h : MayN n k B) (hl : ¬ ∀ i, i < k → L i = ln n k B) :
    Calls Try.prog 11 #[.slice a k c, .int .i64 n, .int .i64 B] w fun e w' => e = .returned (.tuple #[.slice none 0 0, .bool false]) ∧ ∃ m, w' = w.drewN m := by
  have m := may_yes n k B w h
  have c1 := length_yes n k B w h
  obtain ⟨h1, h2, h3, h4, h5, h6⟩ := h
  have c2 := fun q => all_no a k c (ln n k B) A L C F (w.drewN q) (hm.drewN q) (by omega) hl
  clear hm hl
  generalize ln n k B = l at *
  go_enter Try.func11, Try.ntmps11
  go_wp2_with fail
  go_at_call 16
  refine m.mono ?_
  rintro e w' ⟨rfl, rfl⟩
  clear m
  go_wp2_with fail
  go_at_call 14
  refine c1.mono ?_
  rintro e w1 ⟨rfl, q, rfl⟩
  go_wp2_with fail
  go_at_call 19
  refine (c2 q).mono ?_
  rintro e w2 ⟨rfl, rfl⟩
  go_wp2
  go_ret2
  exact ⟨rfl, _, rfl⟩

/-- What is joined, as far as q bytes of it stand. -/
def jnq (F : Nat → Nat → Nat) (n k B q : Nat) : Nat → Nat := fun j => if j < q then jn F n k B j else 0
theorem jnq_step {F : Nat → Nat → Nat} {n k B s i q m x j : Nat} (hi : i < k) (hx : x = wd (n - s * (k * B)) k B) (hq : q = min n (s * (k * B) + i * x)) (hm : m = min x (n - q)) :
    ovr (jnq F n k B q) q m (fun j => F i (s * B + j)) j = jnq F n k B (q + m) j := by
  unfold ovr jnq
  by_cases c : q ≤ j ∧ j < q + m
  · rw [if_pos c, if_pos c.2]
    obtain ⟨o, rfl⟩ : ∃ o, j = q + o := ⟨j - q, by omega⟩
    have hqe : q = s * (k * B) + i * x := by omega
    have ho : o < x := by omega
    have e := jn_at (F := F) (n := n) (k := k) (B := B) (s := s) (i := i) (o := o) hi (by rw [← hx]; exact ho)
    rw [← hx, ← hqe] at e
    rw [e, Nat.add_sub_cancel_left]
  · rw [if_neg c]
    by_cases c1 : j < q
    · rw [if_pos c1, if_pos (by omega)]
    · rw [if_neg c1, if_neg (by omega)]

theorem join_yes (a : Option Addr) (n k c B : Nat) (A : Nat → Option Addr) (L C : Nat → Nat) (F : Nat → Nat → Nat) (w : World) (hm : Mat w a k A L C F) (h : MayN n k B) (hl : ∀ i, i < k → L i = ln n k B) (hlc : ∀ i, i < k → L i ≤ C i) :
    Calls Try.prog 11 #[.slice a k c, .int .i64 n, .int .i64 B] w fun e w' => e = .returned (.tuple #[.slice (some ⟨w.heap.size, 0, none⟩) n n, .bool true]) ∧ Made w' w.heap.size n (jn F n k B) ∧ Below w.heap.size w w' := by
  have m := may_yes n k B w h
  have c1 := length_yes n k B w h
  obtain ⟨h1, h2, h3, h4, h5, h6⟩ := h
  have c2 := fun q => all_yes a k c (ln n k B) A L C F (w.drewN q) (hm.drewN q) (by omega) hl
  have hk : 1 ≤ k := by omega
  have hB : 1 ≤ B := by omega
  have HM : Hid (Mat w a k A L C F) := hm
  have HL : Hid (∀ i, i < k → L i = ln n k B) := hl
  have HLC : Hid (∀ i, i < k → L i ≤ C i) := hlc
  have hlen := ln_le n hk hB
  obtain ⟨l, hle⟩ : ∃ l, ln n k B = l := ⟨_, rfl⟩
  have HLN : Hid (ln n k B = l) := hle
  rw [hle] at hlen c1 c2 HL
  have mk := run_make_row' (P := Try.prog) 22 5 (.int .u8 0) 1 Try.underlying22 info5 rfl .i64 .i64 n (by omega) (by omega)
  clear hm hl hlc hle
  go_enter Try.func11, Try.ntmps11
  go_wp2_with fail
  go_at_call 16
  refine m.mono ?_
  rintro e w' ⟨rfl, rfl⟩
  clear m
  go_wp2_with fail
  go_at_call 14
  refine c1.mono ?_
  rintro e w1 ⟨rfl, q, rfl⟩
  go_wp2_with fail
  go_at_call 19
  refine (c2 q).mono ?_
  rintro e w2 ⟨rfl, rfl⟩
  clear c1 c2
  have HB0 : Hid (Below w.heap.size w ((w.drewN q).alloc (.cells (madeCells #[.int .u8 0] n) 5))) := hop (bdn w q) (bal _ _)
  have HM0 : Hid (Made ((w.drewN q).alloc (.cells (madeCells #[.int .u8 0] n) 5)) w.heap.size n (jnq F n k B 0)) := (Made.start (w.drewN q) n).congr fun j _ => by unfold jnq; rw [if_neg (by omega)]
  have mk1 := mk (w.drewN q)
  have hsz : (w.drewN q).heap.size = w.heap.size := rfl
  rw [hsz] at mk1
  clear mk hsz
  generalize hW : (w.drewN q).alloc (.cells (madeCells #[.int .u8 0] n) 5) = W0 at *
  generalize hH : w.heap.size = H at *
  go_wp2
  clear mk1 hW
  go_loopw [10, 11] (fun v10 v11 wr => ∃ s q A, q = min n (s * (k * B)) ∧ s * B ≤ 69632 ∧ v11 = .int .i64 ((s * B : Nat) : Int) ∧ v10 = .slice A (n - q) (n - q) ∧ Hid (q < n → A = some ⟨H, q, none⟩) ∧ Hid (Made wr H n (jnq F n k B q)) ∧ Hid (Below H w wr)) (fun v10 _ _ => match v10 with | .slice _ x _ => x | _ => 0)
  case atStart => exact ⟨0, 0, some ⟨H, 0, none⟩, by omega, by omega, by simp, rfl, fun _ => rfl, HM0, HB0⟩
  case round =>
  obtain ⟨s, q, A1, hq, hsb, rfl, rfl, HA, HMr, HBr⟩ := hrel
  clear HM0 HB0
  by_cases hlt : s * (k * B) < n
  · have hqe : q = s * (k * B) := by omega
    have HF : Hid (s * B + wd (n - q) k B ≤ l) := by rw [hqe, ← HLN.out]; exact stripe_fits hk hB (Nat.le_of_lt hlt)
    have HX2 : Hid (wd (n - q) k B ≤ B) := wd_le _ _ _
    have HXE : Hid (wd (n - q) k B = wd (n - s * (k * B)) k B) := by rw [hqe]; rfl
    have HMR : Hid (n - q = n - s * (k * B)) := by rw [hqe]; rfl
    have HQ : Hid (q = min n (s * (k * B))) := hq
    have HLT : Hid (s * (k * B) < n) := hlt
    have HSB : Hid (s * B ≤ s * (k * B)) := Nat.mul_le_mul_left s (Nat.le_mul_of_pos_left B hk)
    have c3 := share_any (n - q) k B wr (by omega) hk (by omega) (by omega)
    have ir : (0 : Int) < ((n - q : Nat) : Int) := by omega
    have hrb : n - q ≤ 65536 := by omega
    clear hq hqe hlt
    obtain ⟨t, ht⟩ : ∃ t, s * B = t := ⟨_, rfl⟩
    obtain ⟨r, hr⟩ : ∃ r, n - q = r := ⟨_, rfl⟩
    obtain ⟨x, hx⟩ : ∃ x, wd r k B = x := ⟨_, rfl⟩
    rw [hr] at HF HX2 HXE HMR c3 ir hrb ⊢
    rw [hx] at HF HX2 HXE c3
    rw [ht] at HF HSB hsb ⊢
    have HTE : Hid (s * B = t) := ht
    have HRE : Hid (n - q = r) := hr
    clear ht hr hx
    go_wp2_with fail
    go_at_call 18
    refine c3.mono ?_
    rintro e w' ⟨rfl, rfl⟩
    clear c3
    go_wp2
    go_loopw [10, 48] (fun v10 v48 wo => ∃ i p A r2, i ≤ k ∧ v48 = .int .i64 ((i : Nat) : Int) ∧ v10 = .slice A r2 r2 ∧ Hid (p = min n (s * (k * B) + i * x) ∧ n - p = r2) ∧ Hid (p < n → A = some ⟨H, p, none⟩) ∧ Hid (Made wo H n (jnq F n k B p)) ∧ Hid (Below H w wo)) (fun _ v _ => k - (intOf v).toNat)
    case atStart => exact ⟨0, q, A1, r, by omega, by simp, rfl, ⟨by have := HQ.out; simpa using this, HRE.out⟩, HA, HMr, HBr⟩
    case round =>
    rename World => wo
    obtain ⟨i, p, A2, r2, hi, rfl, rfl, HP, HA2, HM2, HB2⟩ := hrel
    clear HMr HBr HA
    by_cases hik : i < k
    · have ik : (i : Int) < (k : Int) := by omega
      have hmat := HM.out.below hH HB2.out
      obtain ⟨b, o, rfl, hhd⟩ := hmat.lies (by omega)
      have ck := hhd i hik
      have rowi := hmat.row i hik
      have hci := HLC.out i hik
      rw [HL.out i hik] at ck rowi hci
      have hx4 : x ≤ 4096 := by have := HX2.out; omega
      clear hhd hmat
      generalize A i = ai at ck rowi
      generalize C i = ci at ck hci
      obtain ⟨A3, e3, row3, _, _⟩ := cut_lhs (c := ci) rowi t x HF.out hci
      obtain ⟨m, hm⟩ : ∃ m, m = min x r2 := ⟨_, rfl⟩
      have e4 := copyR (A := A2) (dl := r2) (dc := r2) (sc := ci - t) (o := p) HM2.out.cell HM2.out.soft hm (fun z => HA2.out (by have := HP.out; omega)) row3 (by have := HP.out; omega)
      obtain ⟨A4, e5, hA4⟩ := cut_e A2 r2 r2 m (by omega) (Nat.le_refl _)
      have HM5 : Hid (Made (wo.setCells H p (bs (fun j => F i (t + j)) m)) H n (jnq F n k B (p + m))) := by
        refine (HM2.out.copy (by have := HP.out; omega)).congr fun j hj => ?_
        have e := jnq_step (F := F) (n := n) (k := k) (B := B) (s := s) (i := i) (q := p) (m := m) (x := x) (j := j) hik HXE.out HP.out.1 (by rw [HP.out.2]; exact hm)
        rw [HTE.out] at e
        exact e
      have HB5 : Hid (Below H w (wo.setCells H p (bs (fun j => F i (t + j)) m))) := below_setCells (by omega) _ _ _ HB2.out
      have HA5 : Hid (p + m < n → A4 = some ⟨H, p + m, none⟩) := fun z => by
        rw [hA4 (by have := HP.out; omega), HA2.out (by omega)]; simp [add_plain]
      have HP5 : Hid (p + m = min n (s * (k * B) + (i + 1) * x) ∧ n - (p + m) = r2 - m) := by
        obtain ⟨q1, q2⟩ := HP.out
        refine ⟨?_, by omega⟩
        have := step_next (n := n) (s := s) (K := k * B) (i := i) (w := x)
        rw [← q1, q2] at this
        rw [hm]; exact this
      clear HA2 HM2 HB2 HP rowi row3 hA4 hm
      generalize wo.setCells H p (bs (fun j => F i (t + j)) m) = W at *
      go_wp2
      go_round
      case rel => exact ⟨i + 1, p + m, A4, r2 - m, by omega, by go_num, rfl, HP5, HA5, HM5, HB5⟩
      case measure => simp [intOf]; omega
    · have hik' : k = i := by omega
      have HP6 : Hid (p = min n ((s + 1) * (k * B)) ∧ n - p = r2 ∧ r2 < r) := by
        obtain ⟨q1, q2⟩ := HP.out
        have e := stripe_end (n := n) (s := s) (B := B) hk
        rw [← hik'] at q1
        rw [← HXE.out, ← q1] at e
        have e2 : (s + 1) * (k * B) = s * (k * B) + k * B := by rw [Nat.add_mul, Nat.one_mul]
        have e3 := KB hk hB
        have := HMR.out; have := HLT.out
        exact ⟨e, q2, by omega⟩
      have HS6 : Hid ((s + 1) * B = t + B) := by show (s + 1) * B = t + B; rw [Nat.add_mul, Nat.one_mul, HTE.out]
      have ht6 : t ≤ 65536 := by have := HSB.out; have := HLT.out; omega
      clear HP hi hik
      subst hik'
      go_wp2
      go_round
      case rel => exact ⟨s + 1, p, A2, HP6.out.1, by rw [HS6.out]; omega, by rw [HS6.out]; go_num, by rw [HP6.out.2.1], HA2, HM2, HB2⟩
      case measure => have := HP6.out.2.2; simp; exact this
  · have HQ : Hid (q = n) := by have : q = n := by omega
                                exact this
    have e0 : n - q = 0 := by have := HQ.out; omega
    rw [e0]
    have HM9 : Hid (Made wr H n (jn F n k B)) := (HQ.out ▸ HMr.out).congr fun j hj => by unfold jnq; rw [if_pos hj]
    clear hq HMr hlt HA
    go_wp2
    go_ret2
    rw [hH]
    exact ⟨rfl, HM9.out, HBr.out⟩
end Go.Proofs.Ytfifcghjbdooeaa
