/-
  What the document's Join does.
-/
import Derived.Test.YtfifcghjbdooeaaSpE
import Derived.Deep.RegionHeld3
set_option maxRecDepth 100000
set_option linter.unusedVariables false
namespace Go.Proofs.Ytfifcghjbdooeaa
open Go.RowKit
attribute [local go_sem ↓] Go.wp_at_zero Go.wp_at_succ

theorem rlength_q (n k B : Nat) (w : World) (h : MayN n k B) : Calls Try.prog 15 #[.int .i64 n, .int .i64 k, .int .i64 B] w fun e w' => e = .returned (.int .i64 (ln n k B : Nat)) ∧ w' = w :=
  (rlength_yes n k B w h).mono fun _ _ q => ⟨q.1, q.2.symm⟩

theorem rjoin_no1 (a : Option Addr) (k c : Nat) (n B : Int) (w : World) (hk : k ≤ maxLen) (h : ¬ MayN n k B) :
    Calls Try.prog 12 #[.slice a k c, .int .i64 n, .int .i64 B] w fun e w' => e = .returned (.tuple #[.slice none 0 0, .bool false]) ∧ ∃ m, w' = w.drewN m := by
  unfold maxLen at hk
  unfold MayN at h
  by_cases h3 : (k : Int) < 1
  · clear h
    go_enter Try.func12, Try.ntmps12
    go_wp2
    go_ret2
    exact ⟨rfl, 0, rfl⟩
  · have h3' := Int.not_lt.1 h3
    by_cases h4 : (k : Int) > 255
    · clear h
      go_enter Try.func12, Try.ntmps12
      go_wp2
      go_ret2
      exact ⟨rfl, 0, rfl⟩
    · have h4' := Int.not_lt.1 h4
      by_cases h5 : B < 1
      · clear h
        go_enter Try.func12, Try.ntmps12
        go_wp2
        go_ret2
        exact ⟨rfl, 0, rfl⟩
      · have h5' := Int.not_lt.1 h5
        by_cases h6 : B > 4096
        · clear h
          go_enter Try.func12, Try.ntmps12
          go_wp2
          go_ret2
          exact ⟨rfl, 0, rfl⟩
        · have h6' := Int.not_lt.1 h6
          by_cases h1 : n < 0
          · clear h
            go_enter Try.func12, Try.ntmps12
            go_wp2
            go_ret2
            exact ⟨rfl, 0, rfl⟩
          · have h1' := Int.not_lt.1 h1
            have h9 : n > 65536 := by omega
            clear h
            go_enter Try.func12, Try.ntmps12
            go_wp2
            go_ret2
            exact ⟨rfl, 0, rfl⟩

theorem rjoin_no2 (a : Option Addr) (n k c B : Nat) (A : Nat → Option Addr) (L C : Nat → Nat) (F : Nat → Nat → Nat) (w : World) (hm : Mat w a k A L C F) (h : MayN n k B) (hl : ¬ ∀ i, i < k → L i = ln n k B) :
    Calls Try.prog 12 #[.slice a k c, .int .i64 n, .int .i64 B] w fun e w' => e = .returned (.tuple #[.slice none 0 0, .bool false]) ∧ ∃ m, w' = w.drewN m := by
  have c1 := fun w => rlength_q n k B w h
  obtain ⟨h1, h2, h3, h4, h5, h6⟩ := h
  have hk : 1 ≤ k := by omega
  have hB : 1 ≤ B := by omega
  have HM : Hid (Mat w a k A L C F) := hm
  have HN : Hid (¬ ∀ i, i < k → L i = ln n k B) := hl
  have hlen := ln_le n hk hB
  clear hm hl
  generalize ln n k B = l at *
  go_enter Try.func12, Try.ntmps12
  go_wp2
  go_loopw [9] (fun v wr => ∃ i m : Nat, i ≤ k ∧ v = .int .i64 i ∧ wr = w.drewN m ∧ Hid (∀ j, j < i → L j = l)) (fun v _ => k - (intOf v).toNat)
  case atStart => exact ⟨0, 0, by omega, rfl, rfl, fun j hj => absurd hj (by omega)⟩
  case round =>
  obtain ⟨i, m, hi, rfl, hwr, HS⟩ := hrel
  have HW : Hid (wr = w.drewN m) := hwr
  have hmw : Mat wr a k A L C F := by rw [hwr]; exact HM.out.drewN m
  clear hwr
  by_cases hik : i < k
  · obtain ⟨b, o, rfl, hc⟩ := hmw.lies (by omega)
    have ck := hc i hik
    clear hmw
    have ik : (i : Int) < (k : Int) := by omega
    by_cases he : L i = l
    · have HS2 : Hid (∀ j, j < i + 1 → L j = l) := fun j hj => by
        by_cases e : j = i
        · rw [e]; exact he
        · exact HS.out j (by omega)
      rw [he] at ck
      clear HS he hc HM HN
      generalize A i = ai at ck
      generalize C i = ci at ck
      go_wp2
      go_quiet ((go_at_call 15; refine Calls.quiet_of_same (c1 _)))
      go_wp2
      go_round
      case rel => exact ⟨i + 1, m + nq, by omega, by go_num, by rw [HW.out, World.drewN_drewN], HS2⟩
      case measure => simp [intOf]; omega
    · have he' : ((L i : Nat) : Int) ≠ (l : Int) := by omega
      have hle := HM.out.le i
      clear HS he hc HM HN
      generalize A i = ai at ck
      generalize C i = ci at ck
      generalize L i = li at *
      go_wp2
      go_quiet ((go_at_call 15; refine Calls.quiet_of_same (c1 _)))
      go_wp2
      go_ret2
      exact ⟨rfl, m + nq, by rw [HW.out, World.drewN_drewN]⟩
  · have : i = k := by omega
    subst this
    exact absurd HS.out HN.out

/-- The beginning of a row of one's own. -/
theorem own_cut {w : World} {base L n : Nat} {v : Value} {f : Nat → Nat} (h : Own w base v L f) (hf : ∀ i, f i < 256) (hn : n ≤ L) :
    ∃ a c A, v = .slice a L c ∧ L ≤ c ∧ c ≤ maxLen ∧ (∀ w', Sem.run Try.prog (Instr.slice 22 (.slice a L c) none (some (.int .i64 (n : Int))) none) w' = .ok (.slice A n c) w') ∧ Row w A n f ∧ (A = none → n = 0) := by
  have key : ∀ a c, v = .slice a L c → L ≤ c → c ≤ maxLen → Row w a L f → (a = none → n = 0) → ∃ a c A, v = .slice a L c ∧ L ≤ c ∧ c ≤ maxLen ∧ (∀ w', Sem.run Try.prog (Instr.slice 22 (.slice a L c) none (some (.int .i64 (n : Int))) none) w' = .ok (.slice A n c) w') ∧ Row w A n f ∧ (A = none → n = 0) := by
    intro a c e hc hm r hz
    refine ⟨a, c, if c = 0 then a else a.map (·.add (0 * 1)), e, hc, hm, ?_, ?_, ?_⟩
    · intro w'
      rw [run_slice_h w' 22 a L c Try.underlying22 .i64 (n : Int) (by omega) (by omega)]
      have e : (sizeOf (Try.prog.elem 22)).run Try.prog w' = .ok 1 w' := by kernel_rfl
      rw [e]
      show Result.ok (sliced a _ _ c 1) w' = _
      unfold sliced
      rw [show ((n : Int)).toNat = n by omega, Nat.sub_zero, Nat.sub_zero]
    · rcases cut_row (c := c) r 0 n (by omega) with q | q
      · simpa using q
      · rw [if_pos q, show n = 0 by omega]
        exact Row.zero _ _ hf
    · split
      · exact hz
      · cases a with
        | none => intro _; exact hz rfl
        | some x => intro e; cases e
  by_cases h0 : L = 0
  · subst h0
    rcases h.2 with ⟨e, _⟩ | ⟨g, cap, cur, e, _, _, h1, h2, _⟩
    · exact key none 0 e (by omega) (by unfold maxLen; omega) (Row.zero _ _ hf) (fun _ => by omega)
    · exact key _ cap e h1 h2 (Row.zero _ _ hf) (fun _ => by omega)
  · obtain ⟨g, c, e, _, h1, h2, r⟩ := h.row (by omega) hf
    exact key _ c e h1 h2 r (fun e => by cases e)

theorem mul3 (k s B : Nat) : k * (s * B) = s * (k * B) := by rw [← Nat.mul_assoc, ← Nat.mul_assoc, Nat.mul_comm k s]

set_option maxHeartbeats 2000000 in
theorem rjoin_yes (a : Option Addr) (n k c B : Nat) (A : Nat → Option Addr) (L C : Nat → Nat) (F : Nat → Nat → Nat) (w : World) (hm : Mat w a k A L C F) (h : MayN n k B) (hl : ∀ i, i < k → L i = ln n k B) (hlc : ∀ i, i < k → L i ≤ C i) :
    Calls Try.prog 12 #[.slice a k c, .int .i64 n, .int .i64 B] w fun e w' => ∃ A c', e = .returned (.tuple #[.slice A n c', .bool true]) ∧ Row w' A n (jn F n k B) ∧ (A = none → n = 0) ∧ Below w.heap.size w w' := by
  have c1 := fun w => rlength_q n k B w h
  obtain ⟨h1, h2, h3, h4, h5, h6⟩ := h
  have hk : 1 ≤ k := by omega
  have hB : 1 ≤ B := by omega
  have HM : Hid (Mat w a k A L C F) := hm
  have HL : Hid (∀ i, i < k → L i = ln n k B) := hl
  have HLC : Hid (∀ i, i < k → L i ≤ C i) := hlc
  have hlen := ln_le n hk hB
  have HKL : Hid (n ≤ k * ln n k B ∧ k * ln n k B < n + k) := ln_mul n hk hB
  obtain ⟨l, hle⟩ : ∃ l, ln n k B = l := ⟨_, rfl⟩
  have HLN : Hid (ln n k B = l) := hle
  rw [hle] at hlen HL HKL c1
  have hF : ∀ i, jn F n k B i < 256 := fun i => jn_lt (hm.lt) _ _ _ _
  have HJF : Hid (∀ i, jn F n k B i < 256) := hF
  clear hm hl hlc hle hF
  go_enter Try.func12, Try.ntmps12
  go_wp2
  go_loopw [9] (fun v wr => ∃ i m : Nat, i ≤ k ∧ v = .int .i64 i ∧ wr = w.drewN m) (fun v _ => k - (intOf v).toNat)
  case atStart => exact ⟨0, 0, by omega, rfl, rfl⟩
  case round =>
  obtain ⟨i, m, hi, rfl, hwr⟩ := hrel
  have HW : Hid (wr = w.drewN m) := hwr
  have hmw : Mat wr a k A L C F := by rw [hwr]; exact HM.out.drewN m
  by_cases hik : i < k
  · clear hwr
    obtain ⟨b, o, rfl, hc⟩ := hmw.lies (by omega)
    have ck := hc i hik
    clear hmw
    have ik : (i : Int) < (k : Int) := by omega
    rw [HL.out i hik] at ck
    clear hc HM HL HLC
    generalize A i = ai at ck
    generalize C i = ci at ck
    go_wp2
    go_quiet ((go_at_call 15; refine Calls.quiet_of_same (c1 _)))
    go_wp2
    go_round
    case rel => exact ⟨i + 1, m + nq, by omega, by go_num, by rw [HW.out, World.drewN_drewN]⟩
    case measure => simp [intOf]; omega
  · subst hwr
    clear hmw HW
    have hik' : ¬ (i : Int) < (k : Int) := by omega
    have HB0 : Hid (Below w.heap.size w (w.drewN m)) := bdn w m
    have HO0 : Hid (Own (w.drewN m) w.heap.size (.slice none 0 0) 0 (jn F n k B)) := Own.start _ _ _
    generalize w.drewN m = W0 at *
    generalize hH : w.heap.size = H at *
    clear hi hik
    go_wp2
    go_loopg [10, 11] n (fun kx v10 v11 wr => ∃ s t, Hid (s * B = t) ∧ t ≤ 69632 ∧ v11 = .int .i64 ((t : Nat) : Int) ∧ Hid (l - t ≤ kx) ∧ Hid (Own wr H v10 (k * min l t) (jn F n k B)) ∧ Hid (Below H w wr))
    case atStart => exact ⟨0, 0, by show 0 * B = 0; omega, by omega, by simp, by show l - 0 ≤ n; omega, by rw [Nat.min_eq_right (by omega), Nat.mul_zero]; exact HO0, HB0⟩
    case round =>
    obtain ⟨s, t, HT, ht, rfl, HKX, HO, HBr⟩ := hrel
    clear HO0 HB0
    obtain ⟨g0, hg0⟩ : ∃ g0, g0 = gk := ⟨_, rfl⟩
    rw [← hg0] at HKX
    have HG00 : Hid (g0 = gk) := hg0
    clear hg0
    go_wp2_with fail
    go_at_call 15
    refine (c1 _).mono ?_
    rintro e w2 ⟨rfl, rfl⟩
    by_cases hlt : t < l
    · have htl : (t : Int) < (l : Int) := by omega
      have HX : Hid (∃ x, x = min B (l - t) ∧ x = wd (n - s * (k * B)) k B ∧ 1 ≤ x ∧ t + x ≤ l ∧ s * (k * B) = k * t) := by
        have q1 : s * (k * B) < n := by
          rcases Nat.lt_or_ge (s * (k * B)) n with e | e
          · exact e
          · have := ln_done hk hB e
            rw [HLN.out, HT.out] at this; omega
        have q2 := wd_ln hk hB (Nat.le_of_lt q1)
        rw [HLN.out, HT.out] at q2
        have q3 := wd_pos (r := n - s * (k * B)) hk hB (by omega)
        exact ⟨min B (l - t), rfl, q2.symm, by omega, by omega, by rw [← HT.out, mul3]⟩
      obtain ⟨x, hx1, hx2, hx3, hx4, hx5⟩ := HX.out
      have HX5 : Hid (s * (k * B) = k * t) := hx5
      have HX2 : Hid (x = wd (n - s * (k * B)) k B) := hx2
      have HX1 : Hid (x = min B (l - t)) := hx1
      have hmin : (if (l : Int) < (t : Int) + (B : Int) then (l : Int) else (t : Int) + (B : Int)) = (t : Int) + (x : Int) := by split <;> omega
      have HO2 : Hid (Own w2 H u10 (k * t + 0 * x) (jn F n k B)) := by
        have := HO.out
        rw [Nat.min_eq_right (by omega)] at this
        rw [Nat.zero_mul, Nat.add_zero]; exact this
      clear HX hx1 hx2 hx5 HO
      go_wp2
      go_loopg [10, 12] k (fun kx v10 v12 wo => ∃ i, i ≤ k ∧ k - i ≤ kx ∧ v12 = .int .i64 ((i : Nat) : Int) ∧ Hid (Own wo H v10 (k * t + i * x) (jn F n k B)) ∧ Hid (Below H w wo))
      case atStart => exact ⟨0, by omega, by omega, by simp, HO2, HBr⟩
      case round =>
      rename World => wo
      obtain ⟨i, hi, hkx, rfl, HO3, HB3⟩ := hrel
      clear HO2 HBr
      by_cases hik : i < k
      · have ik : (i : Int) < (k : Int) := by omega
        obtain ⟨b, o, rfl, hc⟩ := HM.out.lies (by omega)
        have ck0 := hc i hik
        have hbH : b < H := by rw [← hH]; exact block_lt_of_cell ck0
        have ck := (HB3.out.cell (p := ⟨b, o + i, none⟩) hbH).trans ck0
        have rowi := (HM.out.below hH HB3.out).row i hik
        have hci := HLC.out i hik
        rw [HL.out i hik] at ck rowi hci
        have HAi : Hid (A i = none → l = 0) := fun e => by have := (HM.out.nil i hik e).1; rw [HL.out i hik] at this; exact this
        clear hc ck0
        obtain ⟨A3, e3, row3, _, hA3⟩ := cut_lhs (c := C i) rowi t x hx4 hci
        have hA3n : A3 ≠ none := hA3 fun e => by have := HAi.out e; omega
        have bd : Below wo.heap.size wo wo.drew := (Below.refl _ _).drew
        have hbig : k * t + (i + 1) * x ≤ 1000000 := by
          have q1 : (i + 1) * x ≤ k * x := Nat.mul_le_mul_right x hik
          have q2 : k * (t + x) ≤ k * l := Nat.mul_le_mul_left k hx4
          rw [Nat.mul_add] at q2
          have := HKL.out
          omega
        rw [Nat.add_mul, Nat.one_mul] at hbig
        have hwo : H ≤ wo.heap.size := by have := HB3.out.size; omega
        obtain ⟨v', W, hr, ho, hbW⟩ := appendA (c := C i - t) (HO3.out.keep bd) (row3.keep bd) (fun e => absurd e hA3n) (by omega) hwo
        have HO5 : Hid (Own W H v' (k * t + (i + 1) * x) (jn F n k B)) := by
          have e : k * t + (i + 1) * x = k * t + i * x + x := by rw [Nat.add_mul, Nat.one_mul]; omega
          rw [e]
          refine ho.congr fun j hj => ?_
          unfold cat
          by_cases hj1 : j < k * t + i * x
          · rw [if_pos hj1]
          · rw [if_neg hj1]
            obtain ⟨p, rfl⟩ : ∃ p, j = k * t + i * x + p := ⟨j - (k * t + i * x), by omega⟩
            have q := jn_at (F := F) (n := n) (k := k) (B := B) (s := s) (i := i) (o := p) hik (by rw [← HX2.out]; omega)
            rw [← HX2.out, HX5.out, HT.out] at q
            rw [q, Nat.add_sub_cancel_left]
        have HB5 : Hid (Below H w W) := HB3.out.trans ((bd.mono hwo).trans hbW)
        have ckW : W.cell? ⟨b, o + i, none⟩ = some (.slice (A i) l (C i)) := (((bd.mono hwo).trans hbW).cell (p := ⟨b, o + i, none⟩) hbH).trans ck
        have HR : Hid (Sem.run Try.prog (Builtin.append_ #[22, 22] 22 #[u10, .slice A3 x (C i - t)]) wo.drew = .ok v' W) := hr
        clear hr ho hbW rowi row3 hA3 hA3n HAi HO3 HB3 bd hwo hbig
        generalize A i = ai at *
        generalize hcc : C i = ci at *
        clear hcc
        have hw : IntKind.i64.wrap ((t : Int) + (B : Int)) = (t : Int) + (B : Int) := by rw [IntKind.wrap_i64]; omega
        go_wp2_with fail
        go_region_held3 (fun X => X.cell? ⟨b, o + i, none⟩ = some (.slice ai l ci)) (first | exact ck | exact ckW)
          (first
            | refine step_append_ran (by rfl) _ _ 22 (by rfl) u10 (.slice A3 x (ci - t)) v' W (by rfl) (by rfl) (by dsimp only; with_reducible exact HR.out) ?_)
        go_wp2
        go_roundg (k - (i + 1))
        case measure => omega
        case rel => exact ⟨i + 1, by omega, by omega, by go_num, HO5, HB5⟩
      · have hik' : k = i := by omega
        have HO7 : Hid (Own wo H u10 (k * min l (t + B)) (jn F n k B)) := by
          have e : k * min l (t + B) = k * t + i * x := by
            have := HX1.out
            rw [← hik', ← Nat.mul_add]; congr 1; omega
          rw [e]; exact HO3.out
        have HN2 : Hid ((s + 1) * B = t + B) := by show (s + 1) * B = t + B; rw [Nat.add_mul, Nat.one_mul, HT.out]
        have hik2 : ¬ (i : Int) < (k : Int) := by omega
        have ht6 : t ≤ 65536 := by omega
        clear HO3 hi hik hkx hik'
        go_wp2
        go_roundg (g0 - 1)
        case measure => have := HG00.out; have := HKX.out; omega
        case rel => exact ⟨s + 1, t + B, HN2, by omega, by go_num, by have := HKX.out; show l - (t + B) ≤ g0 - 1; omega, HO7, HB3⟩
    · have HO9 : Hid (Own w2 H u10 (k * l) (jn F n k B)) := by
        have := HO.out
        rw [Nat.min_eq_left (by omega)] at this; exact this
      obtain ⟨ov, oc, oA, rfl, hoc, hom, e8, r8, z8⟩ := own_cut HO9.out HJF.out HKL.out.1
      have hkl1 : ((k * l : Nat) : Int) ≤ 1000000 := by have := HKL.out.2; omega
      have hmin : (if ((k * l : Nat) : Int) < (n : Int) then ((k * l : Nat) : Int) else (n : Int)) = (n : Int) := by have := HKL.out.1; split <;> omega
      have htl : ¬ (t : Int) < (l : Int) := by omega
      unfold maxLen at hom
      clear HO HKX hlt HO9
      generalize k * l = kl at *
      go_wp2
      exact bodyPost_ret (v := .tuple #[.slice oA n oc, .bool true]) (by simp [results, Try.results12, go_sem, *]) rfl ⟨oA, oc, rfl, r8, z8, by rw [hH]; exact HBr.out⟩
end Go.Proofs.Ytfifcghjbdooeaa
