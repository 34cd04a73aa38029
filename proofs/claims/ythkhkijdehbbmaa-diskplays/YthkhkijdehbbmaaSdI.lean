/-
  Bytes that are turned; Flip of a disk of the document.
-/
import Derived.Test.YthkhkijdehbbmaaSdH
import Derived.Laws.BitsAllLaws
set_option maxRecDepth 100000
namespace Go.Proofs.Ythkhkijdehbbmaa
open Go.RowKit
open _root_.Go.Proofs.Ythkhkijdehbbmaa.Nm _root_.Go.Proofs.Ythkhkijdehbbmaa.Dk
attribute [local go_sem ↓] Go.wp_at_zero Go.wp_at_succ
set_option linter.unusedVariables false

/-- A text's bytes as numbers. -/
def bf (b : ByteArray) (i : Nat) : Nat := ((tx b)[i]?.getD 0).toNat
theorem bf_lt (b : ByteArray) (i : Nat) : bf b i < 256 := UInt8.toNat_lt _
theorem bf_eq {f : Nat → Nat} {n : Nat} {b : ByteArray} (h : str f n = b) (hf : ∀ i, f i < 256) : ∀ i, i < n → f i = bf b i := fun i hi => by
  subst h
  unfold bf
  rw [str_tx, List.getElem?_map, List.getElem?_range hi]
  simp
  rw [Nat.mod_eq_of_lt (hf i)]
/-- The byte of a mask that is laid over the k-th. -/
def mbk (mask k : Nat) : Nat := mask / 2 ^ (8 * k) % 256
theorem mbk_lt (mask k : Nat) : mbk mask k < 256 := Nat.mod_lt _ (by decide)
/-- k bytes from t on are turned. -/
def fz (f : Nat → Nat) (t mask k : Nat) : Nat → Nat := fun i => if t ≤ i ∧ i < t + k then f i ^^^ mbk mask (i - t) else f i
theorem fz_lt {f : Nat → Nat} (hf : ∀ i, f i < 256) (t mask k : Nat) : ∀ i, fz f t mask k i < 256 := fun i => by
  unfold fz
  split
  · exact Nat.xor_lt_two_pow (n := 8) (hf i) (mbk_lt _ _)
  · exact hf i
theorem xor_mb (u mask k : Nat) (hu : u < 256) : bits .xor .u8 (u : Int) ((mask : Int) / 2 ^ (8 * k) % 256) = ((u ^^^ mbk mask k : Nat) : Int) := by
  have e : (mask : Int) / 2 ^ (8 * k) % 256 = ((mbk mask k : Nat) : Int) := by
    unfold mbk
    simp
  rw [e]
  exact u8_xor_nat u _ hu (mbk_lt _ _)
theorem fz_zero (f : Nat → Nat) (t mask : Nat) : fz f t mask 0 = f := by
  funext i
  unfold fz
  rw [if_neg (by omega)]
theorem fz_at (f : Nat → Nat) (t mask k : Nat) : fz f t mask k (t + k) = f (t + k) := by
  unfold fz
  rw [if_neg (by omega)]
theorem fz_step (f : Nat → Nat) (t mask k : Nat) : upd (fz f t mask k) (t + k) (f (t + k) ^^^ mbk mask k) = fz f t mask (k + 1) := by
  funext i
  unfold upd fz
  by_cases e : i = t + k
  · subst e
    rw [if_pos rfl, if_pos (by omega), show t + k - t = k by omega]
  · rw [if_neg e]
    by_cases h : t ≤ i ∧ i < t + k
    · rw [if_pos h, if_pos (by omega)]
    · rw [if_neg h, if_neg (by omega)]
def flB (b : ByteArray) (t mask : Nat) : ByteArray := str (fz (bf b) t mask (min 4 (b.size - t))) b.size
theorem str_size (f : Nat → Nat) (n : Nat) : (str f n).size = n := by
  have := congrArg List.length (str_tx f n)
  rw [tx_length] at this
  simpa using this
theorem flB_size (b : ByteArray) (t mask : Nat) : (flB b t mask).size = b.size := str_size _ _
theorem flB_of {f : Nat → Nat} {n : Nat} {b : ByteArray} (h : str f n = b) (hf : ∀ i, f i < 256) (hn : n = b.size) (t mask : Nat) : str (fz f t mask (min 4 (n - t))) n = flB b t mask := by
  unfold flB
  rw [← hn]
  refine str_congr fun i hi => ?_
  unfold fz
  rw [bf_eq h hf i hi]
/-- Is a byte there to be turned? -/
def flipT (x : ByteArray) (t : Int) (l : List Fl) : Bool := decide (0 ≤ t) && decide (t < ((fileL x l).b.size : Int))
def flipS (x : ByteArray) (t : Int) (mask : Nat) (l : List Fl) : List Fl := if flipT x t l = true then Dk.put l { fileL x l with b := flB (fileL x l).b t.toNat mask } else l
/-- A byte of a row of one's own is stored. -/
theorem own_set {w : World} {base g n c k x : Nat} {f : Nat → Nat} (h : Own w base (.slice (some ⟨g, 0, none⟩) n c) n f) (hk : k < n) : Own (w.setCell ⟨g, k, none⟩ (.int .u8 ((x : Nat) : Int))) base (.slice (some ⟨g, 0, none⟩) n c) n (upd f k x) := by
  rcases h with ⟨hl, ⟨e, _⟩ | ⟨g', cap, cur, e, hg, hh, hnc, hm, hs, ht⟩⟩
  · cases e
  · injection e with e1 e2 e3
    injection e1 with e1
    injection e1 with e1
    subst e1; subst e3
    refine ⟨by rw [bs_length, Nat.mul_one], .inr ⟨g, c, _, rfl, hg, heap_setCell_same w g k _ _ (.int .u8 ((x : Nat) : Int)) hh, hnc, hm, by rw [Array.size_setIfInBounds]; exact hs, ?_⟩⟩
    have hcl : cur.toList.length = c * 1 := by rw [Array.length_toList]; exact hs
    apply List.ext_getElem?
    intro i
    by_cases hi : i < n
    · rw [bs_at hi, List.getElem?_take, if_pos (by omega), Array.toList_setIfInBounds, List.getElem?_set]
      by_cases e : k = i
      · subst e
        rw [if_pos rfl, if_pos (by omega), upd_at]
      · rw [if_neg e, upd_ne _ _ (fun q => e q.symm)]
        have h9 : (cur.toList.take (n * 1))[i]? = some (.int .u8 ((f i : Nat) : Int)) := by rw [ht, bs_at hi]
        rw [List.getElem?_take, if_pos (by omega)] at h9
        exact h9
    · rw [List.getElem?_eq_none (by simp; omega), List.getElem?_eq_none (by rw [bs_length]; omega)]
theorem own_block {w : World} {base g n c : Nat} {f : Nat → Nat} (h : Own w base (.slice (some ⟨g, 0, none⟩) n c) n f) : base ≤ g ∧ ∃ cur, w.heap[g]? = some (.cells cur 5 (0, 0)) := by
  rcases h with ⟨hl, ⟨e, _⟩ | ⟨g', cap, cur, e, hg, hh, _⟩⟩
  · cases e
  · injection e with e1 _ _
    injection e1 with e1
    injection e1 with e1
    subst e1
    exact ⟨hg, cur, hh⟩
set_option maxHeartbeats 8000000 in
theorem dflip_any (p : Nat) (a : Option Addr) (c : Nat) (L : List Fv) (q : Option Nat) (s : St) (z : Option Fz) (x : ByteArray) (t : Int) (mask : Nat) (w : World) (h : DX w p a c L q s) (hz : Zs w q z) (hx : x.size ≤ maxLen) (ht0 : -9223372036854775808 ≤ t) (ht1 : t ≤ 9223372036854775807) (hm : mask < 4294967296) :
    Calls Try.prog 47 #[.pointer (some ⟨p, 0, none⟩), .string x, .int .i64 t, .int .u32 (mask : Int)] w fun e w' => e = .returned (.bool (flipT x t s.fs)) ∧ ∃ a' c' L', DX w' p a' c' L' q { s with fs := flipS x t mask s.fs } ∧ Zs w' q z ∧ Upd (Mg p q a) w w' ∧ (a' = a ∨ ∀ x, a' = some x → w.heap.size ≤ x.block) ∧ Gw w L L' := by
  obtain ⟨R, hR⟩ : ∃ R, flipT x t s.fs = R := ⟨_, rfl⟩
  obtain ⟨S, hS⟩ : ∃ S, flipS x t mask s.fs = S := ⟨_, rfl⟩
  rw [hR, hS]
  have hdr := hR
  unfold flipT at hdr
  have hds := hS
  unfold flipS at hds
  rw [hR] at hds
  have HZ : Hid (Zs w q z) := hz
  have HD : Hid (DX w p a c L q s) := h
  have HNO0 : Hid (R = false → ∀ n, ∃ a' c' L', DX (w.drewN n) p a' c' L' q { s with fs := S } ∧ Zs (w.drewN n) q z ∧ Upd (Mg p q a) w (w.drewN n) ∧ (a' = a ∨ ∀ x, a' = some x → w.heap.size ≤ x.block) ∧ Gw w L L') := fun e n => by
    rw [e, if_neg (by decide)] at hds
    subst hds
    exact ⟨a, c, L, h.drewN n, hz.keep (bdn' _ _), (Upd.refl _ _).drewN n, .inl rfl, Gw.refl _ _⟩
  generalize hPP : (fun wr => ∃ a' c' L', DX wr p a' c' L' q { s with fs := S } ∧ Zs wr q z ∧ Upd (Mg p q a) w wr ∧ (a' = a ∨ ∀ x, a' = some x → w.heap.size ≤ x.block) ∧ Gw w L L') = PP
  have HNO : Hid (R = false → ∀ n, PP (w.drewN n)) := fun e n => by rw [← hPP]; exact HNO0.out e n
  have HYES : Hid (∀ wr, (∃ a' c' L', DX wr p a' c' L' q { s with fs := S } ∧ Zs wr q z ∧ Upd (Mg p q a) w wr ∧ (a' = a ∨ ∀ x, a' = some x → w.heap.size ≤ x.block) ∧ Gw w L L') → PP wr) := fun wr k => by rw [← hPP]; exact k
  have hgoal : (fun (e : Ending) (w' : World) => e = .returned (.bool R) ∧ ∃ a' c' L', DX w' p a' c' L' q { s with fs := S } ∧ Zs w' q z ∧ Upd (Mg p q a) w w' ∧ (a' = a ∨ ∀ x, a' = some x → w.heap.size ≤ x.block) ∧ Gw w L L') = fun e w' => e = .returned (.bool R) ∧ PP w' := by rw [← hPP]
  rw [hgoal]
  have cT := at_any p a c L q s x w h hx
  have c0 := h.c0
  have HDR : Hid ((decide (0 ≤ t) && decide (t < ((fileL x s.fs).b.size : Int))) = R) := hdr
  have HDS : Hid ((if R = true then Dk.put s.fs { fileL x s.fs with b := flB (fileL x s.fs).b t.toNat mask } else s.fs) = S) := hds
  clear hgoal hPP hR hS hdr hds hz HNO0
  cases ht : there x s.fs with
  | false =>
    rw [ht] at cT
    have HR : Hid (R = false) := by
      unfold Hid
      rw [← HDR.out]
      unfold fileL
      rw [if_neg (by rw [ht]; decide)]
      show (decide (0 ≤ t) && decide (t < ((0 : Nat) : Int))) = false
      by_cases k : 0 ≤ t
      · rw [decide_eq_false (show ¬ t < ((0 : Nat) : Int) by omega), Bool.and_false]
      · rw [decide_eq_false k, Bool.false_and]
    clear h ht
    obtain ⟨j, hj⟩ : ∃ j, place x s.fs = j := ⟨_, rfl⟩
    rw [hj] at cT
    clear hj
    go_enter Try.func47, Try.ntmps47
    go_wp2_with fail
    go_at_call 57
    refine cT.mono ?_
    rintro e w2 ⟨rfl, n2, rfl⟩
    clear cT
    go_wp2
    go_ret
    exact ⟨by rw [HR.out] <;> rfl, HNO.out HR.out n2⟩
  | true =>
    rw [ht] at cT
    have hlt := there_lt ht
    obtain ⟨j, hj⟩ : ∃ j, place x s.fs = j := ⟨_, rfl⟩
    rw [hj] at cT hlt
    have hjL : j < L.length := by rw [h.f, List.length_map] at hlt; exact hlt
    have hfa : fileL x s.fs = fl L[j]! := by
      unfold fileL
      rw [if_pos ht]
      unfold fileAt
      rw [hj, h.f, List.getElem?_map, List.getElem?_eq_getElem hjL, getElem!_pos L j hjL]
      rfl
    obtain ⟨g, cur, rfl, hg⟩ := h.block (by omega)
    have ij : (j : Int) < (L.length : Int) := by omega
    have hpg : p ≠ g := fun e => by
      subst e
      have := h.o
      rw [hg] at this
      injection this with this
      injection this with _ this _
      exact absurd this (by decide)
    obtain ⟨hf, _, hlc, _⟩ := h.rows
    obtain ⟨b', o', eo, hA⟩ := hf (by omega)
    cases eo
    have k1 := (hA j hjL).c1
    have hdt := h.data hjL
    rw [Nat.zero_add] at k1
    obtain ⟨y0, hy0⟩ : ∃ y0, L[j]! = y0 := ⟨_, rfl⟩
    have HY0 : Hid (L[j]! = y0) := hy0
    rw [hy0] at k1 hdt hfa
    obtain ⟨yp, ⟨ya, yn, yc⟩, ys, yb⟩ := y0
    dsimp only at k1 hdt
    obtain ⟨hyb, hyn, f, hf8, hown, hstr⟩ := hdt
    dsimp only at hyn hown hstr hyb
    have hyn' : yb.size = yn := hyn.symm
    rw [hyn'] at hyb hown hstr
    have hpath : yp = x := by
      have := there_map (p := x) hjL (by rw [← h.f]; exact hj)
      rw [← h.f, ht, hy0] at this
      have := (of_decide_eq_true this.symm : tx yp = tx x)
      exact tx_inj this
    have HFL : Hid (fileL x s.fs = ⟨x, yb, ys⟩) := by
      unfold Hid
      rw [hfa, hpath]; rfl
    have HPUT : Hid (∀ b', Dk.put s.fs ⟨x, b', ys⟩ = s.fs.set j ⟨x, b', ys⟩) := fun b' => by
      unfold Dk.put
      rw [if_pos (c := there x s.fs = true) ht]
      show s.fs.set (place x s.fs) _ = _
      rw [hj]
    have HRT : Hid ((decide (0 ≤ t) && decide (t < (yn : Int))) = R) := by
      unfold Hid
      rw [← HDR.out, HFL.out]
      show _ = (decide (0 ≤ t) && decide (t < (yb.size : Int)))
      rw [hyn']
    by_cases q0 : t < 0
    · have i0 : decide (t < 0) = true := decide_eq_true q0
      have HR : Hid (R = false) := by unfold Hid; rw [← HRT.out, decide_eq_false (by omega), Bool.false_and]
      clear h ht hlt hj hjL hfa hg hpg hf hA hlc hy0 hyb hyn hf8 hown hstr hyn' hpath q0
      go_enter Try.func47, Try.ntmps47
      go_wp2_with fail
      go_at_call 57
      refine cT.mono ?_
      rintro e w2 ⟨rfl, n2, rfl⟩
      clear cT
      go_wp2
      go_ret
      exact ⟨by rw [HR.out] <;> rfl, HNO.out HR.out n2⟩
    have i0 : decide (t < 0) = false := decide_eq_false q0
    by_cases q1 : (yn : Int) ≤ t
    · have HR : Hid (R = false) := by unfold Hid; rw [← HRT.out, decide_eq_false (show ¬ t < (yn : Int) by omega), Bool.and_false]
      clear h ht hlt hj hjL hfa hg hpg hf hA hlc hy0 hyb hyn hf8 hown hstr hyn' hpath q0
      go_enter Try.func47, Try.ntmps47
      go_wp2_with fail
      go_at_call 57
      refine cT.mono ?_
      rintro e w2 ⟨rfl, n2, rfl⟩
      clear cT
      have m0 : (w.drewN n2).cell? ⟨p, 0, none⟩ = _ := c0
      have m1 : (w.drewN n2).cell? ⟨g, j * 3 + 1, none⟩ = _ := k1
      go_wp2
      go_ret
      exact ⟨by rw [HR.out] <;> rfl, HNO.out HR.out n2⟩
    have i1 : decide ((yn : Int) ≤ t) = false := decide_eq_false q1
    obtain ⟨T, hT⟩ : ∃ T : Nat, t = (T : Int) := ⟨t.toNat, by omega⟩
    subst hT
    have hTn : T < yn := by omega
    have HR : Hid (R = true) := by unfold Hid; rw [← HRT.out, decide_eq_true (by omega), decide_eq_true (show (T : Int) < (yn : Int) by omega)]; rfl
    obtain ⟨hrow, hync, hyz⟩ := own_open hown hf8
    have cB : ∀ n, ∃ g9 c9 W9, Sem.run Try.prog (Builtin.append_ #[29, 29] 29 #[.slice none 0 0, .slice ya yn yc]) (w.drewN n) = .ok (.slice (some ⟨g9, 0, none⟩) yn c9) W9 ∧ Own W9 w.heap.size (.slice (some ⟨g9, 0, none⟩) yn c9) yn f ∧ Below w.heap.size w W9 := fun n => by
      obtain ⟨v9, W9, r1, r2, r3⟩ := appendA (c := yc) (Own.start (w.drewN n) w.heap.size (fun _ => 0)) (hrow.keep (bdn' w n)) hyz (by omega) (Nat.le_refl _)
      rw [Nat.zero_add] at r2
      have r2 := r2.congr (g := f) fun i _ => by unfold cat; rw [if_neg (by omega), Nat.sub_zero]
      obtain ⟨g9, c9, e9, _⟩ := r2.row (by omega) hf8
      subst e9
      exact ⟨g9, c9, W9, r1, r2, (bdn' w n).trans r3⟩
    have HFT : Hid (∀ i, f i < 256) := hf8
    have HPA : Hid (yp = x) := hpath
    have HFS : Hid (str f yn = yb ∧ yb.size = yn ∧ yb.size ≤ 262144) := ⟨hstr, hyn', by omega⟩
    have HCB := cB
    have HPG : Hid (p ≠ g ∧ j < L.length) := ⟨hpg, hjL⟩
    have HHG : Hid (w.heap[g]? = some (.cells cur 95 (0, 0))) := hg
    have hyn2 : yn ≤ 262144 := by omega
    obtain ⟨N, hN⟩ : ∃ N, min 4 (yn - T) = N := ⟨_, rfl⟩
    have HNN : Hid (min 4 (yn - T) = N) := hN
    clear h ht hlt hj hjL hfa hg hpg hf hA hlc hy0 hyb hyn hf8 hown hstr hyn' hpath q0 q1 hrow hync hyz HCB
    go_enter Try.func47, Try.ntmps47
    go_wp2_with fail
    go_at_call 57
    refine cT.mono ?_
    rintro e w2 ⟨rfl, n2, rfl⟩
    obtain ⟨g9, c9, W9, r1, r2, r3⟩ := cB n2
    have m0 : (w.drewN n2).cell? ⟨p, 0, none⟩ = _ := c0
    have m1 : (w.drewN n2).cell? ⟨g, j * 3 + 1, none⟩ = _ := k1
    have HR1 : Hid (Sem.run Try.prog (Builtin.append_ #[29, 29] 29 #[.slice none 0 0, .slice ya yn yc]) (w.drewN n2) = .ok (.slice (some ⟨g9, 0, none⟩) yn c9) W9) := r1
    have HO9 : Hid (Own W9 w.heap.size (.slice (some ⟨g9, 0, none⟩) yn c9) yn (fz f T mask 0)) := by rw [fz_zero]; exact r2
    have HB9 : Hid (Below w.heap.size w W9) := r3
    clear cT cB r1 r2 r3
    go_wp2_with (at_builtin; refine wpList_append_ran (by rfl) _ _ 29 (by rfl) _ _ _ _ (by rfl) (by rfl) HR1.out ?_)
    clear m0 m1
    go_loopw [12] (fun i wr => ∃ k : Nat, k ≤ N ∧ i = .int .i64 k ∧ Own wr w.heap.size (.slice (some ⟨g9, 0, none⟩) yn c9) yn (fz f T mask k) ∧ Below w.heap.size w wr) (fun i _ => N - (intOf i).toNat)
    case atStart => exact ⟨0, Nat.zero_le _, rfl, HO9.out, HB9.out⟩
    case round =>
      obtain ⟨k, hk, rfl, hO, hB⟩ := hrel
      have HO : Hid (Own wr w.heap.size (.slice (some ⟨g9, 0, none⟩) yn c9) yn (fz f T mask k)) := hO
      have HB : Hid (Below w.heap.size w wr) := hB
      by_cases hkN : k < N
      · have a1 : (k : Int) < 4 := by omega
        have wA : IntKind.i64.wrap ((T : Int) + (k : Int)) = ((T + k : Nat) : Int) := by rw [IntKind.wrap_i64]; omega
        have a2 : ((T + k : Nat) : Int) < (yn : Int) := by omega
        have a3 : (T : Int) + (k : Int) < (yn : Int) := by omega
        have w8 : IntKind.i64.wrap (8 * (k : Int)) = ((8 * k : Nat) : Int) := by rw [IntKind.wrap_i64]; omega
        obtain ⟨hg9, cur9, hh9⟩ := own_block hO
        obtain ⟨b9, o9, e9, hr9⟩ := (own_open hO (fz_lt HFT.out T mask k)).1.lies (by omega)
        injection e9 with e9
        injection e9 with e1 e2 _
        have u0 := hr9 (T + k) (by omega)
        rw [← e1, ← e2, Nat.zero_add, fz_at] at u0
        have u1 := frozen_of_row wr g9 (T + k) _ _ hh9
        have HG9 : Hid (w.heap.size ≤ g9) := hg9
        clear hO hB hg9 hh9 hr9 e1 e2
        go_wp2
        rw [xor_mb _ _ _ (HFT.out _)]
        refine ⟨⟨k + 1, by omega, by simp, ?_, ?_⟩, by simp [intOf]; omega⟩
        · rw [← fz_step]
          exact own_set HO.out (by omega)
        · exact Upd.below (M := fun i => i = g9) HB.out (Upd.put (M := fun i => i = g9) (Upd.refl _ wr) (p := ⟨g9, T + k, none⟩) (.inl rfl) _) (fun i e => by rw [e]; exact HG9.out) HB.out.size
      · have hkN' : k = N := by omega
        subst hkN'
        have HG9 : Hid (w.heap.size ≤ g9) := (own_block hO).1
        have HN : Hid (PP (wr.setCell ⟨g, j * 3 + 1, none⟩ (.slice (some ⟨g9, 0, none⟩) yn c9))) := by
          have hb9 : BO wr { L[j]! with bv := (some ⟨g9, 0, none⟩, yn, c9), b := flB yb T mask } := by
            refine ⟨?_, fz f T mask k, fz_lt HFT.out T mask k, ?_, ?_⟩
            · show yn = (flB yb T mask).size
              rw [flB_size, HFS.out.2.1]
            · show Own wr 0 (.slice (some ⟨g9, 0, none⟩) yn c9) (flB yb T mask).size _
              rw [flB_size, HFS.out.2.1]
              exact own_mono HO.out (Nat.zero_le _)
            · show str _ (flB yb T mask).size = flB yb T mask
              rw [flB_size, HFS.out.2.1, ← HNN.out]
              exact flB_of HFS.out.1 HFT.out HFS.out.2.1.symm T mask
          have hd := (HD.out.keep HB.out).setB HPG.out.2 HPG.out.1 (some ⟨g9, 0, none⟩, yn, c9) (flB yb T mask) hb9 (by rw [flB_size]; exact HFS.out.2.2)
          have hS : s.fs.set j (fl { L[j]! with bv := (some ⟨g9, 0, none⟩, yn, c9), b := flB yb T mask }) = S := by
            have h9 := HDS.out
            rw [HR.out, if_pos rfl, HFL.out, show ((T : Int)).toNat = T by omega] at h9
            have h8 := HPUT.out (flB yb T mask)
            rw [← h9]
            show _ = Dk.put s.fs ⟨x, flB yb T mask, ys⟩
            rw [h8, HY0.out, ← HPA.out]
            rfl
          rw [hS] at hd
          refine HYES.out _ ⟨some ⟨g, 0, none⟩, c, _, hd, (HZ.out.keep HB.out).beside (M := fun k => k = g) (Upd.put (M := fun k => k = g) (Upd.refl _ wr) (p := ⟨g, j * 3 + 1, none⟩) (.inl rfl) _) (fun k hk e => ?_), ((Upd.refl _ w).after HB.out).put (p := ⟨g, j * 3 + 1, none⟩) (.inl (.inr (.inr ⟨0, rfl⟩))) _, .inl rfl, Gw.put (y := { L[j]! with bv := (some ⟨g9, 0, none⟩, yn, c9), b := flB yb T mask }) (fun u hu => hu) (fun _ ad e => .inl ?_)⟩
          · subst hk; subst e
            obtain ⟨cs, hz⟩ := HZ.out.type
            rw [HHG.out] at hz
            injection hz with hz
            injection hz with _ hz _
            exact absurd hz (by decide)
          · have e : (some ⟨g9, 0, none⟩ : Option Addr) = some ad := e
            injection e with e
            subst e
            exact HG9.out
        have m0 : wr.cell? ⟨p, 0, none⟩ = _ := (HB.out.cell (p := ⟨p, 0, none⟩) (block_lt_of_cell c0)).trans c0
        have m1 : wr.cell? ⟨g, j * 3 + 1, none⟩ = _ := (HB.out.cell (p := ⟨g, j * 3 + 1, none⟩) (block_lt_of_cell k1)).trans k1
        have m2 : wr.frozen? ⟨g, j * 3 + 1, none⟩ = false := frozen_of_row wr g (j * 3 + 1) _ _ ((HB.out.block g (Array.getElem?_eq_some_iff.1 HHG.out).1).trans HHG.out)
        clear hO hB c0 k1
        by_cases q4 : (k : Int) < 4
        · have wA : IntKind.i64.wrap ((T : Int) + (k : Int)) = ((T + k : Nat) : Int) := by rw [IntKind.wrap_i64]; omega
          have a2 : decide (((T + k : Nat) : Int) < (yn : Int)) = false := decide_eq_false (by have := HNN.out; omega)
          have a3 : decide ((T : Int) + (k : Int) < (yn : Int)) = false := decide_eq_false (by have := HNN.out; omega)
          go_wp2
          go_ret
          exact ⟨by rw [HR.out] <;> rfl, HN.out⟩
        · have a1 : decide ((k : Int) < 4) = false := decide_eq_false q4
          clear q4
          go_wp2
          go_ret
          exact ⟨by rw [HR.out] <;> rfl, HN.out⟩
end Go.Proofs.Ythkhkijdehbbmaa
