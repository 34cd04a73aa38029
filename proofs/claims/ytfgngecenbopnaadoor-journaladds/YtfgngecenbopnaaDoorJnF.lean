/-
  What journal.Encode answers.
-/
import Derived.Test.YtfgngecenbopnaaDoorJnE
namespace Go.Proofs.YtfgngecenbopnaaDoor
open Go.RowKit Crc
attribute [local go_sem ↓] Go.wp_at_zero Go.wp_at_succ
set_option linter.unusedVariables false

def SBJ : ByteArray := { data := #[83, 66, 74, 49] }
theorem sb_SBJ (i : Nat) (hi : i < 4) : sb SBJ i = sbj i := by
  match i, hi with
  | 0, _ => rfl
  | 1, _ => rfl
  | 2, _ => rfl
  | 3, _ => rfl
theorem head_jb {t N n : Nat} {z nm : Nat → Nat} {F : Nat → Ver} (hn : n < 256) (i : Nat) (hi : i < 11 + N) :
    cat (10 + N) (cat 10 (cat 8 (cat 4 (cat 0 z (sb SBJ)) (by4 t)) (by4 N)) nm) (fun _ => n) i = jb t N nm n F i := by
  unfold cat jb
  by_cases h1 : i < 4
  · rw [if_pos (by omega), if_pos (by omega), if_pos (by omega), if_pos h1, if_neg (by omega), if_pos h1, Nat.sub_zero, sb_SBJ i h1]
  · rw [if_neg h1, if_neg h1]
    by_cases h2 : i < 8
    · rw [if_pos (by omega), if_pos (by omega), if_pos h2, if_pos h2]
    · rw [if_neg h2, if_neg h2]
      by_cases h3 : i < 10
      · rw [if_pos (by omega), if_pos h3, if_pos h3]
      · rw [if_neg h3, if_neg h3]
        by_cases h4 : i < 10 + N
        · rw [if_pos h4, if_pos h4]
        · rw [if_neg h4, if_neg h4, if_pos hi]; show n = _; omega
theorem step_jb {t N n k : Nat} {nm : Nat → Nat} {F : Nat → Ver} (i : Nat) (hi : i < 11 + N + 13 * k + 13) :
    cat (11 + N + 13 * k) (jb t N nm n F) (vb (F k)) i = jb t N nm n F i := by
  unfold cat
  by_cases h : i < 11 + N + 13 * k
  · rw [if_pos h]
  · rw [if_neg h, ← jb_ver (t := t) (nm := nm) (n := n) k (i - (11 + N + 13 * k)) (by omega)]
    congr 1; omega
theorem Own.mono {w : World} {base base' n : Nat} {v : Value} {f : Nat → Nat} (h : Own w base v n f) (hb : base' ≤ base) : Own w base' v n f := by
  rcases h with ⟨hl, e | ⟨g, cap, cur, e, hg, hr⟩⟩
  · exact ⟨hl, .inl e⟩
  · exact ⟨hl, .inr ⟨g, cap, cur, e, Nat.le_trans hb hg, hr⟩⟩
/-- make([]byte, 0, n). -/
theorem make0 (w : World) (n : Nat) (hn : n ≤ 10000000) (f : Nat → Nat) : ∃ W, Sem.run Tryd.prog (Instr.makeSlice 22 (.int .i64 0) (.int .i64 (n : Int))) w = .ok (.slice (some ⟨w.heap.size, 0, none⟩) 0 n) W ∧ Own W w.heap.size (.slice (some ⟨w.heap.size, 0, none⟩) 0 n) 0 f ∧ Below w.heap.size w W := by
  obtain ⟨i, hi, hzz⟩ := Option.map_eq_some_iff.1 info5
  simp only [Prod.mk.injEq] at hzz
  obtain ⟨hz, hs, hby⟩ := hzz
  obtain ⟨W, hr, ho, hg⟩ := run_make_own (P := Tryd.prog) w w.heap.size 22 5 i (.int .u8 0) 1 Tryd.underlying22 hi hz hs .i64 .i64 n (by rw [hby]; omega) (by unfold maxLen; omega) (Nat.le_refl _)
  exact ⟨W, hr, ho, (Below.refl _ _).grown hg (Nat.le_refl _) (fun k hk => by cases hk)⟩

set_option maxRecDepth 100000 in
theorem encode_bad (t : Int) (s : ByteArray) (a : Option Addr) (n c : Nat) (F : Nat → Ver) (w : World) (h : Vs w a n F) (hs : s.size ≤ maxLen) (hn : n ≤ maxLen) (hm : mayJ t s.size n F = false) :
    Calls Tryd.prog 10 #[jv t s (.slice a n c)] w fun e w' => e = .returned (.tuple #[.slice none 0 0, .int .i64 1]) ∧ Below w.heap.size w w' := by
  obtain ⟨W, hbx, hj, hb⟩ := box_jn w 26 t s (.slice a n c)
  have cM := may_any t s a n c F W (h.keep hb) hs hn
  rw [hm] at cM
  have HB : Hid (Below w.heap.size w W) := hb
  obtain ⟨c0, c1, c2⟩ := hj
  clear h hb hm hs hn
  unfold jv at *
  go_enter Tryd.func10, Tryd.ntmps10
  go_wp2_with fail
  go_at_call 9
  refine cM.mono ?_
  rintro e w1 ⟨rfl, b1⟩
  clear cM
  go_wp2
  go_ret2
  exact ⟨rfl, hop HB.out b1⟩

set_option maxRecDepth 100000 in
set_option maxHeartbeats 4000000 in
theorem encode_ok (t : Nat) (s : ByteArray) (a : Option Addr) (n c : Nat) (F : Nat → Ver) (w : World) (T : HalfT w) (h : Vs w a n F) (hm : mayJ t s.size n F = true) :
    Calls Tryd.prog 10 #[jv t s (.slice a n c)] w fun e w' => ∃ v, e = .returned (.tuple #[v, .int .i64 0]) ∧ Own w' w.heap.size v (jl s.size n + 4) (jf t s.size (sb s) n F) ∧ Below w.heap.size w w' := by
  obtain ⟨m1, m2, m3, m4, m5⟩ := mayJ_iff.1 hm
  obtain ⟨W, hbx, hj, hb⟩ := box_jn w 26 t s (.slice a n c)
  have cM := may_any t s a n c F W (h.keep hb) (by unfold maxLen; omega) (by unfold maxLen; omega)
  rw [hm] at cM
  have HB : Hid (Below w.heap.size w W) := hb
  have HJ : Hid (JAt W w.heap.size t s (.slice a n c)) := hj
  have HV : Hid (Vs W a n F) := h.keep hb
  have HT : Hid (HalfT W) := T.keep hb
  obtain ⟨c0, c1, c2⟩ := hj
  have HMR : Hid (mayR F n = true) := m5
  clear h hb hm T m5
  unfold jv at *
  go_enter Tryd.func10, Tryd.ntmps10
  go_wp2_with fail
  go_at_call 9
  refine cM.mono ?_
  rintro e w1 ⟨rfl, b1⟩
  clear cM c0 c1 c2
  have hj1 := HJ.out.keep b1
  obtain ⟨c0, c1, c2⟩ := hj1
  have cF := fileBytes_any s.size n w1 (by omega) (by omega)
  have hp1 : w.heap.size < w1.heap.size := block_lt_of_cell c0
  have HJ1 : Hid (JAt w1 w.heap.size t s (.slice a n c)) := HJ.out.keep b1
  have HV1 : Hid (Vs w1 a n F) := HV.out.keep b1
  have HT1 : Hid (HalfT w1) := HT.out.keep b1
  have HB1 : Hid (Below w.heap.size w w1) := hop HB.out b1
  clear HJ HV HT HB b1
  go_wp2_with fail
  go_at_call 18
  refine cF.mono ?_
  rintro e w2 ⟨rfl, rfl⟩
  clear cF
  obtain ⟨B, hB⟩ : ∃ B, w1.heap.size = B := ⟨_, rfl⟩
  obtain ⟨X0, mk, o0, b0⟩ := make0 w1 (15 + s.size + 13 * n) (by omega) (fun _ => 0)
  rw [hB] at o0 b0 mk
  obtain ⟨v1, X1, hr1, o1, b1, _⟩ := pushS SBJ o0 (by show 0 + 4 < _; omega) (by have := b0.size; omega)
  have b01 := b0.trans b1
  have JK : Hid (∀ X, Below B w1 X → JAt X w.heap.size t s (.slice a n c)) := fun X hX => by
    rw [← hB] at hX
    exact HJ1.out.keep hX
  obtain ⟨d0, d1, d2⟩ := JK.out X1 b01
  have cT := appNum_any X1 B _ t v1 _ o1 (by have := b01.size; omega) (by show 0 + 4 < _; omega) (by omega)
  have HA1 : Hid (Sem.run Tryd.prog (Builtin.append_ #[22, 9] 22 #[.slice (some ⟨B, 0, none⟩) 0 (15 + s.size + 13 * n), .string { data := #[83, 66, 74, 49] }]) X0 = .ok v1 X1) := hr1
  have HB01 : Hid (Below B w1 X1) := b01
  have i1 : (t : Int) < 4294967296 := by omega
  clear o0 b0 hr1 o1 b1 b01
  generalize 15 + s.size + 13 * n = cp at *
  go_wp2_with (at_builtin; refine wpList_append_ran2 (by rfl) _ _ 22 9 (by rfl) _ _ _ _ (by rfl) (by rfl) HA1.out ?_)
  go_at_call 19
  refine cT.mono ?_
  rintro e X2 ⟨v2, rfl, o2, b2, _⟩
  clear cT HA1 mk d0 d1 d2 c0 c1 c2
  have b02 := HB01.out.trans b2
  have hs2 := b02.size
  obtain ⟨v3, X3, hr3, o3, b3, _⟩ := push2 (g := by4 s.size) o2 (by4_lt _) rfl rfl (by show 0 + 4 + 4 < _; omega) (by omega)
  have b03 := b02.trans b3
  have hs3 := b03.size
  obtain ⟨v4, X4, hr4, o4, b4, _⟩ := pushS s o3 (by show 0 + 4 + 4 + 2 + s.size < _; omega) (by omega)
  have b04 := b03.trans b4
  have hs4 := b04.size
  obtain ⟨v5, X5, hr5, o5, b5, _⟩ := pushB (x := n) o4 (by omega) (by show 0 + 4 + 4 + 2 + s.size < _; omega) (by omega)
  have b05 := b04.trans b5
  obtain ⟨c0, c1, c2⟩ := JK.out X2 b02
  obtain ⟨d0, d1, d2⟩ := JK.out X3 b03
  obtain ⟨f0, f1, f2⟩ := JK.out X4 b04
  obtain ⟨g0, g1, g2⟩ := JK.out X5 b05
  have HA3 : Hid _ := hr3
  have HA4 : Hid _ := hr4
  have HA5 : Hid _ := hr5
  have HO5 : Hid (Own X5 B v5 (11 + s.size + 13 * 0) (jb t s.size (sb s) n F)) := by
    have e : 0 + SBJ.size + 4 + 2 + s.size + 1 = 11 + s.size + 13 * 0 := by show 0 + 4 + 4 + 2 + s.size + 1 = _; omega
    rw [e] at o5
    refine o5.congr fun i hi => ?_
    have := head_jb (t := t) (N := s.size) (n := n) (z := fun _ => 0) (nm := sb s) (F := F) (by omega) i (by omega)
    rw [← this]
    rw [show 0 + SBJ.size + 4 + 2 + s.size = 10 + s.size by show 0 + 4 + 4 + 2 + s.size = _; omega]
    rfl
  have HB5 : Hid (Below B w1 X5) := b05
  have e0 : (s.size : Int) % 256 = ((by4 s.size 0 : Nat) : Int) := by unfold by4; simp
  have e1 : (s.size : Int) / 256 % 256 = ((by4 s.size 1 : Nat) : Int) := by unfold by4; simp
  have e2 : (s.size : Int) / 256 = ((by4 s.size 1 : Nat) : Int) := by unfold by4; simp; omega
  have i2 : (n : Int) < 256 := by omega
  clear hr3 hr4 hr5 o2 o3 o4 o5 b2 b3 b4 b5 b02 b03 b04 b05 hs2 hs3 hs4 HB01
  generalize by4 s.size 0 = y0 at *
  generalize by4 s.size 1 = y1 at *
  go_wp2_with (at_builtin; first | refine wpList_append_ran (by rfl) _ _ 22 (by rfl) _ _ _ _ (by rfl) (by rfl) HA3.out ?_ | refine wpList_append_ran2 (by rfl) _ _ 22 9 (by rfl) _ _ _ _ (by rfl) (by rfl) HA4.out ?_ | refine wpList_append_ran (by rfl) _ _ 22 (by rfl) _ _ _ _ (by rfl) (by rfl) HA5.out ?_)
  clear HA3 HA4 HA5 c0 c1 c2 d0 d1 d2 f0 f1 f2 g0 g1 g2 e0 e1 e2
  go_loopw [4, 51] (fun v i wr => ∃ k : Nat, k ≤ n ∧ i = .int .i64 k ∧ Own wr B v (11 + s.size + 13 * k) (jb t s.size (sb s) n F) ∧ Below B w1 wr) (fun _ i _ => n - (intOf i).toNat)
  case atStart => exact ⟨0, by omega, rfl, HO5.out, HB5.out⟩
  case round =>
    obtain ⟨k, hk, rfl, hO, hb⟩ := hrel
    clear HO5 HB5
    have hsz := hb.size
    by_cases hlt : k < n
    · have ik : (k : Int) < (n : Int) := by omega
      obtain ⟨b, o, ea, hc⟩ := (HV1.out.keep (by rw [hB]; exact hb)).lies (by omega)
      subst ea
      obtain ⟨q0, q1, q2, q3⟩ := hc k hlt
      obtain ⟨X6, hX6, vat, b6⟩ := box_ver wr 33 (F k)
      have b06 : Below B w1 X6 := hb.trans (b6.mono (by omega))
      have hk6 := b06.size
      have cA := appVer_any X6 B _ (F k) _ _ (hO.keep b6) (by omega) (by omega) (mayR_at hlt HMR.out).2 (HV1.out.ft k).s1
      have HB6 : Hid (Below B w1 X6) := b06
      have HST : Hid (∀ i, i < 11 + s.size + 13 * k + 13 → cat (11 + s.size + 13 * k) (jb t s.size (sb s) n F) (vb (F k)) i = jb t s.size (sb s) n F i) := fun i hi => step_jb i hi
      unfold vv at cA
      clear hO hb b6 b06 hc
      generalize vb (F k) = vbk at *
      generalize F k = vk at *
      obtain ⟨r0, r1, r2, r3⟩ := vat
      go_wp2_with fail
      go_at_call 20
      refine cA.mono ?_
      rintro e X7 ⟨v7, rfl, o7, b7⟩
      clear cA
      have HO7 : Hid (Own X7 B v7 (11 + s.size + 13 * (k + 1)) (jb t s.size (sb s) n F)) := by
        rw [show 11 + s.size + 13 * (k + 1) = 11 + s.size + 13 * k + 13 by omega]
        exact o7.congr HST.out
      have HB7 : Hid (Below B w1 X7) := HB6.out.trans b7
      clear o7 b7 HB6 HST q0 q1 q2 q3 r0 r1 r2 r3
      go_wp2
      go_round
      case rel => exact ⟨k + 1, by omega, by go_num, HO7.out, HB7.out⟩
      case measure => simp [intOf]; omega
    · have : k = n := by omega
      subst this
      have hL : 11 + s.size + 13 * k = jl s.size k := rfl
      rw [hL] at hO
      obtain ⟨gb, cb, rfl, z1, z2, z3, r8⟩ := hO.row (by rw [← hL]; omega) (jb_lt (sb_lt s))
      have cS := sum_any (some ⟨gb, 0, none⟩) (jl s.size k) cb _ wr (HT1.out.keepB hb (by have := HT1.out.lt; omega)) r8 (by rw [← hL]; unfold maxLen; omega)
      have ls : sum (jl s.size k) (jb t s.size (sb s) k F) < 4294967296 := more_lt (by omega) (jb_lt (sb_lt s))
      have cB := bytes_any (sum (jl s.size k) (jb t s.size (sb s) k F)) wr ls
      have HO : Hid (Own wr B (.slice (some ⟨gb, 0, none⟩) (jl s.size k) cb) (jl s.size k) (jb t s.size (sb s) k F)) := hO
      have HBr : Hid (Below B w1 wr) := hb
      have hlj : jl s.size k ≤ 2000 := by rw [← hL]; omega
      have HSM : Hid (∀ i, cat (jl s.size k) (jb t s.size (sb s) k F) (by4 (sum (jl s.size k) (jb t s.size (sb s) k F))) i = jf t s.size (sb s) k F i) := fun i => rfl
      clear hO hb r8 z1 z2 z3 hL ls
      generalize sum (jl s.size k) (jb t s.size (sb s) k F) = sm at *
      go_wp2_with fail
      go_at_call 22
      refine cS.mono ?_
      rintro e w' ⟨rfl, rfl⟩
      clear cS
      go_wp2_with fail
      go_at_call 21
      refine cB.mono ?_
      rintro e X8 ⟨rfl, m8, b8⟩
      clear cB
      have hb8 : Below B w1 X8 := HBr.out.trans (b8.mono (by omega))
      have hs8 := hb8.size
      obtain ⟨v9, X9, hr9, o9, b9, _⟩ := appendG (c := 4) (HO.out.keep b8) (m8.row (by4_lt _)) (fun e => by cases e) (by omega) (by omega)
      have HA9 : Hid _ := hr9
      have HO9 : Hid (Own X9 B v9 (jl s.size k + 4) (jf t s.size (sb s) k F)) := o9.congr fun i _ => HSM.out i
      have HB9 : Hid (Below B w1 X9) := hb8.trans b9
      clear hr9 o9 b9 hb8 m8 b8 HO HBr HSM
      go_wp2_with (at_builtin; refine wpList_append_ran (by rfl) _ _ 22 (by rfl) _ _ _ _ (by rfl) (by rfl) HA9.out ?_)
      go_ret2
      have q9 : Own X9 w.heap.size v9 (jl s.size k + 4) (jf t s.size (sb s) k F) := Own.mono (base := B) HO9.out (by omega)
      exact ⟨_, rfl, q9, hop HB1.out (by rw [hB]; exact HB9.out)⟩
end Go.Proofs.YtfgngecenbopnaaDoor
