/-
  What Head, One of layer 5 answer; the first sentence of each law of layer 5 (awake) is true.
-/
import Derived.Test.YtjbdncgmpccedaaDoorShN
namespace Go.Proofs.YtjbdncgmpccedaaDoor
open Go.RowKit Crc
attribute [local go_sem ↓] Go.wp_at_zero Go.wp_at_succ
set_option linter.unusedVariables false

set_option maxRecDepth 100000 in
theorem head_any (K M I B S D : Int) (w : World) :
    Calls Tryd.prog 9 #[hv K M I B S D] w fun e w' => e = .returned (hv K M I B S D) ∧ Below w.heap.size w w' := by
  obtain ⟨W, hbx, ⟨c0, c1, c2, c3, c4, c5⟩, hb⟩ := box_head w 23 K M I B S D
  unfold hv
  have HB : Hid (Below w.heap.size w W) := hb
  have hlt : w.heap.size < W.heap.size := block_lt_of_cell c0
  clear hb
  go_enter Tryd.func9, Tryd.ntmps9
  go_wp2
  exact bodyPost_ret (v := .agg #[.int .i64 K, .int .i64 M, .int .i64 I, .int .i64 B, .int .i64 S, .int .i64 D]) (by simp [results, Tryd.results9, go_sem]) rfl ⟨rfl, hop HB.out (bal _ _)⟩
set_option maxRecDepth 100000 in
theorem one_any (n x : Nat) (w : World) (hn : n ≤ maxLen) (hx : x < 256) :
    Calls Tryd.prog 16 #[.int .i64 (n : Int), .int .u8 (x : Int)] w fun e w' => e = .returned (hv ((2 : Nat) : Int) ((1 : Nat) : Int) ((1 : Nat) : Int) ((16 + x : Nat) : Int) (n : Int) ((65537 : Nat) : Int)) ∧ Below w.heap.size w w' := by
  unfold maxLen at hn
  have i1 : (x : Int) < 256 := by omega
  have e1 : (16 : Int) + (x : Int) = ((16 + x : Nat) : Int) := by omega
  have ub : 16 + x < 300 := by omega
  generalize 16 + x = y at *
  go_enter Tryd.func16, Tryd.ntmps16
  go_wp2
  exact bodyPost_ret (v := hv ((2 : Nat) : Int) ((1 : Nat) : Int) ((1 : Nat) : Int) (y : Int) (n : Int) ((65537 : Nat) : Int)) (by simp [results, Tryd.results16, go_sem, hv]) rfl ⟨rfl, bal _ _⟩

theorem dat_file {K M I B S D : Nat} {f : Nat → Nat} (hB : 0 < B) {j : Nat} (hj : j < S) : dat (file K M I B S D f) B j = f j := by
  have e := Nat.div_add_mod j B
  rw [Nat.mul_comm] at e
  have hr := Nat.mod_lt j hB
  unfold dat
  rw [file_at _ _ (by omega), if_pos (by unfold blen; omega), e]
theorem one_may (n x : Nat) (hn : n ≤ 65536) (hx : x < 256) : MayN 2 1 1 (16 + x) n 65537 := ⟨by omega, by omega, by omega, by omega, by omega, by omega, hn, by omega⟩
/-- What was written is read without fault. -/
theorem not_bad {K M I B S D : Nat} {f : Nat → Nat} {y : Int} (hB : 0 < B) (hf : ∀ i, f i < 256) : ¬ Bad (wl S B S) (file K M I B S D f) B S y := fun h => by
  have e : wl S B S = plen S B (nb S B) := by
    rcases wl_end (S := S) (B := B) with e | e
    · exact e
    · omega
  rw [e] at h
  rcases h with ⟨_, k, hk, hn⟩ | ⟨_, k, hk, _, hn⟩ | ⟨_, hn⟩
  · have := plen_mono (S := S) (B := B) (i := k + 1) (j := nb S B) (by omega)
    omega
  · exact hn (file_fit hB hf hk)
  · omega

def aw : Nat → Nat := fun i => if i = 16 then 9 else 0
theorem wl49 : wl 17 16 17 = 49 := by decide

/-- make([]byte, n). -/
theorem make_any (w : World) (n : Nat) (hn : n ≤ 1000000) : ∃ W, Sem.run Tryd.prog (Instr.makeSlice 24 (.int .i64 (n : Int)) (.int .i64 (n : Int))) w = .ok (.slice (some ⟨w.heap.size, 0, none⟩) n n) W ∧ Made W w.heap.size n (fun _ => 0) ∧ Below w.heap.size w W := by
  obtain ⟨i, hi, hzz⟩ := Option.map_eq_some_iff.1 info5
  simp only [Prod.mk.injEq] at hzz
  obtain ⟨hz, hs, hby⟩ := hzz
  obtain ⟨W, hr, ho, hg⟩ := run_make_full (P := Tryd.prog) w w.heap.size 24 5 i (.int .u8 0) 1 Tryd.underlying24 hi hz hs .i64 .i64 n (by rw [hby]; omega) (by unfold maxLen; omega) (Nat.le_refl _)
  refine ⟨W, hr, ⟨fun j hj => ?_, fun j hj => ho.frozenAt j⟩, (Below.refl _ _).grown hg (Nat.le_refl _) (fun k hk => by cases hk)⟩
  rw [ho.cellAt j (by omega), Nat.mul_one]
  show (madeCells #[Value.int .u8 0] n).toList[j]? = _
  rw [toList_madeCells_one, List.getElem?_replicate, if_pos hj]
  rfl

set_option maxRecDepth 100000 in
set_option maxHeartbeats 2000000 in
theorem awake_any (w : World) (T : HalfT w) : Calls Tryd.prog 7 #[] w fun e w' => e = .returned (.bool true) ∧ Below w.heap.size w w' := by
  have cO := one_any 17 0 w (by unfold maxLen; omega) (by omega)
  unfold hv at cO
  go_enter Tryd.func7, Tryd.ntmps7
  go_wp2_with fail
  go_at_call 16
  refine cO.mono ?_
  rintro e W1 ⟨rfl, b1⟩
  clear cO
  obtain ⟨W2, hW2⟩ : ∃ W2, W1.alloc (.cells #[.int .i64 2, .int .i64 1, .int .i64 1, .int .i64 16, .int .i64 17, .int .i64 65537] 23) = W2 := ⟨_, rfl⟩
  have b2 : Below W1.heap.size W1 W2 := by rw [← hW2]; exact bal _ _
  have hh2 : HdB W2 W1.heap.size 2 1 1 16 17 65537 23 := by rw [← hW2]; exact heap_alloc_new _ _
  obtain ⟨W3, hmk, mk3, b3⟩ := make_any W2 17 (by omega)
  have hmk' : Sem.run Tryd.prog (Instr.makeSlice 24 (.int .i64 17) (.int .i64 17)) W2 = .ok (.slice (some ⟨W2.heap.size, 0, none⟩) 17 17) W3 := hmk
  have s16 := mk3.soft 16 (by omega)
  have c16 := mk3.cell 16 (by omega)
  have mk4 : Made (W3.setCell ⟨W2.heap.size, 16, none⟩ (.int .u8 ((9 : Nat) : Int))) W2.heap.size 17 aw := (mk3.put (k := 16) (x := 9) (by omega)).congr fun j hj => by
    unfold upd aw; rfl
  obtain ⟨W4, hW4⟩ : ∃ W4, W3.setCell ⟨W2.heap.size, 16, none⟩ (.int .u8 9) = W4 := ⟨_, rfl⟩
  have b24 : Below W2.heap.size W2 W4 := by rw [← hW4]; exact b3.setCell (p := ⟨_, 16, none⟩) (Nat.le_refl _) _
  have mk4' : Made W4 W2.heap.size 17 aw := by rw [← hW4]; exact mk4
  have hh4 : HdB W4 W1.heap.size 2 1 1 16 17 65537 23 := (b24.block _ (Array.getElem?_eq_some_iff.1 hh2).1).trans hh2
  have b14 : Below w.heap.size w W4 := hop b1 (hop b2 b24)
  have haw : ∀ i, aw i < 256 := fun i => by unfold aw; split <;> omega
  have r4 := mk4'.row haw
  obtain ⟨x0, x1, x2, x3, x4, x5⟩ := hh4.at
  have cH := head_any 2 1 1 16 17 65537 W4
  have HH4 : Hid (HdB W4 W1.heap.size 2 1 1 16 17 65537 23) := hh4
  have HM4 : Hid (Made W4 W2.heap.size 17 aw) := mk4'
  have HB4 : Hid (Below w.heap.size w W4) := b14
  have HAW : Hid (∀ i, aw i < 256) := haw
  clear mk3 mk4 mk4' hmk b1 b2 b3 b24 b14 hh2 hh4 r4 haw
  unfold hv at cH
  go_wp2_with fail
  go_at_call 9
  refine cH.mono ?_
  rintro e W5 ⟨rfl, b5⟩
  clear cH
  have hb5 : Below w.heap.size w W5 := hop HB4.out b5
  have m5 := HM4.out.keep b5
  have cW := write_ok W5 2 1 1 16 65537 17 17 (some ⟨W2.heap.size, 0, none⟩) aw (T.keep hb5) (one_may 17 0 (by omega) (by omega)) (m5.row HAW.out) (by omega)
  rw [wl49] at cW
  have HH5 : Hid (HdB W5 W1.heap.size 2 1 1 16 17 65537 23) := (b5.block _ (Array.getElem?_eq_some_iff.1 HH4.out).1).trans HH4.out
  have HM5 : Hid (Made W5 W2.heap.size 17 aw) := m5
  have HB5 : Hid (Below w.heap.size w W5) := hb5
  clear b5 hb5 m5 HH4 HM4 HB4 x0 x1 x2 x3 x4 x5 hW4 hW2 hmk' s16 c16
  unfold hv at cW
  go_wp2_with fail
  go_at_call 8
  refine cW.mono ?_
  rintro e W6 ⟨v6, rfl, ho6, b6⟩
  clear cW
  obtain ⟨g6, c6, rfl, q1, hc6, q3, r6⟩ := ho6.row (by omega) (file_lt HAW.out)
  have hb6 : Below w.heap.size w W6 := hop HB5.out b6
  have cR := readF_good W6 49 c6 2 1 1 16 17 65537 (some ⟨g6, 0, none⟩) _ aw (T.keep hb6) r6 (by omega) (by omega) hc6 (one_may 17 0 (by omega) (by omega)) (fun i _ => rfl)
  have HH6 : Hid (HdB W6 W1.heap.size 2 1 1 16 17 65537 23) := (b6.block _ (Array.getElem?_eq_some_iff.1 HH5.out).1).trans HH5.out
  have HM6 : Hid (Made W6 W2.heap.size 17 aw) := HM5.out.keep b6
  have HB6 : Hid (Below w.heap.size w W6) := hb6
  clear b6 hb6 HH5 HM5 HB5 ho6 r6
  go_wp2_with fail
  go_at_call 17
  refine cR.mono ?_
  rintro e W7 ⟨b7, hE⟩
  clear cR
  rcases hE with ⟨y, _, hbad⟩ | ⟨v7, rfl, q1, q2, ho7⟩
  · exact absurd hbad (by have := not_bad (K := 2) (M := 1) (I := 1) (B := 16) (S := 17) (D := 65537) (f := aw) (y := y) (by omega) HAW.out; rw [wl49] at this; exact this)
  clear q1 q2
  obtain ⟨g7, c7, rfl, q1, q2, q3, r7⟩ := ho7.row (by omega) (fun i => file_lt HAW.out _)
  have r7' : Row W7 (some ⟨g7, 0, none⟩) 17 aw := r7.congr (fun i hi => dat_file (by omega) hi) HAW.out
  have hh7 : HdB W7 W1.heap.size 2 1 1 16 17 65537 23 := (b7.block _ (Array.getElem?_eq_some_iff.1 HH6.out).1).trans HH6.out
  have m7 := HM6.out.keep b7
  have hb7 := hop HB6.out b7
  unfold hv
  go_wp2_with fail
  obtain ⟨W8, hW8⟩ : ∃ W8, W8 = W7.alloc (.cells #[.int .i64 2, .int .i64 1, .int .i64 1, .int .i64 16, .int .i64 17, .int .i64 65537] 29) := ⟨_, rfl⟩
  have b8 : Below W7.heap.size W7 W8 := by rw [hW8]; exact bal _ _
  have hg8 : HdB W8 W7.heap.size 2 1 1 16 17 65537 29 := by rw [hW8]; exact heap_alloc_new _ _
  have hh8 : HdB W8 W1.heap.size 2 1 1 16 17 65537 23 := (b8.block _ (Array.getElem?_eq_some_iff.1 hh7).1).trans hh7
  have hb8 : Below w.heap.size w W8 := hop hb7 b8
  have rD : ∀ X, Below W8.heap.size W8 X → Sem.run Tryd.prog (convert 24 9 (.slice (some ⟨g7, 0, none⟩) 17 c7)) X = .ok (.string (str aw 17)) X := fun X hX => conv_row (r7'.keep (hop b8 hX)) (fun e => by cases e)
  have rA : ∀ X, Below W8.heap.size W8 X → Sem.run Tryd.prog (convert 24 9 (.slice (some ⟨W2.heap.size, 0, none⟩) 17 17)) X = .ok (.string (str aw 17)) X := fun X hX => conv_row ((m7.keep (hop b8 hX)).row HAW.out) (fun e => by cases e)
  have d1 := rD W8.drew (Below.refl _ _).drew
  have d2 := rA W8.drew (Below.refl _ _).drew
  have K9 : Hid (Calls Tryd.prog 9 #[.agg #[.int .i64 2, .int .i64 1, .int .i64 1, .int .i64 16, .int .i64 17, .int .i64 65537]] W8.drew fun e w9 => e = .returned (.agg #[.int .i64 2, .int .i64 1, .int .i64 1, .int .i64 16, .int .i64 17, .int .i64 65537]) ∧ Sem.run Tryd.prog (convert 24 9 (.slice (some ⟨g7, 0, none⟩) 17 c7)) w9 = .ok (.string (str aw 17)) w9 ∧ Sem.run Tryd.prog (convert 24 9 (.slice (some ⟨W2.heap.size, 0, none⟩) 17 17)) w9 = .ok (.string (str aw 17)) w9 ∧ HdAt w9 W7.heap.size 2 1 1 16 17 65537 ∧ HdAt w9 W1.heap.size 2 1 1 16 17 65537 ∧ Below w.heap.size w w9) := by
    refine (head_any 2 1 1 16 17 65537 W8.drew).mono ?_
    rintro e w9 ⟨rfl, b9⟩
    have b89 : Below W8.heap.size W8 w9 := (Below.refl _ _).drew.trans b9
    exact ⟨rfl, rD w9 b89, rA w9 b89, hg8.at.keep b89, hh8.at.keep b89, hop hb8 b89⟩
  obtain ⟨u0, u1, u2, u3, u4, u5⟩ := hg8.at
  obtain ⟨v0, v1, v2, v3, v4, v5⟩ := hh8.at
  rw [← hW8]
  clear rD rA b8 hg8 hh8 hb8 hW8 m7 hh7 r7 r7' hb7 b7 ho7 HH6 HM6 HB6 q1 q2 q3 T
  generalize str aw 17 = SS at *
  generalize W7.heap.size = q7 at *
  generalize W1.heap.size = q1 at *
  go_region_held (fun w' => w'.cell? ⟨q7, 0, none⟩ = some (.int .i64 2) ∧ w'.cell? ⟨q7, 1, none⟩ = some (.int .i64 1) ∧ w'.cell? ⟨q7, 2, none⟩ = some (.int .i64 1) ∧ w'.cell? ⟨q7, 3, none⟩ = some (.int .i64 16) ∧ w'.cell? ⟨q7, 4, none⟩ = some (.int .i64 17) ∧ w'.cell? ⟨q7, 5, none⟩ = some (.int .i64 65537) ∧ w'.cell? ⟨q1, 0, none⟩ = some (.int .i64 2) ∧ w'.cell? ⟨q1, 1, none⟩ = some (.int .i64 1) ∧ w'.cell? ⟨q1, 2, none⟩ = some (.int .i64 1) ∧ w'.cell? ⟨q1, 3, none⟩ = some (.int .i64 16) ∧ w'.cell? ⟨q1, 4, none⟩ = some (.int .i64 17) ∧ w'.cell? ⟨q1, 5, none⟩ = some (.int .i64 65537))
    (first | go_keep | exact ⟨y3.c0, y3.c1, y3.c2, y3.c3, y3.c4, y3.c5, y4.c0, y4.c1, y4.c2, y4.c3, y4.c4, y4.c5⟩)
    ((go_at_call 9; refine K9.out.mono ?_; rintro e w9 ⟨rfl, y1, y2, y3, y4, y5⟩))
  all_goals
    go_wp2
    go_ret
    exact ⟨rfl, y5⟩
end Go.Proofs.YtjbdncgmpccedaaDoor
