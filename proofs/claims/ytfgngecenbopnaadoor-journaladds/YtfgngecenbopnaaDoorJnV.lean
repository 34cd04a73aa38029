/-
  Versions and journals in memory; what within, mayVersion, May answer.
-/
import Derived.Test.YtfgngecenbopnaaDoorCrc
import Derived.Test.YtfgngecenbopnaaDoorJnM
namespace Go.Proofs.YtfgngecenbopnaaDoor
open Go.RowKit Crc
attribute [local go_sem ↓] Go.wp_at_zero Go.wp_at_succ
set_option linter.unusedVariables false

/-- A version as a value. -/
def vv (v : Ver) : Value := .agg #[.int .i64 v.id, .bool v.mr, .int .i64 v.sz, .int .u32 (v.sm : Int)]
/-- A version's cells. -/
structure VAt (w : World) (b o : Nat) (v : Ver) : Prop where
  c0 : w.cell? ⟨b, o, none⟩ = some (.int .i64 v.id)
  c1 : w.cell? ⟨b, o + 1, none⟩ = some (.bool v.mr)
  c2 : w.cell? ⟨b, o + 2, none⟩ = some (.int .i64 v.sz)
  c3 : w.cell? ⟨b, o + 3, none⟩ = some (.int .u32 (v.sm : Int))
theorem VAt.keep {w w' : World} {b o : Nat} {v : Ver} (h : VAt w b o v) (hb : Below w.heap.size w w') : VAt w' b o v :=
  ⟨(hb.cell (p := ⟨b, o, none⟩) (block_lt_of_cell h.c0)).trans h.c0, (hb.cell (p := ⟨b, o + 1, none⟩) (block_lt_of_cell h.c1)).trans h.c1,
    (hb.cell (p := ⟨b, o + 2, none⟩) (block_lt_of_cell h.c2)).trans h.c2, (hb.cell (p := ⟨b, o + 3, none⟩) (block_lt_of_cell h.c3)).trans h.c3⟩
/-- A slice that begins at a holds in w the n versions F 0, F 1 .. -/
structure Vs (w : World) (a : Option Addr) (n : Nat) (F : Nat → Ver) : Prop where
  ft : ∀ i, (F i).fits
  lies : 0 < n → ∃ b o, a = some ⟨b, o, none⟩ ∧ ∀ i, i < n → VAt w b (o + i * 4) (F i)
theorem Vs.keep {w w' : World} {a : Option Addr} {n : Nat} {F : Nat → Ver} (h : Vs w a n F) (hb : Below w.heap.size w w') : Vs w' a n F := by
  refine ⟨h.ft, fun hn => ?_⟩
  obtain ⟨b, o, e, hc⟩ := h.lies hn
  exact ⟨b, o, e, fun i hi => (hc i hi).keep hb⟩

theorem within_yes (x g : Int) (w : World) (h1 : 0 ≤ x) (h2 : x ≤ g) :
    Calls Tryd.prog 16 #[.int .i64 x, .int .i64 g] w fun e w' => e = .returned (.bool true) ∧ w = w' := by
  go_enter Tryd.func16, Tryd.ntmps16
  go_wp2
  go_ret
  exact ⟨rfl, rfl⟩
theorem within_no (x g : Int) (w : World) (h : ¬ (0 ≤ x ∧ x ≤ g)) :
    Calls Tryd.prog 16 #[.int .i64 x, .int .i64 g] w fun e w' => e = .returned (.bool false) ∧ w = w' := by
  by_cases h1 : 0 ≤ x
  · have h2 : decide (x ≤ g) = false := by simp; omega
    clear h
    go_enter Tryd.func16, Tryd.ntmps16
    go_wp2
    go_ret
    exact ⟨rfl, rfl⟩
  · have h2 : decide (0 ≤ x) = false := by simp; omega
    clear h h1
    go_enter Tryd.func16, Tryd.ntmps16
    go_wp2
    go_ret
    exact ⟨rfl, rfl⟩
theorem within_any (x g : Int) (w : World) :
    Calls Tryd.prog 16 #[.int .i64 x, .int .i64 g] w fun e w' => e = .returned (.bool (decide (0 ≤ x ∧ x ≤ g))) ∧ w = w' := by
  by_cases h : 0 ≤ x ∧ x ≤ g
  · rw [decide_eq_true h]; exact within_yes x g w h.1 h.2
  · rw [decide_eq_false h]; exact within_no x g w h

theorem box_ver (w : World) (t : TypeId) (v : Ver) : ∃ W, w.alloc (.cells #[.int .i64 v.id, .bool v.mr, .int .i64 v.sz, .int .u32 (v.sm : Int)] t) = W ∧ VAt W w.heap.size 0 v ∧ Below w.heap.size w W :=
  ⟨_, rfl, ⟨by rw [World.cell?_alloc_new]; rfl, by rw [World.cell?_alloc_new]; rfl, by rw [World.cell?_alloc_new]; rfl, by rw [World.cell?_alloc_new]; rfl⟩, bal _ _⟩

theorem mayV_plain (i z : Int) (s : Nat) : mayV ⟨i, false, z, s⟩ = (decide (0 ≤ i ∧ i ≤ 2147483647) && decide (0 ≤ z ∧ z ≤ 65536)) := by
  unfold mayV; simp [Bool.and_assoc]
theorem mayV_mark (i : Int) : mayV ⟨i, true, 0, 0⟩ = decide (0 ≤ i ∧ i ≤ 2147483647) := by
  unfold mayV; simp
theorem mayV_size (i z : Int) (s : Nat) (h : z ≠ 0) : mayV ⟨i, true, z, s⟩ = false := by
  unfold mayV; simp [h]
theorem mayV_sum (i z : Int) (s : Nat) (h : s ≠ 0) : mayV ⟨i, true, z, s⟩ = false := by
  unfold mayV; simp [h]

set_option maxRecDepth 100000 in
theorem mayVer_any (v : Ver) (w : World) :
    Calls Tryd.prog 17 #[vv v] w fun e w' => e = .returned (.bool (mayV v)) ∧ Below w.heap.size w w' := by
  obtain ⟨i, mr, z, s⟩ := v
  obtain ⟨W, hbx, ⟨c0, c1, c2, c3⟩, hb⟩ := box_ver w 33 ⟨i, mr, z, s⟩
  dsimp only at hbx c0 c1 c2 c3
  have HB : Hid (Below w.heap.size w W) := hb
  clear hb
  have wI := within_any i 2147483647 W
  have wS := within_any z 65536 W
  unfold vv
  dsimp only
  cases mr with
  | false =>
    rw [mayV_plain]
    generalize decide (0 ≤ i ∧ i ≤ 2147483647) = p at *
    generalize decide (0 ≤ z ∧ z ≤ 65536) = q at *
    go_enter Tryd.func17, Tryd.ntmps17
    go_wp2_with fail
    go_at_call 16
    refine wI.mono ?_
    rintro e w' ⟨rfl, rfl⟩
    cases p with
    | false =>
      go_wp2
      go_ret
      exact ⟨rfl, HB.out⟩
    | true =>
      go_wp2_with fail
      go_at_call 16
      refine wS.mono ?_
      rintro e w' ⟨rfl, rfl⟩
      go_wp2
      go_ret
      exact ⟨rfl, HB.out⟩
  | true =>
    by_cases hz : z = 0
    · by_cases hs : s = 0
      · have HM : Hid (mayV ⟨i, true, z, s⟩ = decide (0 ≤ i ∧ i ≤ 2147483647)) := by subst hz; subst hs; exact mayV_mark i
        have e1 : decide (0 ≤ z ∧ z ≤ 65536) = true := decide_eq_true (by omega)
        rw [e1] at wS
        have hz2 : (z != 0) = false := by simp [hz]
        have hs2 : ((s : Int) != 0) = false := by simp [hs]
        rw [HM.out]
        clear e1 hz hs HM
        generalize decide (0 ≤ i ∧ i ≤ 2147483647) = p at *
        go_enter Tryd.func17, Tryd.ntmps17
        go_wp2_with fail
        go_at_call 16
        refine wI.mono ?_
        rintro e w' ⟨rfl, rfl⟩
        cases p with
        | false =>
          go_wp2
          go_ret
          exact ⟨rfl, HB.out⟩
        | true =>
          go_wp2_with fail
          go_at_call 16
          refine wS.mono ?_
          rintro e w' ⟨rfl, rfl⟩
          go_wp2
          go_ret
          exact ⟨rfl, HB.out⟩
      · rw [mayV_sum i z s hs]
        have hs2 : ((s : Int) != 0) = true := by simp; omega
        have hz2 : (z != 0) = false := by simp [hz]
        clear wI wS hs hz
        go_enter Tryd.func17, Tryd.ntmps17
        go_wp2
        go_ret
        exact ⟨rfl, HB.out⟩
    · rw [mayV_size i z s hz]
      have hz2 : (z != 0) = true := by simp; omega
      clear wI wS
      go_enter Tryd.func17, Tryd.ntmps17
      go_wp2
      go_ret
      exact ⟨rfl, HB.out⟩

/-- A journal as a value. -/
def jv (t : Int) (s : ByteArray) (x : Value) : Value := .agg #[.int .i64 t, .string s, x]
/-- A journal's cells. -/
structure JAt (w : World) (p : Nat) (t : Int) (s : ByteArray) (x : Value) : Prop where
  c0 : w.cell? ⟨p, 0, none⟩ = some (.int .i64 t)
  c1 : w.cell? ⟨p, 1, none⟩ = some (.string s)
  c2 : w.cell? ⟨p, 2, none⟩ = some x
theorem JAt.keep {w w' : World} {p : Nat} {t : Int} {s : ByteArray} {x : Value} (h : JAt w p t s x) (hb : Below w.heap.size w w') : JAt w' p t s x :=
  ⟨(hb.cell (p := ⟨p, 0, none⟩) (block_lt_of_cell h.c0)).trans h.c0, (hb.cell (p := ⟨p, 1, none⟩) (block_lt_of_cell h.c1)).trans h.c1, (hb.cell (p := ⟨p, 2, none⟩) (block_lt_of_cell h.c2)).trans h.c2⟩
theorem box_jn (w : World) (ty : TypeId) (t : Int) (s : ByteArray) (x : Value) : ∃ W, w.alloc (.cells #[.int .i64 t, .string s, x] ty) = W ∧ JAt W w.heap.size t s x ∧ Below w.heap.size w W :=
  ⟨_, rfl, ⟨by rw [World.cell?_alloc_new]; rfl, by rw [World.cell?_alloc_new]; rfl, by rw [World.cell?_alloc_new]; rfl⟩, bal _ _⟩

theorem lastId_succ (F : Nat → Ver) (k : Nat) : lastId F (k + 1) = (F k).id := by unfold lastId; rw [if_neg (by omega), Nat.add_sub_cancel]
set_option maxRecDepth 100000 in
set_option maxHeartbeats 1000000 in
theorem may_any (t : Int) (s : ByteArray) (a : Option Addr) (n c : Nat) (F : Nat → Ver) (w : World) (h : Vs w a n F) (hs : s.size ≤ maxLen) (hn : n ≤ maxLen) :
    Calls Tryd.prog 9 #[jv t s (.slice a n c)] w fun e w' => e = .returned (.bool (mayJ t s.size n F)) ∧ Below w.heap.size w w' := by
  unfold maxLen at hs hn
  obtain ⟨W, hbx, hj, hb⟩ := box_jn w 26 t s (.slice a n c)
  have HB : Hid (Below w.heap.size w W) := hb
  have HJ : Hid (JAt W w.heap.size t s (.slice a n c)) := hj
  obtain ⟨c0, c1, c2⟩ := hj
  have wT := within_any t 2147483647 W
  have HV : Hid (Vs W a n F) := h.keep hb
  clear h hb
  unfold jv
  by_cases ht : 0 ≤ t ∧ t ≤ 2147483647
  rotate_left
  · have HM : Hid (mayJ t s.size n F = false) := by unfold mayJ; exact decide_eq_false (fun q => ht ⟨q.1, q.2.1⟩)
    rw [decide_eq_false ht] at wT
    generalize mayJ t s.size n F = M at *
    go_enter Tryd.func9, Tryd.ntmps9
    go_wp2_with fail
    go_at_call 16
    refine wT.mono ?_
    rintro e w' ⟨rfl, rfl⟩
    go_wp2
    go_ret
    exact ⟨by rw [HM.out]; rfl, HB.out⟩
  rw [decide_eq_true ht] at wT
  by_cases hN : s.size ≤ 600
  rotate_left
  · have HM : Hid (mayJ t s.size n F = false) := by unfold mayJ; exact decide_eq_false (fun q => hN q.2.2.1)
    have g1 : decide ((600 : Int) < (s.size : Int)) = true := decide_eq_true (by omega)
    have g2 : (600 : Int) < (s.size : Int) := by omega
    generalize mayJ t s.size n F = M at *
    go_enter Tryd.func9, Tryd.ntmps9
    go_wp2_with fail
    go_at_call 16
    refine wT.mono ?_
    rintro e w' ⟨rfl, rfl⟩
    go_wp2
    go_ret
    exact ⟨by rw [HM.out]; rfl, HB.out⟩
  have g1 : decide ((600 : Int) < (s.size : Int)) = false := decide_eq_false (by omega)
  by_cases hn4 : n ≤ 64
  rotate_left
  · have HM : Hid (mayJ t s.size n F = false) := by unfold mayJ; exact decide_eq_false (fun q => hn4 q.2.2.2.1)
    have g3 : decide ((64 : Int) < (n : Int)) = true := decide_eq_true (by omega)
    have g2 : (64 : Int) < (n : Int) := by omega
    generalize mayJ t s.size n F = M at *
    go_enter Tryd.func9, Tryd.ntmps9
    go_wp2_with fail
    go_at_call 16
    refine wT.mono ?_
    rintro e w' ⟨rfl, rfl⟩
    go_wp2
    go_ret
    exact ⟨by rw [HM.out]; rfl, HB.out⟩
  have g2 : decide ((64 : Int) < (n : Int)) = false := decide_eq_false (by omega)
  have HM : Hid (mayJ t s.size n F = mayR F n) := by
    unfold Hid mayJ
    cases e : mayR F n with
    | true => exact decide_eq_true ⟨ht.1, ht.2, hN, hn4, rfl⟩
    | false => exact decide_eq_false (fun q => by cases q.2.2.2.2)
  generalize mayJ t s.size n F = M at *
  go_enter Tryd.func9, Tryd.ntmps9
  go_wp2_with fail
  go_at_call 16
  refine wT.mono ?_
  rintro e w' ⟨rfl, rfl⟩
  clear wT
  go_wp2
  go_loopw [3, 25] (fun l i wr => ∃ k : Nat, k ≤ n ∧ l = .int .i64 (lastId F k) ∧ i = .int .i64 k ∧ mayR F k = true ∧ Below W.heap.size W wr) (fun _ i _ => n - (intOf i).toNat)
  case atStart => exact ⟨0, by omega, rfl, rfl, rfl, Below.refl _ _⟩
  case round =>
    obtain ⟨k, hk, rfl, rfl, hm, hb⟩ := hrel
    have j1 := HJ.out.keep hb
    by_cases hlt : k < n
    · have ik : (k : Int) < (n : Int) := by omega
      obtain ⟨b, o, rfl, hc⟩ := (HV.out.keep hb).lies (by omega)
      obtain ⟨v0, v1, v2, v3⟩ := hc k hlt
      clear c0 c1 c2
      obtain ⟨c0, c1, c2⟩ := j1
      have HL : Hid (mayR F (k + 1) = true ↔ lastId F k < (F k).id ∧ mayV (F k) = true) := ⟨fun q => mayR_at (Nat.lt_succ_self k) q, fun q => mayR_succ hm q.1 q.2⟩
      have HS : Hid (¬ (lastId F k < (F k).id ∧ mayV (F k) = true) → mayR F n = false) := fun q => mayR_false (k := k + 1) (by omega) (mayR_stop q)
      have HI : Hid (lastId F (k + 1) = (F k).id) := lastId_succ F k
      obtain ⟨W2, hW2, vat, hb2⟩ := box_ver wr 33 (F k)
      have cM := mayVer_any (F k) W2
      have fk := HV.out.ft k
      unfold vv at cM
      clear hm hc
      generalize lastId F k = l at *
      generalize F k = v at *
      obtain ⟨d0, d1, d2, d3⟩ := vat
      obtain ⟨vi, vm, vz, vs⟩ := v
      dsimp only at *
      have HB2 : Hid (Below W.heap.size W W2) := hop hb hb2
      clear hb hb2 fk HV HJ
      by_cases hle : vi ≤ l
      · have HF : Hid (mayR F n = false) := HS.out (fun q => by omega)
        clear HS HL cM
        go_wp2
        go_ret
        exact ⟨by rw [HM.out, HF.out]; rfl, hop HB.out HB2.out⟩
      · have hle2 : decide (vi ≤ l) = false := decide_eq_false hle
        have HN : Hid (l < vi) := by unfold Hid; omega
        clear hle
        go_wp2_with fail
        go_at_call 17
        refine cM.mono ?_
        rintro e w3 ⟨rfl, b3⟩
        have HB3 : Hid (Below W.heap.size W w3) := hop HB2.out b3
        have d0' : w3.cell? ⟨wr.heap.size, 0, none⟩ = some (.int .i64 vi) := (b3.cell (p := ⟨wr.heap.size, 0, none⟩) (block_lt_of_cell d0)).trans d0
        clear cM b3 d0 d1 d2 d3
        cases hv : mayV ⟨vi, vm, vz, vs⟩ with
        | false =>
          have HF : Hid (mayR F n = false) := HS.out (fun q => by rw [hv] at q; cases q.2)
          clear HS HL
          go_wp2
          go_ret
          exact ⟨by rw [HM.out, HF.out]; rfl, hop HB.out HB3.out⟩
        | true =>
          have HR : Hid (mayR F (k + 1) = true) := HL.out.2 ⟨HN.out, hv⟩
          clear HS HL hv
          go_wp2
          go_round
          case rel => exact ⟨k + 1, by omega, by rw [HI.out], by go_num, HR.out, HB3.out⟩
          case measure => simp [intOf]; omega
    · have : k = n := by omega
      subst this
      have HF : Hid (mayR F k = true) := hm
      have HB3 : Hid (Below W.heap.size W wr) := hb
      clear hm hb HV HJ
      obtain ⟨c0, c1, c2⟩ := j1
      go_wp2
      go_ret
      exact ⟨by rw [HM.out, HF.out]; rfl, hop HB.out HB3.out⟩
end Go.Proofs.YtfgngecenbopnaaDoor
