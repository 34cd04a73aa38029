/-
  The law GfLinear of layer 1 (rows added with two factors, one behind the other, are added with their sum; factors multiply) answers true for every two rows and every two factors.
-/
import Derived.Test.YtfhneibncjoolaaRows
import Derived.WalkKit
import Derived.ProofKit
import Derived.OpenShut
import Derived.ShutString
import Derived.ChangeOld
import Derived.Below
import Derived.Test.YtfhneibncjoolaaAwake
import Derived.Test.YtfhneibncjoolaaStr
namespace Go.Proofs.Ytfhneibncjoolaa
namespace gfLinear
open Go.ChangeShapes Go.WideShapes Go.ChangeAt Go.RowKit Gf
set_option linter.unusedVariables false
attribute [local go_sem ↓] Go.wp_at_zero Go.wp_at_succ

theorem own : ownKnob Try.prog.godebug = none := by kernel_rfl
theorem laidOut : laidOutB Try.prog = true := by kernel_rfl

theorem row_drewN {w : World} {a : Option Addr} {n : Nat} {f : Nat → Nat} (h : Row w a n f) (k : Nat) : Row (w.drewN k) a n f := ⟨h.lt, h.lies⟩

/-- dst with k times src. -/
def ad (f g : Nat → Nat) (n k : Nat) : Nat → Nat := fun i => if i < n then f i ^^^ M k (g i) else f i
theorem ad_lt {f g : Nat → Nat} {n k : Nat} (hf : ∀ i, f i < 256) (hk : k < 256) (i : Nat) : ad f g n k i < 256 := by
  unfold ad; split
  · exact xor_lt (hf i) (M_lt _ hk)
  · exact hf i

theorem mulAdd_row (b k n0 c0 n1 c1 : Nat) (a0 a1 : Option Addr) (f g : Nat → Nat) (w : World) (htab : Tab w b) (hk : k < 256) (h0 : Row w a0 n0 f) (h1 : Row w a1 n1 g) (l0 : n0 ≤ 140737488355328) (l1 : n1 ≤ 140737488355328) :
    Calls Try.prog 25 #[.pointer (some ⟨b, 0, none⟩), .slice a0 n0 c0, .slice a1 n1 c1, .int .u8 k] w fun e w' =>
      e = .returned (.slice (some ⟨w.heap.size, 0, none⟩) n0 n0) ∧ Row w' (some ⟨w.heap.size, 0, none⟩) n0 (ad f g n1 k) ∧ Below w.heap.size w w' := by
  refine (mulAdd_any b k n0 c0 n1 c1 a0 a1 f g w htab hk h0 h1 l0 l1).mono ?_
  rintro e w' ⟨rfl, hc, hb⟩
  exact ⟨rfl, ⟨ad_lt h0.lt hk, fun _ => ⟨w.heap.size, 0, rfl, fun i hi => by rw [Nat.zero_add]; exact hc i hi⟩⟩, hb⟩

theorem made_row (w : World) (n : Nat) : Row (w.alloc (.cells (madeCells #[.int .u8 0] n) 5)) (some ⟨w.heap.size, 0, none⟩) n (fun _ => 0) := by
  refine ⟨fun _ => by omega, fun _ => ⟨w.heap.size, 0, rfl, fun i hi => ?_⟩⟩
  rw [Nat.zero_add, World.cell?_alloc_new, ← Array.getElem?_toList, toList_madeCells_one, List.getElem?_replicate, if_pos (by omega)]
  rfl

/-- What is carried along: the table at b, the two rows, the two factors in block B. -/
structure St (W : World) (b B n0 n1 p q : Nat) (a0 a1 : Option Addr) (f g : Nat → Nat) : Prop where
  tab : Tab W b
  r0 : Row W a0 n0 f
  r1 : Row W a1 n1 g
  c0 : W.cell? ⟨B, 0, none⟩ = some (.int .u8 (p : Int))
  c1 : W.cell? ⟨B, 1, none⟩ = some (.int .u8 (q : Int))
theorem St.keep {W W' : World} {b B n0 n1 p q : Nat} {a0 a1 : Option Addr} {f g : Nat → Nat} (h : St W b B n0 n1 p q a0 a1 f g) (k : Below W.heap.size W W') : St W' b B n0 n1 p q a0 a1 f g :=
  ⟨h.tab.keep k (block_lt_of_cell h.tab.one), h.r0.keep k, h.r1.keep k, (k.cell (p := ⟨B, 0, none⟩) (block_lt_of_cell h.c0)).trans h.c0, (k.cell (p := ⟨B, 1, none⟩) (block_lt_of_cell h.c1)).trans h.c1⟩

theorem sums {f g : Nat → Nat} {n p q : Nat} (hg : ∀ i, g i < 256) (hp : p < 256) (hq : q < 256) (i : Nat) : ad (ad f g n p) g n q i = ad f g n (p ^^^ q) i := by
  unfold ad
  split
  · rw [M_xor_left hp hq (hg i), Nat.xor_assoc]
  · rfl
theorem prods {g : Nat → Nat} {n p q : Nat} (hg : ∀ i, g i < 256) (hp : p < 256) (hq : q < 256) (i : Nat) : ad (fun _ => 0) (ad (fun _ => 0) g n p) n q i = ad (fun _ => 0) g n (M p q) i := by
  unfold ad
  by_cases h : i < n
  · rw [if_pos h, if_pos h, if_pos h, Nat.zero_xor, Nat.zero_xor, Nat.zero_xor, M_comm hp hq, M_assoc hq hp (hg i)]
  · rw [if_neg h, if_neg h]

set_option maxRecDepth 100000 in
set_option maxHeartbeats 4000000 in
theorem core (a0 : Option Addr) (n0 c0 : Nat) (f : Nat → Nat) (a1 : Option Addr) (n1 c1 : Nat) (g : Nat → Nat) (p q : Nat) (w : World) (h0 : Row w a0 n0 f) (h1 : Row w a1 n1 g) (hp : p < 256) (hq : q < 256) (l0 : n0 ≤ maxLen) (l1 : n1 ≤ maxLen) :
    Calls Try.prog 8 #[.slice a0 n0 c0, .slice a1 n1 c1, .agg #[.int .u8 p, .int .u8 q]] w fun e w' => e = .returned (.bool true) ∧ Below w.heap.size w w' := by
  unfold maxLen at l0 l1
  have hb0 : Below w.heap.size w (w.alloc (.cells #[.int .u8 p, .int .u8 q] 40)) := (Below.refl _ _).alloc (Nat.le_refl _) _
  by_cases hs0 : 1000 < n0
  · go_enter Try.func8, Try.ntmps8
    go_wp2_with (go_at_call 9; refine (awake_any _).mono ?_; rintro e w1 ⟨rfl, hb1⟩)
    go_wp2
    go_ret
    exact ⟨rfl, hb0.trans (hb1.mono (by simp))⟩
  by_cases hs1 : 1000 < n1
  · go_enter Try.func8, Try.ntmps8
    go_wp2_with (go_at_call 9; refine (awake_any _).mono ?_; rintro e w1 ⟨rfl, hb1⟩)
    go_wp2
    go_ret
    exact ⟨rfl, hb0.trans (hb1.mono (by simp))⟩
  have hmk := run_make_row' (P := Try.prog) 35 5 (.int .u8 0) 1 Try.underlying35 info5 rfl .i64 .i64 n1 (by omega) (by omega)
  have lpq := xor_lt hp hq
  have lm := M_lt q hp
  have cAdd := fun w => add_any p q w hp hq
  have cMul := fun w b (t : Tab w b) => tmul_any b p q w t hp hq
  go_enter Try.func8, Try.ntmps8
  go_wp2_with (go_at_call 9; refine (awake_any _).mono ?_; rintro e w1 ⟨rfl, hb1⟩)
  go_wp2_with (go_at_call 10; refine (new_any _).mono ?_; rintro e w2 ⟨rfl, hu, hb2⟩)
  have hbw2 : Below (w.heap.size + 1) (w.alloc (.cells #[.int .u8 p, .int .u8 q] 40)) w2 := by
    have e : (w.alloc (.cells #[.int .u8 p, .int .u8 q] 40)).heap.size = w.heap.size + 1 := by simp
    rw [e] at hb1
    exact hb1.trans (hb2.mono (by have := hb1.size; omega))
  have hb02 : Below w.heap.size w w2 := hb0.trans (hbw2.mono (by omega))
  have st : St w2 w1.heap.size w.heap.size n0 n1 p q a0 a1 f g :=
    ⟨hu.tab, h0.keep hb02, h1.keep hb02, by rw [hbw2.cell (p := ⟨w.heap.size, 0, none⟩) (by simp)]; simp, by rw [hbw2.cell (p := ⟨w.heap.size, 1, none⟩) (by simp)]; simp⟩
  have lf := h0.lt
  have lg := h1.lt
  clear hu hb0 hb1 hb2 hbw2 h0 h1
  have z20 := st.c0
  have z21 := st.c1
  have K1 : Hid (Calls Try.prog 25 #[.pointer (some ⟨w1.heap.size, 0, none⟩), .slice a0 n0 c0, .slice a1 n1 c1, .int .u8 p] w2.drew fun e w3 =>
      e = .returned (.slice (some ⟨w2.heap.size, 0, none⟩) n0 n0) ∧ Row w3 (some ⟨w2.heap.size, 0, none⟩) n0 (ad f g n1 p) ∧ St w3 w1.heap.size w.heap.size n0 n1 p q a0 a1 f g ∧ Below w2.heap.size w2 w3 ∧ w3.cell? ⟨w.heap.size, 0, none⟩ = some (.int .u8 (p : Int)) ∧ w3.cell? ⟨w.heap.size, 1, none⟩ = some (.int .u8 (q : Int))) := by
    refine (mulAdd_row _ p n0 c0 n1 c1 a0 a1 f g w2.drew (st.tab.drewN 1) hp (row_drewN st.r0 1) (row_drewN st.r1 1) (by omega) (by omega)).mono ?_
    rintro e w3 ⟨rfl, rx, hb⟩
    have hb3 : Below w2.heap.size w2 w3 := (Below.refl w2.heap.size w2).drew.trans hb
    have s3 := st.keep hb3
    exact ⟨rfl, rx, s3, hb3, s3.c0, s3.c1⟩
  have K2 : Hid (∀ w3, Row w3 (some ⟨w2.heap.size, 0, none⟩) n0 (ad f g n1 p) → St w3 w1.heap.size w.heap.size n0 n1 p q a0 a1 f g → Calls Try.prog 25 #[.pointer (some ⟨w1.heap.size, 0, none⟩), .slice (some ⟨w2.heap.size, 0, none⟩) n0 n0, .slice a1 n1 c1, .int .u8 q] w3 fun e w4 =>
      e = .returned (.slice (some ⟨w3.heap.size, 0, none⟩) n0 n0) ∧ Row w4 (some ⟨w3.heap.size, 0, none⟩) n0 (ad (ad f g n1 p) g n1 q) ∧ St w4 w1.heap.size w.heap.size n0 n1 p q a0 a1 f g ∧ Below w3.heap.size w3 w4 ∧ w4.cell? ⟨w.heap.size, 0, none⟩ = some (.int .u8 (p : Int)) ∧ w4.cell? ⟨w.heap.size, 1, none⟩ = some (.int .u8 (q : Int))) := by
    intro w3 rx s3
    refine (mulAdd_row _ q n0 n0 n1 c1 _ a1 _ g w3 s3.tab hq rx s3.r1 (by omega) (by omega)).mono ?_
    rintro e w4 ⟨rfl, ry, hb⟩
    have s4 := s3.keep hb
    exact ⟨rfl, ry, s4, hb, s4.c0, s4.c1⟩
  go_wp2
  go_region_held3 (fun w' => w'.cell? ⟨w.heap.size, 0, none⟩ = some (.int .u8 (p : Int)) ∧ w'.cell? ⟨w.heap.size, 1, none⟩ = some (.int .u8 (q : Int))) (go_keep)
    (first | (go_at_call_of 25 (Value.int IntKind.u8 (p : Int)); refine K1.out.mono ?_; rintro e w3 ⟨rfl, rx, s3, hb3, z30, z31⟩) | (go_at_call_of 25 (Value.int IntKind.u8 (q : Int)); refine (K2.out w3 rx s3).mono ?_; rintro e w4 ⟨rfl, ry, s4, hb4, z40, z41⟩))
  clear K1 K2 z20 z21 z30 z31
  have hb04 : Below w.heap.size w w4 := (hb02.trans (hb3.mono hb02.size)).trans (hb4.mono (Nat.le_trans hb02.size hb3.size))
  clear hb3 hb4 hb02 rx s3 st
  go_wp2_with fail
  go_at_call 19
  refine (cAdd _).mono ?_
  rintro e w' ⟨rfl, rfl⟩
  go_wp2_with fail
  go_at_call 25
  refine (mulAdd_row _ (p ^^^ q) n0 c0 n1 c1 a0 a1 f g w4 s4.tab lpq s4.r0 s4.r1 (by omega) (by omega)).mono ?_
  rintro e w5 ⟨rfl, rz, hb5⟩
  have s5 := s4.keep hb5
  have ry5 := ry.keep hb5
  have hb05 : Below w.heap.size w w5 := hb04.trans (hb5.mono hb04.size)
  clear s4 ry hb04 hb5 z40 z41
  obtain ⟨w6, hw6⟩ : ∃ w6, w6 = w5.alloc (.cells (madeCells #[.int .u8 0] n1) 5) := ⟨_, rfl⟩
  have hb6 : Below w5.heap.size w5 w6 := by rw [hw6]; exact (Below.refl _ _).alloc (Nat.le_refl _) _
  have rZ : Row w6 (some ⟨w5.heap.size, 0, none⟩) n1 (fun _ => 0) := by rw [hw6]; exact made_row w5 n1
  have hmk5 : Sem.run Try.prog (Instr.makeSlice 35 (.int .i64 (n1 : Int)) (.int .i64 (n1 : Int))) w5 = .ok (.slice (some ⟨w5.heap.size, 0, none⟩) n1 n1) w6 := by rw [hw6]; exact hmk w5
  clear hmk hw6
  have s6 := s5.keep hb6
  have ry6 := ry5.keep hb6
  have rz6 := rz.keep hb6
  have hb06 : Below w.heap.size w w6 := hb05.trans (hb6.mono hb05.size)
  clear s5 ry5 rz hb05 hb6
  have z60 := s6.c0
  have z61 := s6.c1
  have K3 : Hid (Calls Try.prog 25 #[.pointer (some ⟨w1.heap.size, 0, none⟩), .slice (some ⟨w5.heap.size, 0, none⟩) n1 n1, .slice a1 n1 c1, .int .u8 p] w6.drew fun e w7 =>
      e = .returned (.slice (some ⟨w6.heap.size, 0, none⟩) n1 n1) ∧ Row w7 (some ⟨w6.heap.size, 0, none⟩) n1 (ad (fun _ => 0) g n1 p) ∧ St w7 w1.heap.size w.heap.size n0 n1 p q a0 a1 f g ∧ Below w6.heap.size w6 w7 ∧ w7.cell? ⟨w.heap.size, 0, none⟩ = some (.int .u8 (p : Int)) ∧ w7.cell? ⟨w.heap.size, 1, none⟩ = some (.int .u8 (q : Int))) := by
    refine (mulAdd_row _ p n1 n1 n1 c1 _ a1 _ g w6.drew (s6.tab.drewN 1) hp (row_drewN rZ 1) (row_drewN s6.r1 1) (by omega) (by omega)).mono ?_
    rintro e w7 ⟨rfl, ru, hb⟩
    have hb7 : Below w6.heap.size w6 w7 := (Below.refl w6.heap.size w6).drew.trans hb
    have s7 := s6.keep hb7
    exact ⟨rfl, ru, s7, hb7, s7.c0, s7.c1⟩
  have K4 : Hid (∀ w7, Row w7 (some ⟨w6.heap.size, 0, none⟩) n1 (ad (fun _ => 0) g n1 p) → St w7 w1.heap.size w.heap.size n0 n1 p q a0 a1 f g → Below w6.heap.size w6 w7 → Calls Try.prog 25 #[.pointer (some ⟨w1.heap.size, 0, none⟩), .slice (some ⟨w5.heap.size, 0, none⟩) n1 n1, .slice (some ⟨w6.heap.size, 0, none⟩) n1 n1, .int .u8 q] w7 fun e w8 =>
      e = .returned (.slice (some ⟨w7.heap.size, 0, none⟩) n1 n1) ∧ Row w8 (some ⟨w7.heap.size, 0, none⟩) n1 (ad (fun _ => 0) (ad (fun _ => 0) g n1 p) n1 q) ∧ St w8 w1.heap.size w.heap.size n0 n1 p q a0 a1 f g ∧ Below w7.heap.size w7 w8 ∧ w8.cell? ⟨w.heap.size, 0, none⟩ = some (.int .u8 (p : Int)) ∧ w8.cell? ⟨w.heap.size, 1, none⟩ = some (.int .u8 (q : Int))) := by
    intro w7 ru s7 hb7
    refine (mulAdd_row _ q n1 n1 n1 n1 _ _ _ _ w7 s7.tab hq (rZ.keep hb7) ru (by omega) (by omega)).mono ?_
    rintro e w8 ⟨rfl, rv, hb⟩
    have s8 := s7.keep hb
    exact ⟨rfl, rv, s8, hb, s8.c0, s8.c1⟩
  go_wp2
  go_region_held3 (fun w' => w'.cell? ⟨w.heap.size, 0, none⟩ = some (.int .u8 (p : Int)) ∧ w'.cell? ⟨w.heap.size, 1, none⟩ = some (.int .u8 (q : Int))) (go_keep)
    (first | (go_at_call_of 25 (Value.int IntKind.u8 (p : Int)); refine K3.out.mono ?_; rintro e w7 ⟨rfl, ru, s7, hb7, z70, z71⟩) | (go_at_call_of 25 (Value.int IntKind.u8 (q : Int)); refine (K4.out w7 ru s7 hb7).mono ?_; rintro e w8 ⟨rfl, rv, s8, hb8, z80, z81⟩))
  clear K3 K4 z60 z61 z70 z71 hmk5
  have hb68 : Below w6.heap.size w6 w8 := hb7.trans (hb8.mono hb7.size)
  have hb08 : Below w.heap.size w w8 := hb06.trans (hb68.mono hb06.size)
  have ry8 := ry6.keep hb68
  have rz8 := rz6.keep hb68
  have rZ8 := rZ.keep hb68
  clear hb06 ry6 rz6 rZ s6 s7 ru hb7 hb8
  go_wp2_with fail
  go_at_call 22
  refine (cMul _ _ s8.tab).mono ?_
  rintro e w' ⟨rfl, k1, rfl⟩
  go_wp2_with fail
  go_at_call 25
  refine (mulAdd_row _ (M p q) n1 n1 n1 c1 _ a1 _ g (w8.drewN k1) (s8.tab.drewN k1) lm (row_drewN rZ8 k1) (row_drewN s8.r1 k1) (by omega) (by omega)).mono ?_
  rintro e w9 ⟨rfl, rV, hb9⟩
  have hb89 : Below w8.heap.size w8 w9 := (below_drewN (Below.refl _ _) k1).trans hb9
  have hb09 : Below w.heap.size w w9 := hb08.trans (hb89.mono hb08.size)
  have q1 : Sem.run Try.prog (convert 35 9 (.slice (some ⟨w3.heap.size, 0, none⟩) n0 n0)) w9 = .ok (.string (str (ad f g n1 (p ^^^ q)) n0)) w9 := by
    rw [← str_congr (fun i _ => sums lg hp hq i)]
    exact conv_row (ry8.keep hb89) (fun e => by cases e)
  have q2 : Sem.run Try.prog (convert 35 9 (.slice (some ⟨w4.heap.size, 0, none⟩) n0 n0)) w9 = .ok (.string (str (ad f g n1 (p ^^^ q)) n0)) w9 := conv_row (rz8.keep hb89) (fun e => by cases e)
  have q3 : Sem.run Try.prog (convert 35 9 (.slice (some ⟨w7.heap.size, 0, none⟩) n1 n1)) w9 = .ok (.string (str (ad (fun _ => 0) g n1 (M p q)) n1)) w9 := by
    rw [← str_congr (fun i _ => prods lg hp hq i)]
    exact conv_row (rv.keep hb89) (fun e => by cases e)
  have q4 : Sem.run Try.prog (convert 35 9 (.slice (some ⟨w8.heap.size, 0, none⟩) n1 n1)) w9 = .ok (.string (str (ad (fun _ => 0) g n1 (M p q)) n1)) w9 := conv_row rV (fun e => by cases e)
  clear rV ry8 rz8 rZ8 rv s8 hb89 hb9 hb08 hb68
  generalize str (ad f g n1 (p ^^^ q)) n0 = t1 at *
  generalize str (ad (fun _ => 0) g n1 (M p q)) n1 = t2 at *
  go_wp2
  go_ret
  exact ⟨rfl, hb09⟩

/-- WHAT THE WALK IS TOLD OF A SLICE OF INTEGERS THAT CAME IN: it is nil; or it leads to a row of 'cap' cells, the numbers 'zs' (the first 'len' are its elements, the rest its spare room), each fitting its kind. -/
def IsRow (k : IntKind) (w : World) (a : Option Addr) (len cap : Nat) (zs : List Int) : Prop :=
  (a = none ∧ len = 0 ∧ cap = 0 ∧ zs = []) ∨
  ∃ x, a = some x ∧ len ≤ cap ∧ cap ≤ maxLen ∧ zs.length = cap ∧ (∀ i, i < zs.length → w.cell? (x.add i) = some (.int k (zs.getD i 0))) ∧ ∀ n ∈ zs, (Lit.int k n).wf = true

theorem isRow_row {w : World} {a : Option Addr} {len cap : Nat} {zs : List Int} (h : IsRow .u8 w a len cap zs) :
    Row w a len (fun i => (zs.getD i 0).toNat) ∧ (a = none → len = 0 ∧ cap = 0) := by
  rcases h with ⟨rfl, rfl, rfl, rfl⟩ | ⟨x, rfl, hl, hm, hz, hcell, hwf⟩
  · exact ⟨⟨fun i => by simp, fun h => absurd h (by omega)⟩, fun _ => ⟨rfl, rfl⟩⟩
  · have hb : ∀ j, 0 ≤ zs.getD j 0 ∧ zs.getD j 0 ≤ 255 := fun j => by
      have := range_u8 hwf j
      simpa [List.getD] using this
    refine ⟨⟨fun i => by have := hb i; omega, fun hn => ?_⟩, fun e => by cases e⟩
    obtain ⟨b, o, rfl, hc⟩ := ints_at hcell (by omega)
    refine ⟨b, o, rfl, fun i hi => ?_⟩
    have := hc i (by omega)
    rw [this]
    have q := hb i
    congr 2
    omega

theorem cells40 : Try.prog.cellsOf 40 = 2 := by kernel_rfl
theorem cells5 : Try.prog.cellsOf 5 = 1 := by kernel_rfl
theorem open_pair {H : Type} {enc : TypeId × Value → H} {W : World} {r : Reach} {b0 base : Nat} {sp : Nat → Bool} {held : Bool} {v : Value} {d : DataW H} {p : List MemPlace} (hv : Value.okWide Try.prog W r b0 40 v) (h : DataW.Trod enc Try.prog W base sp held 40 v d p) :
    ∃ x y : Nat, x < 256 ∧ y < 256 ∧ v = .agg #[.int .u8 (x : Int), .int .u8 (y : Int)] := by
  simp only [Value.okWide, Try.underlying40] at hv
  obtain ⟨cs, rfl, hsz, _⟩ := hv
  rw [cells40] at hsz
  obtain ⟨l⟩ := cs
  match l, hsz with
  | [e0, e1], _ =>
    obtain ⟨fuel, hf⟩ := h
    obtain ⟨xs, m, _, _, _, hlen, hel⟩ := DataW.trod_array Try.underlying40 hf
    have t0 := hel 0 (by omega)
    have t1 := hel 1 (by omega)
    rw [cells5] at t0 t1
    match xs, hlen with
    | [x0, x1], _ =>
      simp [Value.cells] at t0 t1
      obtain ⟨a, ea, _, wa⟩ := DataW.trod_int Try.underlying5 t0
      obtain ⟨b, eb, _, wb⟩ := DataW.trod_int Try.underlying5 t1
      simp at ea eb
      subst ea eb
      have ba := bounds_u8 wa
      have bb := bounds_u8 wb
      exact ⟨a.toNat, b.toNat, by omega, by omega, by rw [Int.toNat_of_nonneg ba.1, Int.toNat_of_nonneg bb.1]⟩

theorem walk (a0 : Option Addr) (len0 cap0 : Nat) (z0 : List Int) (a1 : Option Addr) (len1 cap1 : Nat) (z1 : List Int) (x y : Nat) (w : World) (w0 : IsRow .u8 w a0 len0 cap0 z0) (w1 : IsRow .u8 w a1 len1 cap1 z1) (hx : x < 256) (hy : y < 256) :
    Calls Try.prog 8 #[.slice a0 len0 cap0, .slice a1 len1 cap1, .agg #[.int .u8 (x : Int), .int .u8 (y : Int)]] w fun e w' => e = .returned (.bool true) ∧ Below w.heap.size w w' := by
  have k0 := isRow_row w0
  have k1 := isRow_row w1
  have l0 : len0 ≤ maxLen := by rcases w0 with ⟨_, rfl, _⟩ | ⟨_, _, h, k, _⟩ <;> unfold maxLen at * <;> omega
  have l1 : len1 ≤ maxLen := by rcases w1 with ⟨_, rfl, _⟩ | ⟨_, _, h, k, _⟩ <;> unfold maxLen at * <;> omega
  exact core a0 len0 cap0 _ a1 len1 cap1 _ x y w k0.1 k1.1 hx hy l0 l1

/-! ### THE ROW's STEP: WRITTEN OUT: LEAVE IT -/
set_option maxRecDepth 100000 in
theorem lifted (os : Os) (started : os.Started) (H : Type) (enc : TypeId × Value → H) :
    ReturnsInHanded {} Try.checked os 8 .any (Rows.gfLinearSpec.pre6 enc Try.prog Try.f8 Rows.gfLinearRow.domain false) (Rows.gfLinearSpec.post enc Try.prog Try.f8 false true false false) := by
  refine returnsInHanded_of_change (C := Try.checked) own started (by kernel_rfl) Try.func8
    (ChangeSpec.witness6 (enc := enc) (C := Try.checked) false ⟨#[], #[.slice none 0 0, .slice none 0 0, .agg #[.int .u8 0, .int .u8 0]], []⟩ 8 (by kernel_rfl) (by kernel_rfl) (by kernel_rfl) (by kernel_rfl)) ?_
  intro W base args ds gs before hval0 hW hcnd _
  have hval : ∀ (j : Nat) t v, Try.f8.params[j]? = some t → args[j]? = some v → Value.okWide Try.prog W .any base t v := hval0
  have hW' := hW
  obtain ⟨p, q, hA0, hV, rfl, hfz, hnd⟩ := hW
  have hA : DataW.TrodAll enc Try.prog W 0 (fun _ => true) true Try.f8.params.toList args.toList ds p := hA0
  rw [Try.params8] at hA hval
  obtain ⟨v0, vs0, d0, ds0, p0, q0, hargs, rfl, rfl, h0, r0⟩ := trodAll_cons hA
  obtain ⟨v1, vs1, d1, ds1, p1, q1, rfl, rfl, rfl, h1, r1⟩ := trodAll_cons r0
  obtain ⟨v2, vs2, d2, ds2, p2, q2, rfl, rfl, rfl, h2, r2⟩ := trodAll_cons r1
  obtain ⟨rfl, rfl, rfl⟩ := trodAll_nil r2
  obtain rfl : args = #[v0, v1, v2] := by cases args; simp_all
  obtain ⟨rfl, rfl⟩ := trodVars_none hV
  obtain ⟨a0, len0, cap0, rfl⟩ := okWide_slice Try.underlying35 (hval 0 35 v0 rfl rfl)
  have k0 := h0
  have lt0 : ∀ x ∈ p0, x.block < W.heap.size := by obtain ⟨m, hm⟩ := k0; exact DataW.trod_lt m _ _ _ hm
  obtain ⟨z0, w0⟩ : ∃ zs, IsRow .u8 W a0 len0 cap0 zs := by
    obtain ⟨fuel, hf⟩ := h0
    rcases open_ints Try.underlying35 Try.underlying5 (by kernel_rfl) hf with ⟨hcs, _⟩ | ⟨x, l, c, zs, hcs, _, hl, hm, hz, _, hcell, hwz⟩
    · simp [Value.cells] at hcs
      obtain ⟨rfl, rfl, rfl⟩ := hcs
      exact ⟨[], .inl ⟨rfl, rfl, rfl, rfl⟩⟩
    · simp [Value.cells] at hcs
      obtain ⟨rfl, rfl, rfl⟩ := hcs
      exact ⟨zs, .inr ⟨_, rfl, hl, hm, by simpa using hz, hcell, hwz⟩⟩
  obtain ⟨a1, len1, cap1, rfl⟩ := okWide_slice Try.underlying35 (hval 1 35 v1 rfl rfl)
  have k1 := h1
  have lt1 : ∀ x ∈ p1, x.block < W.heap.size := by obtain ⟨m, hm⟩ := k1; exact DataW.trod_lt m _ _ _ hm
  obtain ⟨z1, w1⟩ : ∃ zs, IsRow .u8 W a1 len1 cap1 zs := by
    obtain ⟨fuel, hf⟩ := h1
    rcases open_ints Try.underlying35 Try.underlying5 (by kernel_rfl) hf with ⟨hcs, _⟩ | ⟨x, l, c, zs, hcs, _, hl, hm, hz, _, hcell, hwz⟩
    · simp [Value.cells] at hcs
      obtain ⟨rfl, rfl, rfl⟩ := hcs
      exact ⟨[], .inl ⟨rfl, rfl, rfl, rfl⟩⟩
    · simp [Value.cells] at hcs
      obtain ⟨rfl, rfl, rfl⟩ := hcs
      exact ⟨zs, .inr ⟨_, rfl, hl, hm, by simpa using hz, hcell, hwz⟩⟩
  have k2 := h2
  have lt2 : ∀ x ∈ p2, x.block < W.heap.size := by obtain ⟨m, hm⟩ := k2; exact DataW.trod_lt m _ _ _ hm
  obtain ⟨x, y, hx, hy, rfl⟩ := open_pair (hval 2 40 v2 rfl rfl) h2
  clear hA0 hval0
  refine (walk a0 len0 cap0 z0 a1 len1 cap1 z1 x y W w0 w1 hx hy).mono fun e W' ⟨he, bel⟩ => ?_
  subst he
  exact ⟨_, rfl, _, _, _, [], _, [], hW', trodAll_mk1 (shut_bool Try.underlying4 _), (trodAll_cons_mk (Below.trod laidOut (by kernel_rfl) (of_decide_eq_true (by kernel_rfl)) k0 bel lt0) (trodAll_cons_mk (Below.trod laidOut (by kernel_rfl) (of_decide_eq_true (by kernel_rfl)) k1 bel lt1) (trodAll_cons_mk (Below.trod laidOut (by kernel_rfl) (of_decide_eq_true (by kernel_rfl)) k2 bel lt2) trodAll_mk0))), rfl, bel.frame _, fun h => by cases h⟩

theorem over : Rows.gfLinearRow.holds Try.pinned (OpenSpec.ofChange Rows.gfLinearSpec) :=
  OpenClaim.holds_of_wide 8 Try.f8 rfl rfl rfl rfl rfl rfl rfl ⟨rfl, rfl, rfl, rfl, rfl⟩ rfl rfl rfl rfl rfl (by kernel_rfl) Try.func8 (by kernel_rfl)
    (of_decide_eq_true (by kernel_rfl)) (by unfold Func.isWrapper; first | (rw [if_pos (by decide +kernel)]; kernel_rfl) | (rw [if_neg (by decide +kernel)]; exact ⟨rfl, rfl⟩))
    (fun os started H enc _ => lifted os started H enc)

end gfLinear

/-- The statement. -/
theorem gfLinear_holds : Rows.GfLinearSaid := gfLinear.over
#print axioms gfLinear_holds
end Go.Proofs.Ytfhneibncjoolaa
