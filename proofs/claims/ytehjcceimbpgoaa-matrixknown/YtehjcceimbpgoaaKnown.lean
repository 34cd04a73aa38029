/-
  The law MatrixKnown of layer 2 (chapter 2's example; what is no matrix, what has no inverse, what is too great) answers true.
-/
import Derived.Test.YtehjcceimbpgoaaRows
import Derived.WalkKit
import Derived.ProofKit
import Derived.OpenShut
import Derived.ShutString
import Derived.ChangeOld
import Derived.Below
import Derived.Test.YtehjcceimbpgoaaInts
namespace Go.Proofs.Ytehjcceimbpgoaa
namespace matrixKnown
open Go.ChangeShapes Go.WideShapes Go.ChangeAt Go.RowKit Gf
set_option linter.unusedVariables false
attribute [local go_sem ↓] Go.wp_at_zero Go.wp_at_succ

theorem own : ownKnob Try.prog.godebug = none := by kernel_rfl
theorem laidOut : laidOutB Try.prog = true := by kernel_rfl

theorem hop {a b c : World} (h : Below a.heap.size a b) (k : Below b.heap.size b c) : Below a.heap.size a c := h.trans (k.mono h.size)

/-- The cells of a row that is written out. -/
def lcells (l : List Nat) : Array Value := (l.map fun x => Value.int .u8 ((x : Nat) : Int)).toArray
def lrow (l : List Nat) : Nat → Nat := fun i => l.getD i 0
theorem lit_row (w : World) (l : List Nat) (h : ∀ i, lrow l i < 256) : Row (w.alloc (.cells (lcells l) 5)) (some ⟨w.heap.size, 0, none⟩) l.length (lrow l) := by
  refine ⟨h, fun _ => ⟨w.heap.size, 0, rfl, fun i hi => ?_⟩⟩
  rw [Nat.zero_add, World.cell?_alloc_new]
  unfold lcells lrow
  simp [hi, List.getD]
theorem lit_mat (w : World) (cs : Array Value) (n l : Nat) (A : Nat → Option Addr) (F : Nat → Nat → Nat) (hc : ∀ i, i < n → cs[i]? = some (.slice (A i) l l)) (hr : ∀ i, i < n → Row w (A i) l (F i)) (hs : ∀ i, i < n → A i ≠ none) (hl : l ≤ 9223372036854775807) (hF : B F) :
    Mat (w.alloc (.cells cs 27)) (some ⟨w.heap.size, 0, none⟩) n A (fun _ => l) (fun _ => l) F :=
  ⟨fun _ => ⟨w.heap.size, 0, rfl, fun i hi => by rw [Nat.zero_add, World.cell?_alloc_new]; exact hc i hi⟩, fun i hi => (hr i hi).keep ((Below.refl _ _).alloc (Nat.le_refl _) _), fun i hi e => absurd e (hs i hi), fun _ => hl, hF⟩

theorem keep_alloc {w : World} (o : Obj) : Below w.heap.size w (w.alloc o) := (Below.refl _ _).alloc (Nat.le_refl _) _
theorem nil_mat (w : World) (c : Nat) : Mat w none 0 (fun _ => none) (fun _ => 0) (fun _ => 0) (fun _ _ => 0) :=
  ⟨fun h => absurd h (by omega), fun i hi => absurd hi (by omega), fun i hi => absurd hi (by omega), fun _ => by omega, fun _ _ => by omega⟩

/-- One row. -/
theorem one_row (w : World) (l : List Nat) (h : ∀ i, lrow l i < 256) (hl : l.length ≤ 9223372036854775807) :
    Mat ((w.alloc (.cells (lcells l) 5)).alloc (.cells #[.slice (some ⟨w.heap.size, 0, none⟩) l.length l.length] 27)) (some ⟨w.heap.size + 1, 0, none⟩) 1 (fun _ => some ⟨w.heap.size, 0, none⟩) (fun _ => l.length) (fun _ => l.length) (fun _ => lrow l) := by
  have := lit_mat (w.alloc (.cells (lcells l) 5)) #[.slice (some ⟨w.heap.size, 0, none⟩) l.length l.length] 1 l.length (fun _ => some ⟨w.heap.size, 0, none⟩) (fun _ => lrow l) (fun i hi => by rw [show i = 0 by omega]; rfl) (fun i _ => lit_row w l h) (fun _ _ e => by cases e) hl (fun _ j => h j)
  simpa using this
/-- Two rows. -/
theorem two_rows (w : World) (l k : List Nat) (h : ∀ i, lrow l i < 256) (h' : ∀ i, lrow k i < 256) (hl : l.length ≤ 9223372036854775807) (e : k.length = l.length) :
    Mat (((w.alloc (.cells (lcells l) 5)).alloc (.cells (lcells k) 5)).alloc (.cells #[.slice (some ⟨w.heap.size, 0, none⟩) l.length l.length, .slice (some ⟨w.heap.size + 1, 0, none⟩) l.length l.length] 27)) (some ⟨w.heap.size + 1 + 1, 0, none⟩) 2 (fun i => if i = 0 then some ⟨w.heap.size, 0, none⟩ else some ⟨w.heap.size + 1, 0, none⟩) (fun _ => l.length) (fun _ => l.length) (fun i => if i = 0 then lrow l else lrow k) := by
  have := lit_mat ((w.alloc (.cells (lcells l) 5)).alloc (.cells (lcells k) 5)) #[.slice (some ⟨w.heap.size, 0, none⟩) l.length l.length, .slice (some ⟨w.heap.size + 1, 0, none⟩) l.length l.length] 2 l.length (fun i => if i = 0 then some ⟨w.heap.size, 0, none⟩ else some ⟨w.heap.size + 1, 0, none⟩) (fun i => if i = 0 then lrow l else lrow k)
    (fun i hi => by
      rcases (show i = 0 ∨ i = 1 by omega) with rfl | rfl <;> rfl)
    (fun i hi => by
      rcases (show i = 0 ∨ i = 1 by omega) with rfl | rfl
      · exact (lit_row w l h).keep (keep_alloc _)
      · have := lit_row (w.alloc (.cells (lcells l) 5)) k h'
        rw [e] at this
        simpa using this) (fun i _ => by split <;> (intro e; cases e)) hl (fun i j => by dsimp only; split; exact h j; exact h' j)
  simpa using this

theorem lt12 : ∀ i, lrow [1, 2] i < 256 := fun i => by
  match i with
  | 0 => decide
  | 1 => decide
  | i + 2 => simp [lrow, List.getD]
theorem lt3 : ∀ i, lrow [3] i < 256 := fun i => by
  match i with
  | 0 => decide
  | i + 1 => simp [lrow, List.getD]
theorem lt4 : ∀ i, lrow [4] i < 256 := fun i => by
  match i with
  | 0 => decide
  | i + 1 => simp [lrow, List.getD]

theorem kInvert (w : World) : Calls Try.prog 10 #[.slice (some ⟨w.heap.size + 1 + 1, 0, none⟩) 2 2] (((w.alloc (.cells #[.int .u8 1, .int .u8 2] 5)).alloc (.cells #[.int .u8 1, .int .u8 2] 5)).alloc (.cells #[.slice (some ⟨w.heap.size, 0, none⟩) 2 2, .slice (some ⟨w.heap.size + 1, 0, none⟩) 2 2] 27)) fun e w' =>
    e = .returned (.tuple #[.slice none 0 0, .bool false]) ∧ Below w.heap.size w w' := by
  have m := two_rows w [1, 2] [1, 2] lt12 lt12 (by decide) rfl
  refine (invert_any _ 2 2 _ _ _ _ _ m (by unfold maxLen; omega)).mono ?_
  rintro e w' ⟨hcase, hb⟩
  have hb0 : Below w.heap.size w w' := (hop (hop (keep_alloc _) (keep_alloc _)) (keep_alloc _)).trans (hb.mono (by simp; omega))
  rcases hcase with ⟨rfl, _⟩ | ⟨h, X, rfl, _, _, _, ox, iv⟩
  · exact ⟨rfl, hb0⟩
  · exfalso
    have hi := iv.inj m.lt ox.lt
    have := hi (lrow [2, 1]) (fun i => by
      match i with
      | 0 => decide
      | 1 => decide
      | i + 2 => simp [lrow, List.getD]) (fun i hi => by
      rcases (show i = 0 ∨ i = 1 by omega) with rfl | rfl <;> decide +kernel) 0 (by omega)
    revert this; decide

theorem kMulNo (w : World) : Calls Try.prog 11 #[.slice (some ⟨w.heap.size + 1, 0, none⟩) 1 1, .slice (some ⟨w.heap.size + 1 + 1 + 1, 0, none⟩) 1 1] ((((w.alloc (.cells #[.int .u8 1, .int .u8 2] 5)).alloc (.cells #[.slice (some ⟨w.heap.size, 0, none⟩) 2 2] 27)).alloc (.cells #[.int .u8 1, .int .u8 2] 5)).alloc (.cells #[.slice (some ⟨w.heap.size + 1 + 1, 0, none⟩) 2 2] 27)) fun e w' =>
    e = .returned (.tuple #[.slice none 0 0, .bool false]) ∧ Below w.heap.size w w' := by
  have m1 := one_row w [1, 2] lt12 (by decide)
  have m2 := one_row ((w.alloc (.cells #[.int .u8 1, .int .u8 2] 5)).alloc (.cells #[.slice (some ⟨w.heap.size, 0, none⟩) 2 2] 27)) [1, 2] lt12 (by decide)
  simp only [World.size_alloc] at m2
  have hk := hop (keep_alloc (w := (w.alloc (.cells #[.int .u8 1, .int .u8 2] 5)).alloc (.cells #[.slice (some ⟨w.heap.size, 0, none⟩) 2 2] 27)) (.cells #[.int .u8 1, .int .u8 2] 5)) (keep_alloc (.cells #[.slice (some ⟨w.heap.size + 1 + 1, 0, none⟩) 2 2] 27))
  refine (mxMul_no _ _ 1 1 1 1 _ _ (fun _ => 2) (fun _ => 2) _ _ _ _ _ (Mat.keep m1 hk) m2 (by unfold maxLen; omega) (by unfold maxLen; omega) (fun q => by have := q.2.2; omega)).mono ?_
  rintro e w' ⟨rfl, rfl⟩
  exact ⟨rfl, hop (hop (keep_alloc _) (keep_alloc _)) hk⟩

theorem kMulYes (w : World) : Calls Try.prog 11 #[.slice (some ⟨w.heap.size + 1, 0, none⟩) 1 1, .slice (some ⟨w.heap.size + 1 + 1 + 1 + 1, 0, none⟩) 2 2] (((((w.alloc (.cells #[.int .u8 1, .int .u8 2] 5)).alloc (.cells #[.slice (some ⟨w.heap.size, 0, none⟩) 2 2] 27)).alloc (.cells #[.int .u8 3] 5)).alloc (.cells #[.int .u8 4] 5)).alloc (.cells #[.slice (some ⟨w.heap.size + 1 + 1, 0, none⟩) 1 1, .slice (some ⟨w.heap.size + 1 + 1 + 1, 0, none⟩) 1 1] 27)) fun e w' =>
    ∃ h b o c, e = .returned (.tuple #[.slice (some ⟨h, 0, none⟩) 1 1, .bool true]) ∧ w'.cell? ⟨h, 0, none⟩ = some (.slice (some ⟨b, o, none⟩) 1 c) ∧ w'.cell? ⟨b, o, none⟩ = some (.int .u8 11) ∧ Below w.heap.size w w' := by
  have m1 := one_row w [1, 2] lt12 (by decide)
  have m2 := two_rows ((w.alloc (.cells #[.int .u8 1, .int .u8 2] 5)).alloc (.cells #[.slice (some ⟨w.heap.size, 0, none⟩) 2 2] 27)) [3] [4] lt3 lt4 (by decide) rfl
  simp only [World.size_alloc] at m2
  have hk := hop (hop (keep_alloc (w := (w.alloc (.cells #[.int .u8 1, .int .u8 2] 5)).alloc (.cells #[.slice (some ⟨w.heap.size, 0, none⟩) 2 2] 27)) (.cells #[.int .u8 3] 5)) (keep_alloc (.cells #[.int .u8 4] 5))) (keep_alloc (.cells #[.slice (some ⟨w.heap.size + 1 + 1, 0, none⟩) 1 1, .slice (some ⟨w.heap.size + 1 + 1 + 1, 0, none⟩) 1 1] 27))
  refine (mxMul_yes _ _ 1 2 1 2 _ _ (fun _ => 2) (fun _ => 1) _ _ _ _ _ (Mat.keep m1 hk) m2 (isM_const (by omega) (by omega) (by omega) (by omega)) (isM_const (by omega) (by omega) (by omega) (by omega)) rfl).mono ?_
  rintro e w' ⟨h, rfl, _, ⟨A, C, m, _, _⟩, hb⟩
  have c0 := m.cellAt (i := 0) (by omega)
  obtain ⟨b, o, hA, hr⟩ := (m.row 0 (by omega)).lies (by omega)
  rw [hA] at c0
  have c1 := hr 0 (by omega)
  have e11 : mm 2 (fun _ => lrow [1, 2]) (fun i => if i = 0 then lrow [3] else lrow [4]) 0 0 = 11 := by decide +kernel
  rw [e11, Nat.add_zero] at c1
  exact ⟨h, b, o, C 0, rfl, c0, c1, (hop (hop (keep_alloc _) (keep_alloc _)) hk).trans (hb.mono (by simp; omega))⟩

theorem ints_lit (w : World) : IRow (w.alloc (.cells #[.int .i64 0, .int .i64 2] 3)) (some ⟨w.heap.size, 0, none⟩) 2 (fun i => if i = 0 then 0 else 2) := fun _ =>
  ⟨w.heap.size, 0, rfl, fun i hi => by
    rw [Nat.zero_add, World.cell?_alloc_new]
    rcases (show i = 0 ∨ i = 1 by omega) with rfl | rfl <;> rfl⟩

theorem kSquare (w : World) : Calls Try.prog 15 #[.slice (some ⟨w.heap.size + 1, 0, none⟩) 1 1] ((w.alloc (.cells #[.int .u8 1, .int .u8 2] 5)).alloc (.cells #[.slice (some ⟨w.heap.size, 0, none⟩) 2 2] 27)) fun e w' =>
    e = .returned (.bool false) ∧ Below w.heap.size w w' := by
  refine (square_no _ 1 1 _ (fun _ => 2) _ _ _ (one_row w [1, 2] lt12 (by decide)) (by unfold maxLen; omega) (fun q => by have := q.2; omega)).mono ?_
  rintro e w' ⟨rfl, rfl⟩
  exact ⟨rfl, hop (keep_alloc _) (keep_alloc _)⟩

set_option maxRecDepth 100000 in
set_option maxHeartbeats 4000000 in
theorem core (w : World) :
    Calls Try.prog 3 #[] w fun e w' => e = .returned (.bool true) ∧ Below w.heap.size w w' := by
  go_enter Try.func3, Try.ntmps3
  go_wp2_with fail
  go_at_call 9
  refine (awake_any _).mono ?_
  rintro e w1 ⟨rfl, b1⟩
  go_wp2_with fail
  go_at_call 10
  refine (kInvert w1).mono ?_
  rintro e w2 ⟨rfl, b2⟩
  have b02 := hop b1 b2
  go_wp2_with fail
  go_at_call 11
  refine (kMulNo w2).mono ?_
  rintro e w3 ⟨rfl, b3⟩
  have b03 := hop b02 b3
  go_wp2_with fail
  go_at_call 13
  refine (unit_yes 2 w3 (by omega) (by omega)).mono ?_
  rintro e w4 ⟨rfl, g4, b4⟩
  have b04 := hop b03 b4
  have cR := rows_any (some ⟨w3.heap.size, 0, none⟩) (some ⟨w4.heap.size, 0, none⟩) 2 2 2 2 _ _ _ one (fun i => if i = 0 then 0 else 2) _ ((g4.mat (by omega) one_B).keep (keep_alloc _)) (ints_lit w4) (isM_const (by omega) (by omega) (by omega) (by omega)) (by omega) (by omega) (fun i _ => by split <;> omega)
  clear g4
  go_wp2_with fail
  go_at_call 12
  refine cR.mono ?_
  rintro e w5 ⟨hcase, b5⟩
  clear cR
  have b45 : Below w4.heap.size w4 w5 := hop (keep_alloc _) b5
  have b05 := hop b04 b45
  rcases hcase with ⟨hall, _⟩ | ⟨_, rfl⟩
  · exfalso
    have := hall 1 (by omega)
    simp at this
  clear b5 b45
  go_wp2_with fail
  go_at_call 13
  refine (unit_yes 2 w5 (by omega) (by omega)).mono ?_
  rintro e w6 ⟨rfl, g6, b6⟩
  have b06 := hop b05 b6
  have cN := rows_none (some ⟨w5.heap.size, 0, none⟩) 2 2 _ _ _ one w6 (g6.mat (by omega) one_B) (isM_const (by omega) (by omega) (by omega) (by omega))
  clear g6
  go_wp2_with fail
  go_at_call 12
  refine cN.mono ?_
  rintro e w' ⟨rfl, rfl⟩
  clear cN
  go_wp2_with fail
  go_at_call 14
  refine (systematic_no 200 56 w6 (by omega) (by omega)).mono ?_
  rintro e w' ⟨rfl, rfl⟩
  go_wp2_with fail
  go_at_call 14
  refine (systematic_no 0 1 w6 (by omega) (by omega)).mono ?_
  rintro e w' ⟨rfl, rfl⟩
  go_wp2_with fail
  go_at_call 11
  refine (kMulYes w6).mono ?_
  rintro e w7 ⟨h7, b, o, c, rfl, d1, d2, b7⟩
  have b07 := hop b06 b7
  go_wp2_with fail
  go_at_call 15
  refine (kSquare w7).mono ?_
  rintro e w8 ⟨rfl, b8⟩
  have b08 := hop b07 b8
  go_wp2_with fail
  go_at_call 15
  refine (square_no none 0 0 _ _ _ _ w8 (nil_mat w8 0) (by unfold maxLen; omega) (fun q => by have := q.1.1; omega)).mono ?_
  rintro e w' ⟨rfl, rfl⟩
  go_wp2_with fail
  go_at_call 13
  refine (unit_no 0 w8 (by omega)).mono ?_
  rintro e w' ⟨rfl, rfl⟩
  go_wp2_with fail
  go_at_call 16
  refine (vander_no 256 1 w8 (by omega)).mono ?_
  rintro e w9 ⟨rfl, b9⟩
  have b09 := hop b08 b9
  go_wp2
  go_ret
  exact ⟨rfl, b09⟩


set_option maxRecDepth 100000 in
theorem lifted (os : Os) (started : os.Started) (H : Type) (enc : TypeId × Value → H) :
    ReturnsInHanded {} Try.checked os 3 .any (Rows.matrixKnownSpec.pre6 enc Try.prog Try.f3 Rows.matrixKnownRow.domain false) (Rows.matrixKnownSpec.post enc Try.prog Try.f3 false true false false) := by
  refine returnsInHanded_of_change (C := Try.checked) own started (by kernel_rfl) Try.func3
    (ChangeSpec.witness6 (enc := enc) (C := Try.checked) false ⟨#[], #[], []⟩ 8 (by kernel_rfl) (by kernel_rfl) (by kernel_rfl) (by kernel_rfl)) ?_
  intro W base args ds gs before hval0 hW hcnd _
  have hval : ∀ (j : Nat) t v, Try.f3.params[j]? = some t → args[j]? = some v → Value.okWide Try.prog W .any base t v := hval0
  have hW' := hW
  obtain ⟨p, q, hA0, hV, rfl, hfz, hnd⟩ := hW
  have hA : DataW.TrodAll enc Try.prog W 0 (fun _ => true) true Try.f3.params.toList args.toList ds p := hA0
  rw [Try.params3] at hA hval
  obtain ⟨hargs, rfl, rfl⟩ := trodAll_nil hA
  obtain rfl : args = #[] := by cases args; simp_all
  obtain ⟨rfl, rfl⟩ := trodVars_none hV
  clear hA0 hval0
  refine (core  W ).mono fun e W' ⟨he, bel⟩ => ?_
  subst he
  exact ⟨_, rfl, _, _, _, [], _, [], hW', trodAll_mk1 (shut_bool Try.underlying4 _), trodAll_mk0, rfl, bel.frame _, fun h => by cases h⟩

theorem over : Rows.matrixKnownRow.holds Try.pinned (OpenSpec.ofChange Rows.matrixKnownSpec) :=
  OpenClaim.holds_of_wide 3 Try.f3 rfl rfl rfl rfl rfl rfl rfl ⟨rfl, rfl, rfl, rfl, rfl⟩ rfl rfl rfl rfl rfl (by kernel_rfl) Try.func3 (by kernel_rfl)
    (of_decide_eq_true (by kernel_rfl)) (by unfold Func.isWrapper; first | (rw [if_pos (by decide +kernel)]; kernel_rfl) | (rw [if_neg (by decide +kernel)]; exact ⟨rfl, rfl⟩))
    (fun os started H enc _ => lifted os started H enc)

end matrixKnown

/-- The statement. -/
theorem matrixKnown_holds : Rows.MatrixKnownSaid := matrixKnown.over
#print axioms matrixKnown_holds
end Go.Proofs.Ytehjcceimbpgoaa
