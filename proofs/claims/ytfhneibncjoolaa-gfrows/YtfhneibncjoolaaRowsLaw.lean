/-
  The law GfRows of layer 1 (rows added with a factor: what is added, done twice it is as it was, nothing that was handed in is changed) answers true for every two rows and every factor.
-/
import Derived.Test.YtfhneibncjoolaaRows
import Derived.WalkKit
import Derived.ProofKit
import Derived.OpenShut
import Derived.ShutString
import Derived.ChangeOld
import Derived.Below
import Derived.Test.YtfhneibncjoolaaAwake
import Derived.Test.YtfhneibncjoolaaStr
namespace Go.Proofs.Ytfhneibncjoolaa
namespace gfRows
open Go.ChangeShapes Go.WideShapes Go.ChangeAt Go.RowKit Gf
open Go.ChangeMaps (open_string shut_string)
set_option linter.unusedVariables false

theorem own : ownKnob Try.prog.godebug = none := by kernel_rfl
theorem laidOut : laidOutB Try.prog = true := by kernel_rfl

/-- WHAT THE WALK IS TOLD OF A SLICE OF INTEGERS THAT CAME IN: it is nil; or it leads to a row of 'cap' cells, the numbers 'zs' (the first 'len' are its elements, the rest its spare room), each fitting its kind. -/
def IsRow (k : IntKind) (w : World) (a : Option Addr) (len cap : Nat) (zs : List Int) : Prop :=
  (a = none ∧ len = 0 ∧ cap = 0 ∧ zs = []) ∨
  ∃ x, a = some x ∧ len ≤ cap ∧ cap ≤ maxLen ∧ zs.length = cap ∧ (∀ i, i < zs.length → w.cell? (x.add i) = some (.int k (zs.getD i 0))) ∧ ∀ n ∈ zs, (Lit.int k n).wf = true

theorem row_drewN {w : World} {a : Option Addr} {n : Nat} {f : Nat → Nat} (h : Row w a n f) (k : Nat) : Row (w.drewN k) a n f := ⟨h.lt, h.lies⟩

theorem isRow_row {w : World} {a : Option Addr} {len cap : Nat} {zs : List Int} (h : IsRow .u8 w a len cap zs) :
    Row w a len (fun i => (zs.getD i 0).toNat) ∧ (a = none → len = 0 ∧ cap = 0) := by
  rcases h with ⟨rfl, rfl, rfl, rfl⟩ | ⟨x, rfl, hl, hm, hz, hcell, hwf⟩
  · exact ⟨⟨fun i => by simp, fun h => absurd h (by omega)⟩, fun _ => ⟨rfl, rfl⟩⟩
  · have hb : ∀ j, 0 ≤ zs.getD j 0 ∧ zs.getD j 0 ≤ 255 := fun j => by
      have := range_u8 hwf j
      simpa [List.getD] using this
    refine ⟨⟨fun i => by have := hb i; omega, fun hn => ?_⟩, fun e => by cases e⟩
    obtain ⟨b, o, rfl, hc⟩ := ints_at hcell (by omega)
    refine ⟨b, o, rfl, fun i hi => ?_⟩
    have := hc i (by omega)
    rw [this]
    have q := hb i
    congr 2
    omega

set_option maxRecDepth 100000 in
set_option maxHeartbeats 2000000 in
theorem core (a0 : Option Addr) (n0 c0 : Nat) (f : Nat → Nat) (a1 : Option Addr) (n1 c1 : Nat) (g : Nat → Nat) (c : Nat) (w : World) (h0 : Row w a0 n0 f) (h1 : Row w a1 n1 g) (m0 : a0 = none → n0 = 0 ∧ c0 = 0) (m1 : a1 = none → n1 = 0 ∧ c1 = 0) (hc : c < 256) (l0 : n0 ≤ maxLen) (l1 : n1 ≤ maxLen) :
    Calls Try.prog 6 #[.slice a0 n0 c0, .slice a1 n1 c1, .int .u8 c] w fun e w' => e = .returned (.bool true) ∧ Below w.heap.size w w' := by
  unfold maxLen at l0 l1
  by_cases hs0 : 2000 < n0
  · clear m0 m1
    go_enter Try.func6, Try.ntmps6
    go_wp2_with (go_at_call 9; refine (awake_any _).mono ?_; rintro e w1 ⟨rfl, hb1⟩)
    go_wp2
    go_ret
    exact ⟨rfl, hb1⟩
  by_cases hs1 : 2000 < n1
  · clear m0 m1
    go_enter Try.func6, Try.ntmps6
    go_wp2_with (go_at_call 9; refine (awake_any _).mono ?_; rintro e w1 ⟨rfl, hb1⟩)
    go_wp2
    go_ret
    exact ⟨rfl, hb1⟩
  have M0 : Hid _ := m0
  have M1 : Hid _ := m1
  clear m0 m1
  go_enter Try.func6, Try.ntmps6
  go_wp2_with (go_at_call 9; refine (awake_any _).mono ?_; rintro e w1 ⟨rfl, hb1⟩)
  go_wp2_with (go_at_call 10; refine (new_any _).mono ?_; rintro e w2 ⟨rfl, hu, hb2⟩)
  have ht := hu.tab
  clear hu
  have hb12 : Below w.heap.size w w2 := hb1.trans (hb2.mono hb1.size)
  have r0 : Row w2 a0 n0 f := h0.keep hb12
  have r1 : Row w2 a1 n1 g := h1.keep hb12
  clear h0 h1
  have q0 : ∀ n, Sem.run Try.prog (convert 35 9 (.slice a0 n0 c0)) (w2.drewN n) = .ok (.string (str f n0)) (w2.drewN n) := fun n => conv_row (w := w2.drewN n) ⟨r0.lt, r0.lies⟩ fun e => (M0.out e).1
  have q1 : ∀ n, Sem.run Try.prog (convert 35 9 (.slice a1 n1 c1)) (w2.drewN n) = .ok (.string (str g n1)) (w2.drewN n) := fun n => conv_row (w := w2.drewN n) ⟨r1.lt, r1.lies⟩ fun e => (M1.out e).1
  go_wp2
  go_quiet (fail)
  clear q0 q1
  have hh : ∀ i, (if i < n1 then f i ^^^ M c (g i) else f i) < 256 := fun i => by
    split
    · exact xor_lt (r0.lt i) (M_lt _ hc)
    · exact r0.lt i
  have hback : ∀ i, (if i < n1 then (if i < n1 then f i ^^^ M c (g i) else f i) ^^^ M c (g i) else (if i < n1 then f i ^^^ M c (g i) else f i)) = f i := fun i => by
    split
    · rw [Nat.xor_assoc, Nat.xor_self, Nat.xor_zero]
    · rfl
  have M3 : Hid _ := fun (w3 : World) (hc3 : ∀ i, i < n0 → w3.cell? ⟨w2.heap.size, i, none⟩ = some (.int .u8 ((if i < n1 then f i ^^^ M c (g i) else f i : Nat) : Int))) => (⟨hh, fun _ => ⟨w2.heap.size, 0, rfl, fun i hi => by rw [Nat.zero_add]; exact hc3 i hi⟩⟩ : Row w3 (some ⟨w2.heap.size, 0, none⟩) n0 _)
  go_wp2_with fail
  go_at_call 25
  refine (mulAdd_any _ c n0 c0 n1 c1 a0 a1 f g _ (ht.drewN nq) hc (row_drewN r0 nq) (row_drewN r1 nq) (by omega) (by omega)).mono ?_
  rintro e w3 ⟨rfl, hc3, hb3⟩
  have hb23 : Below w2.heap.size w2 w3 := (below_drewN (Below.refl _ _) nq).trans hb3
  have rx := M3.out w3 hc3
  have t3 := ht.keep hb23 (block_lt_of_cell ht.one)
  have r03 := r0.keep hb23
  have r13 := r1.keep hb23
  have hsz3 : w2.heap.size ≤ w3.heap.size := hb23.size
  clear hc3 hb3 ht r0 r1 M3
  go_wp2_with fail
  go_at_call 25
  refine (mulAdd_any _ c n0 n0 n1 c1 _ a1 _ g _ t3 hc rx r13 (by omega) (by omega)).mono ?_
  rintro e w4 ⟨rfl, hc4, hb4⟩
  have ry : Row w4 (some ⟨w3.heap.size, 0, none⟩) n0 f := ⟨r03.lt, fun _ => ⟨w3.heap.size, 0, rfl, fun i hi => by rw [Nat.zero_add, hc4 i hi, hback]⟩⟩
  have rx4 := rx.keep hb4
  have r04 := r03.keep hb4
  have r14 := r13.keep hb4
  have hb24 : Below w.heap.size w w4 := hb12.trans ((hb23.trans (hb4.mono hsz3)).mono hb12.size)
  clear hc4 r03 r13 rx t3
  have d0 := (row_drewN r04 1)
  have d1 := (row_drewN r14 1)
  have qx : Sem.run Try.prog (convert 35 9 (.slice (some ⟨w2.heap.size, 0, none⟩) n0 n0)) w4.drew = .ok (.string (str (fun i => if i < n1 then f i ^^^ M c (g i) else f i) n0)) w4.drew := conv_row (w := w4.drew) (row_drewN rx4 1) (fun e => by cases e)
  have C6 : Hid (Calls Try.prog 26 #[.slice a0 n0 c0, .slice a1 n1 c1, .int .u8 c] w4.drew fun e w5 => ∃ a' c', e = .returned (.slice a' n0 c') ∧ Below w4.heap.size w4 w5 ∧
    Sem.run Try.prog (convert 35 9 (.slice (some ⟨w2.heap.size, 0, none⟩) n0 n0)) w5 = .ok (.string (str (fun i => if i < n1 then f i ^^^ M c (g i) else f i) n0)) w5 ∧
    Sem.run Try.prog (convert 35 9 (.slice a' n0 c')) w5 = .ok (.string (str (fun i => if i < n1 then f i ^^^ M c (g i) else f i) n0)) w5 ∧
    Sem.run Try.prog (convert 35 9 (.slice (some ⟨w3.heap.size, 0, none⟩) n0 n0)) w5 = .ok (.string (str f n0)) w5 ∧
    Sem.run Try.prog (convert 35 9 (.slice a0 n0 c0)) w5 = .ok (.string (str f n0)) w5 ∧
    Sem.run Try.prog (convert 35 9 (.slice a1 n1 c1)) w5 = .ok (.string (str g n1)) w5) := by
    refine (rmulAdd_any c n0 c0 n1 c1 a0 a1 f g w4.drew hc d0 d1 M0.out (by omega) (by omega)).mono ?_
    rintro e w5 ⟨a', c', rfl, hfr, hb5⟩
    have hn : a' = none → n0 = 0 := by
      intro e
      rcases Nat.eq_zero_or_pos n0 with z | z
      · exact z
      · obtain ⟨_, e', _⟩ := hfr z
        rw [e] at e'; cases e'
    exact ⟨a', c', rfl, (Below.refl w4.heap.size w4).drew.trans hb5, conv_row ((row_drewN rx4 1).keep hb5) (fun e => by cases e), conv_row (hfr.row hh) hn, conv_row ((row_drewN ry 1).keep hb5) (fun e => by cases e), conv_row (d0.keep hb5) (fun e => (M0.out e).1), conv_row (d1.keep hb5) (fun e => (M1.out e).1)⟩
  generalize str (fun i => if i < n1 then f i ^^^ M c (g i) else f i) n0 = sx at *
  generalize str f n0 = sd at *
  generalize str g n1 = ss at *
  clear hback d0 d1 rx4 ry r04 r14
  go_wp2
  go_region_with (first | (go_at_call 26; refine C6.out.mono ?_; rintro e w5 ⟨a', c', rfl, hb5, q51, q52, q53, q54, q55⟩))
  all_goals
    go_wp2
    go_ret
    exact ⟨rfl, hb24.trans (hb5.mono hb24.size)⟩
theorem walk (a0 : Option Addr) (len0 cap0 : Nat) (z0 : List Int) (a1 : Option Addr) (len1 cap1 : Nat) (z1 : List Int) (a2 : Int) (w : World) (w0 : IsRow .u8 w a0 len0 cap0 z0) (w1 : IsRow .u8 w a1 len1 cap1 z1) (w2 : (Lit.int .u8 a2).wf = true) :
    Calls Try.prog 6 #[.slice a0 len0 cap0, .slice a1 len1 cap1, .int .u8 a2] w fun e w' => e = .returned (.bool true) ∧ Below w.heap.size w w' := by
  have hb := bounds_u8 w2
  obtain ⟨c, hc, rfl⟩ : ∃ c : Nat, c < 256 ∧ a2 = (c : Int) := ⟨a2.toNat, by omega, by omega⟩
  have k0 := isRow_row w0
  have k1 := isRow_row w1
  have l0 : len0 ≤ maxLen := by rcases w0 with ⟨_, rfl, _⟩ | ⟨_, _, h, k, _⟩ <;> unfold maxLen at * <;> omega
  have l1 : len1 ≤ maxLen := by rcases w1 with ⟨_, rfl, _⟩ | ⟨_, _, h, k, _⟩ <;> unfold maxLen at * <;> omega
  exact core a0 len0 cap0 _ a1 len1 cap1 _ c w k0.1 k1.1 k0.2 k1.2 hc l0 l1

/-! ### THE ROW's STEP: WRITTEN OUT: LEAVE IT -/
set_option maxRecDepth 100000 in
theorem lifted (os : Os) (started : os.Started) (H : Type) (enc : TypeId × Value → H) :
    ReturnsInHanded {} Try.checked os 6 .any (Rows.gfRowsSpec.pre6 enc Try.prog Try.f6 Rows.gfRowsRow.domain false) (Rows.gfRowsSpec.post enc Try.prog Try.f6 false true false false) := by
  refine returnsInHanded_of_change (C := Try.checked) own started (by kernel_rfl) Try.func6
    (ChangeSpec.witness6 (enc := enc) (C := Try.checked) false ⟨#[], #[.slice none 0 0, .slice none 0 0, .int .u8 0], []⟩ 8 (by kernel_rfl) (by kernel_rfl) (by kernel_rfl) (by kernel_rfl)) ?_
  intro W base args ds gs before hval0 hW hcnd _
  have hval : ∀ (j : Nat) t v, Try.f6.params[j]? = some t → args[j]? = some v → Value.okWide Try.prog W .any base t v := hval0
  have hW' := hW
  obtain ⟨p, q, hA0, hV, rfl, hfz, hnd⟩ := hW
  have hA : DataW.TrodAll enc Try.prog W 0 (fun _ => true) true Try.f6.params.toList args.toList ds p := hA0
  rw [Try.params6] at hA hval
  obtain ⟨v0, vs0, d0, ds0, p0, q0, hargs, rfl, rfl, h0, r0⟩ := trodAll_cons hA
  obtain ⟨v1, vs1, d1, ds1, p1, q1, rfl, rfl, rfl, h1, r1⟩ := trodAll_cons r0
  obtain ⟨v2, vs2, d2, ds2, p2, q2, rfl, rfl, rfl, h2, r2⟩ := trodAll_cons r1
  obtain ⟨rfl, rfl, rfl⟩ := trodAll_nil r2
  obtain rfl : args = #[v0, v1, v2] := by cases args; simp_all
  obtain ⟨rfl, rfl⟩ := trodVars_none hV
  obtain ⟨a0, len0, cap0, rfl⟩ := okWide_slice Try.underlying35 (hval 0 35 v0 rfl rfl)
  have k0 := h0
  have lt0 : ∀ x ∈ p0, x.block < W.heap.size := by obtain ⟨m, hm⟩ := k0; exact DataW.trod_lt m _ _ _ hm
  obtain ⟨z0, w0⟩ : ∃ zs, IsRow .u8 W a0 len0 cap0 zs := by
    obtain ⟨fuel, hf⟩ := h0
    rcases open_ints Try.underlying35 Try.underlying5 (by kernel_rfl) hf with ⟨hcs, _⟩ | ⟨x, l, c, zs, hcs, _, hl, hm, hz, _, hcell, hwz⟩
    · simp [Value.cells] at hcs
      obtain ⟨rfl, rfl, rfl⟩ := hcs
      exact ⟨[], .inl ⟨rfl, rfl, rfl, rfl⟩⟩
    · simp [Value.cells] at hcs
      obtain ⟨rfl, rfl, rfl⟩ := hcs
      exact ⟨zs, .inr ⟨_, rfl, hl, hm, by simpa using hz, hcell, hwz⟩⟩
  obtain ⟨a1, len1, cap1, rfl⟩ := okWide_slice Try.underlying35 (hval 1 35 v1 rfl rfl)
  have k1 := h1
  have lt1 : ∀ x ∈ p1, x.block < W.heap.size := by obtain ⟨m, hm⟩ := k1; exact DataW.trod_lt m _ _ _ hm
  obtain ⟨z1, w1⟩ : ∃ zs, IsRow .u8 W a1 len1 cap1 zs := by
    obtain ⟨fuel, hf⟩ := h1
    rcases open_ints Try.underlying35 Try.underlying5 (by kernel_rfl) hf with ⟨hcs, _⟩ | ⟨x, l, c, zs, hcs, _, hl, hm, hz, _, hcell, hwz⟩
    · simp [Value.cells] at hcs
      obtain ⟨rfl, rfl, rfl⟩ := hcs
      exact ⟨[], .inl ⟨rfl, rfl, rfl, rfl⟩⟩
    · simp [Value.cells] at hcs
      obtain ⟨rfl, rfl, rfl⟩ := hcs
      exact ⟨zs, .inr ⟨_, rfl, hl, hm, by simpa using hz, hcell, hwz⟩⟩
  obtain ⟨a2, rfl, rfl, rfl, w2⟩ := open_int Try.underlying5 (hval 2 5 v2 rfl rfl) h2
  clear hA0 hval0
  refine (walk a0 len0 cap0 z0 a1 len1 cap1 z1 a2 W w0 w1 w2).mono fun e W' ⟨he, bel⟩ => ?_
  subst he
  exact ⟨_, rfl, _, _, _, [], _, [], hW', trodAll_mk1 (shut_bool Try.underlying4 _), (trodAll_cons_mk (Below.trod laidOut (by kernel_rfl) (of_decide_eq_true (by kernel_rfl)) k0 bel lt0) (trodAll_cons_mk (Below.trod laidOut (by kernel_rfl) (of_decide_eq_true (by kernel_rfl)) k1 bel lt1) (trodAll_cons_mk (shut_int Try.underlying5 w2) trodAll_mk0))), rfl, bel.frame _, fun h => by cases h⟩

theorem over : Rows.gfRowsRow.holds Try.pinned (OpenSpec.ofChange Rows.gfRowsSpec) :=
  OpenClaim.holds_of_wide 6 Try.f6 rfl rfl rfl rfl rfl rfl rfl ⟨rfl, rfl, rfl, rfl, rfl⟩ rfl rfl rfl rfl rfl (by kernel_rfl) Try.func6 (by kernel_rfl)
    (of_decide_eq_true (by kernel_rfl)) (by unfold Func.isWrapper; first | (rw [if_pos (by decide +kernel)]; kernel_rfl) | (rw [if_neg (by decide +kernel)]; exact ⟨rfl, rfl⟩))
    (fun os started H enc _ => lifted os started H enc)

end gfRows

/-- The statement. -/
theorem gfRows_holds : Rows.GfRowsSaid := gfRows.over
#print axioms gfRows_holds
end Go.Proofs.Ytfhneibncjoolaa
