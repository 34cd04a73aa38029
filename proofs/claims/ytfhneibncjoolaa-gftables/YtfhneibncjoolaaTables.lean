/-
  The law GfTables of layer 1 (each byte but nought is two to its logarithm, each once, and its inverse has the logarithm that is left to 255) answers true for every byte.
-/
import Derived.Test.YtfhneibncjoolaaRows
import Derived.WalkKit
import Derived.ProofKit
import Derived.OpenShut
import Derived.ShutString
import Derived.ChangeOld
import Derived.Below
import Derived.Test.YtfhneibncjoolaaAwake
import Derived.Test.YtfhneibncjoolaaRef
namespace Go.Proofs.Ytfhneibncjoolaa
namespace gfTables
open Go.ChangeShapes Go.WideShapes Go.ChangeAt Go.RowKit Gf
open Go.ChangeMaps (open_string shut_string)
set_option linter.unusedVariables false

theorem own : ownKnob Try.prog.godebug = none := by kernel_rfl

theorem u8_nat {a : Int} (h : (Lit.int .u8 a).wf = true) : ∃ x : Nat, x < 256 ∧ a = (x : Int) := by
  have := bounds_u8 h
  exact ⟨a.toNat, by omega, by omega⟩

def falses : Array Value := Array.replicate 256 (.bool false)
theorem make38 (w : World) : Sem.run Try.prog (Instr.makeSlice 38 (.int .i64 256) (.int .i64 256)) w = .ok (.slice (some ⟨w.heap.size, 0, none⟩) 256 256) (w.alloc (.cells falses 4)) := by kernel_rfl
theorem falses_at (i : Nat) (h : i < 256) : falses[i]? = some (.bool false) := by
  unfold falses; rw [Array.getElem?_replicate, if_pos h]

/-- Block b of w marks the powers below k. -/
structure Seen (w : World) (b k : Nat) : Prop where
  mark : ∀ j, j < 256 → w.cell? ⟨b, j, none⟩ = some (.bool (decide (0 < j ∧ L j < k)))
  soft : ∀ j, j < 256 → w.frozen? ⟨b, j, none⟩ = false
theorem Seen.start (w : World) : Seen (w.alloc (.cells falses 4)) w.heap.size 0 :=
  ⟨fun j hj => by rw [World.cell?_alloc_new, falses_at j hj]; simp, fun j _ => World.frozen?_alloc_new _ _ _ _⟩
theorem Seen.step {w : World} {b k : Nat} (h : Seen w b k) (hk : k < 255) : Seen (w.setCell ⟨b, E k, none⟩ (.bool true)) b (k + 1) := by
  refine ⟨fun j hj => ?_, fun j hj => by rw [World.frozen?_setCell]; exact h.soft j hj⟩
  by_cases e : j = E k
  · subst e
    rw [cell_same (h.mark _ hj), decide_eq_true ⟨E_pos k, by rw [L_E]; omega⟩]
  · rw [cell_other (by omega), h.mark j hj]
    by_cases z : 0 < j
    · have l : L j ≠ k := fun q => e (by rw [← q, E_L hj z])
      congr 2
      simp only [z, true_and]
      by_cases m : L j < k
      · simp [m]; omega
      · simp [m]; omega
    · simp [z]

set_option maxRecDepth 100000 in
set_option maxHeartbeats 2000000 in
theorem walk (a0 : Int) (w0 : (Lit.int .u8 a0).wf = true) (w : World) :
    Calls Try.prog 7 #[.int .u8 a0] w fun e w' => e = .returned (.bool true) ∧ Below w.heap.size w w' := by
  obtain ⟨x, hx, rfl⟩ := u8_nat w0
  clear w0
  have hmk := make38
  go_enter Try.func7, Try.ntmps7
  go_wp2_with (go_at_call 9; refine (awake_any _).mono ?_; rintro e w1 ⟨rfl, hb1⟩)
  go_wp2_with (go_at_call 10; refine (new_any _).mono ?_; rintro e w2 ⟨rfl, hu, hb2⟩)
  have ht0 := hu.tab
  have hs12 : w1.heap.size < w2.heap.size := block_lt_of_cell ht0.one
  clear hu
  go_wp2
  go_loopw [5] (fun n wr => ∃ k : Nat, k ≤ 255 ∧ n = .int .i64 k ∧ Seen wr w2.heap.size k ∧ Tab wr w1.heap.size ∧ Below w2.heap.size w2 wr) (fun n _ => 255 - (intOf n).toNat)
  case atStart => exact ⟨0, by omega, rfl, Seen.start w2, ht0.keep ((Below.refl _ _).alloc (Nat.le_refl _) _) hs12, (Below.refl _ _).alloc (Nat.le_refl _) _⟩
  case round =>
    obtain ⟨k, hk, rfl, hs, ht, hb⟩ := hrel
    clear hmk
    by_cases hlt : k < 255
    · have hE := E_lt k
      have hp := E_pos k
      have cE : ∀ w b, Tab w b → Calls Try.prog 14 #[.pointer (some ⟨b, 0, none⟩), .int .i64 k] w fun e w' => e = .returned (.int .u8 (E k : Nat)) ∧ w = w' := by
        intro w b t
        have := exp_any b (k : Int) w t (by omega) (by omega)
        rw [show ((k : Int) % 255).toNat = k by omega] at this
        exact this
      have cL := fun w b (t : Tab w b) => log_any b (E k) w t hE
      have l : L (E k) = k := by rw [L_E]; omega
      rw [l, decide_eq_true hp] at cL
      have f1 := hs.soft (E k) hE
      have c1 := hs.mark (E k) hE
      rw [l, decide_eq_false (by omega)] at c1
      have HS : Hid (Seen (wr.setCell ⟨w2.heap.size, E k, none⟩ (.bool true)) w2.heap.size (k + 1)) := hs.step hlt
      have hz : (((E k : Nat) : Int) == 0) = false := by simp; omega
      clear hs l
      generalize E k = p at *
      go_wp2_with fail
      go_at_call 14
      refine (cE _ _ ht).mono ?_
      rintro e w3 ⟨rfl, rfl⟩
      go_wp2_with fail
      go_at_call 11
      refine (cL _ _ ht).mono ?_
      rintro e w3 ⟨rfl, rfl⟩
      go_wp2
      go_round
      case rel => exact ⟨k + 1, by omega, by go_num, HS.out, ht.keep ((Below.refl w2.heap.size _).setCell (Nat.le_refl _) _) hs12, hb.setCell (Nat.le_refl _) _⟩
      case measure => simp [intOf]; omega
    · have hbb : Below w.heap.size w wr := hb1.trans ((hb2.mono hb1.size).trans (hb.mono (Nat.le_trans hb1.size hb2.size)))
      clear hs
      by_cases hx0 : 0 < x
      · have hz : ((x : Int) == 0) = false := by simp; omega
        have l := L_lt hx hx0
        have cL := fun w b (t : Tab w b) => log_any b x w t hx
        have cI := fun w b (t : Tab w b) => inv_any b x w t hx
        rw [dv_one hx0] at cI
        rw [decide_eq_true hx0] at cL cI
        have cE : ∀ w b, Tab w b → Calls Try.prog 14 #[.pointer (some ⟨b, 0, none⟩), .int .i64 (255 - (L x : Int))] w fun e w' => e = .returned (.int .u8 (inv x : Nat)) ∧ w = w' := by
          intro w b t
          have := exp_any b (255 - (L x : Int)) w t (by omega) (by omega)
          rw [show E ((255 - (L x : Int)) % 255).toNat = inv x from E_congr (by omega)] at this
          exact this
        have cM : ∀ w b, Tab w b → Calls Try.prog 22 #[.pointer (some ⟨b, 0, none⟩), .int .u8 x, .int .u8 (inv x : Nat)] w fun e w' => e = .returned (.int .u8 1) ∧ ∃ n, w' = w.drewN n := by
          intro w b t
          have := tmul_any b x (inv x) w t hx (inv_lt x)
          rw [M_inv hx hx0] at this
          exact this
        have cP : ∀ w b, Tab w b → Calls Try.prog 13 #[.pointer (some ⟨b, 0, none⟩), .int .u8 x, .int .i64 255] w fun e w' => e = .returned (.int .u8 1) ∧ w = w' := by
          intro w b t
          have := pow_any b x 255 w t hx (by omega) (by omega)
          rw [show pw x 255 = 1 by unfold pw; rw [if_neg (by omega), if_neg (by omega), if_neg (by omega), ← E_zero]; exact E_congr (by simp)] at this
          exact this
        have cQ : ∀ w b, Tab w b → Calls Try.prog 13 #[.pointer (some ⟨b, 0, none⟩), .int .u8 x, .int .i64 254] w fun e w' => e = .returned (.int .u8 (inv x : Nat)) ∧ w = w' := by
          intro w b t
          have := pow_any b x 254 w t hx (by omega) (by omega)
          rw [show pw x 254 = inv x by unfold pw inv; rw [if_neg (by omega), if_neg (by omega), if_neg (by omega)]; exact E_congr (by show L x * 254 % 255 = _; omega)] at this
          exact this
        clear hx0
        generalize inv x = i at *
        generalize L x = l at *
        go_wp2_with fail
        go_at_call 11
        refine (cL _ _ ht).mono ?_
        rintro e w3 ⟨rfl, rfl⟩
        go_wp2_with fail
        go_at_call 16
        refine (cI _ _ ht).mono ?_
        rintro e w3 ⟨rfl, k1, rfl⟩
        go_wp2_with fail
        go_at_call 14
        refine (cE _ _ (ht.drewN _)).mono ?_
        rintro e w3 ⟨rfl, rfl⟩
        go_wp2_with fail
        go_at_call 22
        refine (cM _ _ (ht.drewN _)).mono ?_
        rintro e w3 ⟨rfl, k2, rfl⟩
        go_wp2_with fail
        go_at_call 13
        refine (cP _ _ (ht.drewN _)).mono ?_
        rintro e w3 ⟨rfl, rfl⟩
        go_wp2_with fail
        go_at_call 13
        refine (cQ _ _ (ht.drewN _)).mono ?_
        rintro e w3 ⟨rfl, rfl⟩
        go_wp2
        go_ret
        exact ⟨rfl, below_drewN hbb _⟩
      · have e : x = 0 := by omega
        subst e
        go_wp2
        go_ret
        exact ⟨rfl, hbb⟩

/-! ### THE ROW's STEP: WRITTEN OUT: LEAVE IT -/
set_option maxRecDepth 100000 in
theorem lifted (os : Os) (started : os.Started) (H : Type) (enc : TypeId × Value → H) :
    ReturnsInHanded {} Try.checked os 7 .any (Rows.gfTablesSpec.pre6 enc Try.prog Try.f7 Rows.gfTablesRow.domain false) (Rows.gfTablesSpec.post enc Try.prog Try.f7 false true false false) := by
  refine returnsInHanded_of_change (C := Try.checked) own started (by kernel_rfl) Try.func7
    (ChangeSpec.witness6 (enc := enc) (C := Try.checked) false ⟨#[], #[.int .u8 0], []⟩ 8 (by kernel_rfl) (by kernel_rfl) (by kernel_rfl) (by kernel_rfl)) ?_
  intro W base args ds gs before hval0 hW hcnd _
  have hval : ∀ (j : Nat) t v, Try.f7.params[j]? = some t → args[j]? = some v → Value.okWide Try.prog W .any base t v := hval0
  have hW' := hW
  obtain ⟨p, q, hA0, hV, rfl, hfz, hnd⟩ := hW
  have hA : DataW.TrodAll enc Try.prog W 0 (fun _ => true) true Try.f7.params.toList args.toList ds p := hA0
  rw [Try.params7] at hA hval
  obtain ⟨v0, vs0, d0, ds0, p0, q0, hargs, rfl, rfl, h0, r0⟩ := trodAll_cons hA
  obtain ⟨rfl, rfl, rfl⟩ := trodAll_nil r0
  obtain rfl : args = #[v0] := by cases args; simp_all
  obtain ⟨rfl, rfl⟩ := trodVars_none hV
  obtain ⟨a0, rfl, rfl, rfl, w0⟩ := open_int Try.underlying5 (hval 0 5 v0 rfl rfl) h0
  clear hA0 hval0
  simp only [List.append_nil] at hW'
  refine (walk a0 w0 W).mono fun e W' ⟨he, bel⟩ => ?_
  subst he
  exact ⟨_, rfl, _, _, _, [], [], [], hW', trodAll_mk1 (shut_bool Try.underlying4 _), (trodAll_cons_mk (shut_int Try.underlying5 w0) trodAll_mk0), rfl, bel.frame _, fun h => by cases h⟩

theorem over : Rows.gfTablesRow.holds Try.pinned (OpenSpec.ofChange Rows.gfTablesSpec) :=
  OpenClaim.holds_of_wide 7 Try.f7 rfl rfl rfl rfl rfl rfl rfl ⟨rfl, rfl, rfl, rfl, rfl⟩ rfl rfl rfl rfl rfl (by kernel_rfl) Try.func7 (by kernel_rfl)
    (of_decide_eq_true (by kernel_rfl)) (by unfold Func.isWrapper; first | (rw [if_pos (by decide +kernel)]; kernel_rfl) | (rw [if_neg (by decide +kernel)]; exact ⟨rfl, rfl⟩))
    (fun os started H enc _ => lifted os started H enc)

end gfTables

/-- The statement. -/
theorem gfTables_holds : Rows.GfTablesSaid := gfTables.over
#print axioms gfTables_holds
end Go.Proofs.Ytfhneibncjoolaa
