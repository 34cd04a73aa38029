/-
  The law NameOrder of layer 6 (of any three texts it is one order; two are neither way round just if they are the same) answers true for all texts, where the tables of unicode/utf8 are as the program's text and the library lay them.
-/
import Derived.Test.YtighljdeaofanaaDoorRows
import Derived.WalkKit
import Derived.ProofKit
import Derived.OpenShut
import Derived.ShutString
import Derived.ChangeOld
import Derived.Below
import Derived.SizedLaws
import Derived.LaidMore
import Derived.Lay
import Derived.ChangeMaps5
import Derived.Stop.Joined
import Derived.SevenTiedAt
import Derived.Test.YtighljdeaofanaaDoorCards
import Derived.Test.YtighljdeaofanaaDoorTie
import Derived.Test.YtighljdeaofanaaDoorLd
import Derived.Test.YtighljdeaofanaaDoorOp6
namespace Go.Proofs.YtighljdeaofanaaDoor
namespace nameOrder
open Go.ChangeShapes Go.WideShapes Go.ChangeAt Go.RowKit Go.Proofs.YtighljdeaofanaaDoor.Nm
set_option linter.unusedVariables false
attribute [local go_sem ↓] Go.wp_at_zero Go.wp_at_succ

theorem own : ownKnob Tryd.prog.godebug = none := by kernel_rfl
theorem laidOut : laidOutB Tryd.prog = true := by kernel_rfl

theorem bdn (w : World) (n : Nat) : Below w.heap.size w (w.drewN n) := ⟨rfl, rfl, rfl, Nat.le_refl _, fun _ _ => rfl⟩
/-- The i-th of three texts. -/
def S3 (a b c : ByteArray) (i : Nat) : ByteArray := if i = 0 then a else if i = 1 then b else c
theorem box3 (w : World) (a b c : ByteArray) (i : Nat) (hi : i < 3) : (w.alloc (.cells #[.string a, .string b, .string c] 28)).cell? ⟨w.heap.size, i, none⟩ = some (.string (S3 a b c i)) := by
  rw [World.cell?_alloc_new]
  match i, hi with
  | 0, _ => rfl
  | 1, _ => rfl
  | 2, _ => rfl
set_option maxRecDepth 100000 in
set_option maxHeartbeats 4000000 in
theorem core (a b c : ByteArray) (w : World) (T : Tabs w) (ha : a.size ≤ maxLen) (hb : b.size ≤ maxLen) (hc : c.size ≤ maxLen) :
    Calls Tryd.prog 7 #[.agg #[.string a, .string b, .string c]] w fun e w' => e = .returned (.bool true) ∧ Below w.heap.size w w' := by
  unfold maxLen at ha hb hc
  have hS : ∀ i, (S3 a b c i).size ≤ 9223372036854775807 := fun i => by unfold S3; split; omega; split <;> omega
  obtain ⟨W0, hW0⟩ : ∃ W, w.alloc (.cells #[.string a, .string b, .string c] 28) = W := ⟨_, rfl⟩
  have kb0 : Below w.heap.size w W0 := by rw [← hW0]; exact bal _ _
  have cl0 : ∀ i, i < 3 → W0.cell? ⟨w.heap.size, i, none⟩ = some (.string (S3 a b c i)) := fun i hi => by rw [← hW0]; exact box3 w a b c i hi
  have hlt0 : w.heap.size < W0.heap.size := block_lt_of_cell (cl0 0 (by omega))
  have c0 := awake_any W0 (T.keep kb0)
  clear T
  go_enter Tryd.func7, Tryd.ntmps7
  go_wp2_with fail
  go_at_call 9
  refine c0.mono ?_
  rintro e w1 ⟨rfl, k1⟩
  have kb := hop kb0 k1
  have HC : Hid (∀ i, i < 3 → w1.cell? ⟨w.heap.size, i, none⟩ = some (.string (S3 a b c i))) := fun i hi => (k1.cell (p := ⟨w.heap.size, i, none⟩) hlt0).trans (cl0 i hi)
  have HS : Hid (∀ i, (S3 a b c i).size ≤ 9223372036854775807) := hS
  clear c0 hS cl0 hlt0 kb0 k1 hW0
  go_wp2
  go_loopw [3] (fun i wr => ∃ k : Nat, k ≤ 3 ∧ i = .int .i64 (k : Int) ∧ w1 = wr) (fun i _ => 3 - (intOf i).toNat)
  case atStart => exact ⟨0, by omega, rfl, rfl⟩
  case round =>
    obtain ⟨k, hk, rfl, rfl⟩ := hrel
    by_cases hlt : k < 3
    · have i1 : (k : Int) < 3 := by omega
      have i2 : (0 ≤ (k : Int) ∧ (k : Int) < 3) := ⟨by omega, by omega⟩
      have hcl := HC.out k hlt
      have hsz := HS.out k
      generalize S3 a b c k = A at *
      by_cases hl : 1000 < A.size
      · have g1 : (1000 : Int) < (A.size : Int) := by omega
        go_wp2
        go_ret
        exact ⟨rfl, kb⟩
      · have g1 : decide ((1000 : Int) < (A.size : Int)) = false := decide_eq_false (by omega)
        go_wp2
        go_round
        case rel => exact ⟨k + 1, by omega, by go_num, by first | rfl | trivial⟩
        case measure => simp [intOf]; omega
    · have i1 : ¬ ((k : Int) < 3) := by omega
      clear hlt hk
      go_wp2
      go_loopw [4] (fun i wr => ∃ (k : Nat) (q : Nat), k ≤ 3 ∧ i = .int .i64 (k : Int) ∧ wr = w1.drewN q) (fun i _ => 3 - (intOf i).toNat)
      case atStart => exact ⟨0, 0, by omega, rfl, rfl⟩
      case round =>
        obtain ⟨i, q, hi3, rfl, rfl⟩ := hrel
        clear i1
        by_cases hlt : i < 3
        · have i1 : (i : Int) < 3 := by omega
          have i2 : (0 ≤ (i : Int) ∧ (i : Int) < 3) := ⟨by omega, by omega⟩
          have hcl := HC.out i hlt
          obtain ⟨A, hA⟩ : ∃ A, S3 a b c i = A := ⟨_, rfl⟩
          rw [hA] at hcl
          clear hA
          go_wp2
          go_loopw [5] (fun i wr => ∃ (k : Nat) (q : Nat), k ≤ 3 ∧ i = .int .i64 (k : Int) ∧ wr = w1.drewN q) (fun i _ => 3 - (intOf i).toNat)
          case atStart => exact ⟨0, q, by omega, rfl, rfl⟩
          case round =>
            obtain ⟨j, p, hj3, rfl, rfl⟩ := hrel
            by_cases hltj : j < 3
            · have j1 : (j : Int) < 3 := by omega
              have j2 : (0 ≤ (j : Int) ∧ (j : Int) < 3) := ⟨by omega, by omega⟩
              have hclj := HC.out j hltj
              obtain ⟨B, hB⟩ : ∃ B, S3 a b c j = B := ⟨_, rfl⟩
              rw [hB] at hclj
              clear hB
              cases hL : ls (tx A) (tx B) with
              | true =>
                have hM := ls_both _ _ hL
                have hne : (A.toList == B.toList) = false := by
                  rw [tx_beq]; exact decide_eq_false fun e => by rw [e, ls_same] at hL; cases hL
                have HT : Hid (∀ C, ls (tx B) (tx C) = true → ls (tx A) (tx C) = true) := fun C h => ls_trans _ _ _ hL h
                go_wp2
                go_quiet ((go_at_call 19; refine (less_any _ _ _).mono ?_; rintro e w9 ⟨rfl, rfl⟩; exact ⟨rfl, _, rfl⟩))
                go_wp2
                go_quiet (fail)
                go_wp2
                go_loopw [8] (fun i wr => ∃ (k : Nat) (q : Nat), k ≤ 3 ∧ i = .int .i64 (k : Int) ∧ wr = w1.drewN q) (fun i _ => 3 - (intOf i).toNat)
                case atStart => exact ⟨0, _, by omega, rfl, by rw [World.drewN_drewN, World.drewN_drewN]⟩
                case round =>
                  obtain ⟨k, n, hk3, rfl, rfl⟩ := hrel
                  by_cases hltk : k < 3
                  · have k1 : (k : Int) < 3 := by omega
                    have k2 : (0 ≤ (k : Int) ∧ (k : Int) < 3) := ⟨by omega, by omega⟩
                    have hclk := HC.out k hltk
                    obtain ⟨C, hC⟩ : ∃ C, S3 a b c k = C := ⟨_, rfl⟩
                    rw [hC] at hclk
                    clear hC
                    cases hN : ls (tx B) (tx C) with
                    | true =>
                      have hO := HT.out C hN
                      go_wp2
                      go_quiet ((go_at_call 19; refine (less_any _ _ _).mono ?_; rintro e w9 ⟨rfl, rfl⟩; exact ⟨rfl, _, rfl⟩))
                      go_wp2
                      go_round
                      case rel => exact ⟨k + 1, _, by omega, by go_num, by first | rfl | rw [World.drewN_drewN]⟩
                      case measure => simp [intOf]; omega
                    | false =>
                      go_wp2
                      go_quiet ((go_at_call 19; refine (less_any _ _ _).mono ?_; rintro e w9 ⟨rfl, rfl⟩; exact ⟨rfl, _, rfl⟩))
                      go_wp2
                      go_round
                      case rel => exact ⟨k + 1, _, by omega, by go_num, by first | rfl | rw [World.drewN_drewN]⟩
                      case measure => simp [intOf]; omega
                  · have k1 : ¬ ((k : Int) < 3) := by omega
                    go_wp2
                    go_round
                    case rel => exact ⟨j + 1, _, by omega, by go_num, rfl⟩
                    case measure => simp [intOf]; omega
              | false =>
                cases hM : ls (tx B) (tx A) with
                | true =>
                  have hne : (A.toList == B.toList) = false := by
                    rw [tx_beq]; exact decide_eq_false fun e => by rw [e, ls_same] at hM; cases hM
                  go_wp2
                  go_quiet ((go_at_call 19; refine (less_any _ _ _).mono ?_; rintro e w9 ⟨rfl, rfl⟩; exact ⟨rfl, _, rfl⟩))
                  go_wp2
                  go_quiet (fail)
                  go_wp2
                  go_loopw [8] (fun i wr => ∃ (k : Nat) (q : Nat), k ≤ 3 ∧ i = .int .i64 (k : Int) ∧ wr = w1.drewN q) (fun i _ => 3 - (intOf i).toNat)
                  case atStart => exact ⟨0, _, by omega, rfl, by rw [World.drewN_drewN, World.drewN_drewN]⟩
                  case round =>
                    obtain ⟨k, n, hk3, rfl, rfl⟩ := hrel
                    by_cases hltk : k < 3
                    · have k1 : (k : Int) < 3 := by omega
                      go_wp2
                      go_quiet (fail)
                      go_wp2
                      go_round
                      case rel => exact ⟨k + 1, _, by omega, by go_num, by first | rfl | rw [World.drewN_drewN]⟩
                      case measure => simp [intOf]; omega
                    · have k1 : ¬ ((k : Int) < 3) := by omega
                      go_wp2
                      go_round
                      case rel => exact ⟨j + 1, _, by omega, by go_num, rfl⟩
                      case measure => simp [intOf]; omega
                | false =>
                  obtain rfl : A = B := tx_inj (ls_none _ _ hL hM)
                  clear hM
                  go_wp2
                  go_quiet ((go_at_call 19; refine (less_any _ _ _).mono ?_; rintro e w9 ⟨rfl, rfl⟩; exact ⟨rfl, _, rfl⟩))
                  go_wp2
                  go_quiet (fail)
                  go_wp2
                  go_loopw [8] (fun i wr => ∃ (k : Nat) (q : Nat), k ≤ 3 ∧ i = .int .i64 (k : Int) ∧ wr = w1.drewN q) (fun i _ => 3 - (intOf i).toNat)
                  case atStart => exact ⟨0, _, by omega, rfl, by rw [World.drewN_drewN, World.drewN_drewN]⟩
                  case round =>
                    obtain ⟨k, n, hk3, rfl, rfl⟩ := hrel
                    by_cases hltk : k < 3
                    · have k1 : (k : Int) < 3 := by omega
                      go_wp2
                      go_quiet (fail)
                      go_wp2
                      go_round
                      case rel => exact ⟨k + 1, _, by omega, by go_num, by first | rfl | rw [World.drewN_drewN]⟩
                      case measure => simp [intOf]; omega
                    · have k1 : ¬ ((k : Int) < 3) := by omega
                      go_wp2
                      go_round
                      case rel => exact ⟨j + 1, _, by omega, by go_num, rfl⟩
                      case measure => simp [intOf]; omega
            · have j1 : ¬ ((j : Int) < 3) := by omega
              go_wp2
              go_round
              case rel => exact ⟨i + 1, _, by omega, by go_num, rfl⟩
              case measure => simp [intOf]; omega
        · have i1 : ¬ ((i : Int) < 3) := by omega
          go_wp2
          go_ret
          exact ⟨rfl, hop kb (bdn _ _)⟩


set_option maxRecDepth 100000 in
theorem lifted (os : Os) (started : os.Started) (H : Type) (enc : TypeId × Value → H) :
    ReturnsInHanded {} Tryd.checked os 7 .any (fun w args => (Rows.nameOrderSpec.pre enc Tryd.prog Tryd.f7 [] false w args ∧ laidMetH Tryd.prog laidAll w) ∧ sizedMet enc Tryd.prog Tryd.f7 (OpenSpec.ofChange Rows.nameOrderSpec) false w args) (Rows.nameOrderSpec.post enc Tryd.prog Tryd.f7 false true false false) := by
  refine returnsInHanded_of_change_and (C := Tryd.checked) (X := fun w _ => laidMetH Tryd.prog laidAll w) (fun _ _ _ hh h => h.of_heap hh) own started (by kernel_rfl) Tryd.func7
    (ChangeSpec.witness_shaped (enc := enc) (C := Tryd.checked) (os := os) (X := fun w _ => laidMetH Tryd.prog laidAll w) false (World.laidAll Tryd.prog os laidAll) #[.agg #[.string ⟨#[]⟩, .string ⟨#[]⟩, .string ⟨#[]⟩]] 8 (World.laidAll_os _ _ _) (World.shaped_of_ZipB (by kernel_rfl) (by kernel_rfl)) (by kernel_rfl) (by kernel_rfl) (by kernel_rfl) (door_met os _)) ?_
  intro W base args ds gs before hval0 hW _ hsz0 hL _
  have hval : ∀ (j : Nat) t v, Tryd.f7.params[j]? = some t → args[j]? = some v → Value.okWide Tryd.prog W .any base t v := hval0
  have hW' := hW
  obtain ⟨p, q, hA0, hV, rfl, hfz, hnd⟩ := hW
  have hA : DataW.TrodAll enc Tryd.prog W 0 (fun _ => true) true Tryd.f7.params.toList args.toList ds p := hA0
  rw [Tryd.params7] at hA hval
  have T := tabs_of hL
  obtain ⟨v0, vs0, d0, ds0, p0, q0, hargs, rfl, rfl, h0, r0⟩ := trodAll_cons hA
  obtain ⟨rfl, rfl, rfl⟩ := trodAll_nil r0
  obtain rfl : args = #[v0] := by cases args; simp_all
  obtain ⟨rfl, rfl⟩ := trodVars_none hV
  have k0 := h0
  have lt0 : ∀ x ∈ p0, x.block < W.heap.size := by obtain ⟨m, hm⟩ := k0; exact DataW.trod_lt m _ _ _ hm
  obtain ⟨a0, b0, c0, e0, f0, g0, rfl⟩ := open_three (hval 0 28 v0 rfl rfl) h0
  clear hA0 hval0 hsz0 hL
  refine (core a0 b0 c0 W T e0 f0 g0).mono fun e W' ⟨he, bel⟩ => ?_
  subst he
  exact ⟨_, rfl, _, _, _, [], _, [], hW', trodAll_mk1 (shut_bool Tryd.underlying4 _), (trodAll_cons_mk (Below.trod laidOut (by kernel_rfl) (of_decide_eq_true (by kernel_rfl)) k0 bel lt0) trodAll_mk0), rfl, bel.frame _, fun h => by cases h⟩

theorem over : Rows.nameOrderRow.holds Tryd.pinned (OpenSpec.ofChange Rows.nameOrderSpec) :=
  OpenClaim.holds_of_wide 7 Tryd.f7 rfl rfl rfl rfl rfl rfl rfl ⟨rfl, rfl, rfl, rfl, rfl⟩ rfl rfl rfl rfl rfl (by kernel_rfl) Tryd.func7 (by kernel_rfl)
    (of_decide_eq_true (by kernel_rfl)) (by unfold Func.isWrapper; first | (rw [if_pos (by decide +kernel)]; kernel_rfl) | (rw [if_neg (by decide +kernel)]; exact ⟨rfl, rfl⟩))
    (fun os started H enc _ => lifted os started H enc)

end nameOrder

/-- The statement. -/
theorem nameOrder_holds : Rows.NameOrderCardSaid :=
  Claim7.holds_tied_plain_at .later [] [.data, .pinned] true (true, "2f6212f6c483f1dfb9692a65611a80a7d1f005e09cc4019013308721e6861ca3") false
    nameOrder.over (fun _ h => by cases h) (by kernel_rfl) (fun _ h => by cases h) nameOrder_row_tie rfl ⟨rfl, rfl⟩ (by kernel_rfl) rfl
    (fun f fn hf hfn => by
      obtain rfl : f = 7 := Option.some.inj ((show Tryd.prog.funcNamed "strongbox/strongboxlaw6.NameOrder" = some 7 by kernel_rfl).symm.trans hf) |>.symm
      obtain rfl : fn = Tryd.f7 := (Option.some.inj (Tryd.func7.symm.trans hfn)).symm
      exact ⟨by kernel_rfl, fun j t ht => by
        rw [Tryd.params7] at ht
        have hm : t ∈ [28] := by simpa using Array.mem_of_getElem? ht
        have hall : ([28].all fun u => !Tryd.prog.wantsStandIn u) = true := by kernel_rfl
        exact (show Tryd.prog.wantsStandIn t = false by simpa using List.all_eq_true.1 hall t hm)⟩)
    (by kernel_rfl)
#print axioms nameOrder_holds
end Go.Proofs.YtighljdeaofanaaDoor
