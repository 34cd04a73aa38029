/-
  The insertion sort of a part of a row of elements of k cells.
-/
import Derived.Test.YtahnkkifegdjeaaStA
import Derived.Deep.Cut
namespace Go.Proofs.Ytahnkkifegdjeaa
open Go.Shelf Go.RowKit Go.Lib Go.Sort Pg
set_option linter.unusedVariables false

set_option maxHeartbeats 8000000 in
set_option maxRecDepth 1000000 in
theorem ins_all {P : Program} {α : Type} [Inhabited α] {k : Nat} (L : Ip P k) (enc : α → List Value) (cf : α → α → Int) (hO : SWO (ltOf cf)) (g : Nat) (cb : Array Value) (blk off cap a b : Nat) (d0 d : Array α) (w0 w : World)
    (eg : ∀ args w, (callFunc g args).run P w = .ok (.enter g args) w) (hC : CmpLays P g cb enc k cf blk off d0.size w0) (R : RowK enc k w0 blk off d0) (hs : d0.size = d.size) (S : SWK enc k w0 blk off d w)
    (hab : a ≤ b) (hb : b ≤ d.size) (hsz : d.size < 1152921504606846976) :
    Calls P 36 #[.slice (some ⟨blk, off, none⟩) d.size cap, .int .i64 a, .int .i64 b, .func (.func g) #[] cb] w fun e w' => e = .returned (.tuple #[]) ∧ ∃ d', PermIn a b d d' ∧ SortedIn (ltOf cf) a b d' ∧ SWK enc k w0 blk off d' w' := by
  have mixed := L.mixed; have t0 := L.t0; have a0 := L.a0; have z0 := L.z0; have v0 := L.v0; have t3 := L.t3; have a3 := L.a3; have z3 := L.z3; have v3 := L.v3; have t4 := L.t4; have a4 := L.a4; have z4 := L.z4; have v4 := L.v4; have t22 := L.t22; have a22 := L.a22; have z22 := L.z22; have v22 := L.v22; have t60 := L.t60; have a60 := L.a60; have z60 := L.z60; have v60 := L.v60
  have aE := L.aE; have zE := L.zE
  have FG := L.f36
  have S0 : Aside (SWK enc k w0 blk off d w) := S
  have HC : Aside (CmpLays P g cb enc k cf blk off d0.size w0) := hC
  have HO : Aside (SWO (ltOf cf)) := hO
  have wa1 : IntKind.i64.wrap ((a : Int) + 1) = (a : Int) + 1 := by rw [IntKind.wrap_i64]; omega
  clear S L hC hO
  go_enter FG, Try.ntmps36
  go_wp2
  go_loopg [8] (b - a) (fun kx s8 wr => ∃ (i : Nat) (dk : Array α), s8 = .int .i64 i ∧ a + 1 ≤ i ∧ i ≤ b + 1 ∧ b + 1 - i ≤ kx ∧ dk.size = d.size ∧ Aside (SWK enc k w0 blk off dk wr) ∧ Aside (SortedIn (ltOf cf) a i dk ∧ PermIn a b d dk))
  case atStart => exact ⟨a + 1, d, by go_num, by omega, by omega, by omega, rfl, S0, ⟨fun p q h1 h2 h3 => by omega, permIn_refl _ _ _⟩⟩
  case round =>
    clear S0
    obtain ⟨i, dk, rfl, hai, hib, hkx, hds, S1, I⟩ := hrel
    by_cases hlt : i < b
    · have hltz : (i : Int) < (b : Int) := by omega
      have I0 : Aside (Ins (ltOf cf) a i i dk ∧ PermIn a b d dk) := ⟨⟨fun p q h1 h2 h3 _ h5 => I.out.1 p q h1 h2 (by omega), fun q h1 h2 => by omega⟩, I.out.2⟩
      clear I
      go_wp2
      go_loopg [9] i (fun kx2 s9 wr2 => ∃ (j : Nat) (dj : Array α), s9 = .int .i64 j ∧ a ≤ j ∧ j ≤ i ∧ j ≤ kx2 ∧ dj.size = d.size ∧ Aside (SWK enc k w0 blk off dj wr2) ∧ Aside (Ins (ltOf cf) a j i dj ∧ PermIn a b d dj))
      case atStart => exact ⟨i, dk, rfl, by omega, Nat.le_refl _, Nat.le_refl _, hds, S1, I0⟩
      case round =>
        clear S1 I0
        obtain ⟨j', dj, rfl, haj, hji, hkx2, hdj, S1, I⟩ := hrel
        by_cases hja : a < j'
        · obtain ⟨x, rfl⟩ : ∃ x, j' = x + 1 := ⟨j' - 1, by omega⟩
          have hjaz : (a : Int) < (x : Int) + 1 := by omega
          have hjad : decide ((a : Int) < (x : Int) + 1) = true := decide_eq_true hjaz
          cases hL : ltOf cf dj[x + 1]! dj[x]! with
          | true =>
            have I2 : Aside (Ins (ltOf cf) a x i (swp dj (x + 1) x) ∧ PermIn a b d (swp dj (x + 1) x)) := ⟨I.out.1.step hL (by omega) (by omega), perm_swp I.out.2 (by omega) (by omega) hb⟩
            clear I
            have ea441 : ((x : Int) + 1).toNat = x + 1 := by omega
            have pa441 : (0 : Int) ≤ (x : Int) + 1 := by omega
            have ba441 : (x : Int) + 1 < (d.size : Int) := by omega
            have ra441 : IntKind.i64.wrap ((x : Int) + 1) = (x : Int) + 1 := by rw [IntKind.wrap_i64]; omega
            have ea442 : ((x : Int)).toNat = x := by omega
            have pa442 : (0 : Int) ≤ (x : Int) := by omega
            have ba442 : (x : Int) < (d.size : Int) := by omega
            have ra442 : IntKind.i64.wrap ((x : Int)) = (x : Int) := by rw [IntKind.wrap_i64]; omega
            obtain ⟨x44, hx44⟩ : ∃ z9, z9 = dj[x + 1]! := ⟨_, rfl⟩
            obtain ⟨y44, hy44⟩ : ∃ z9, z9 = dj[x]! := ⟨_, rfl⟩
            have l44a := S1.out.ld R (by omega) P (x + 1) (by omega)
            have l44b := S1.out.ld R (by omega) P (x) (by omega)
            rw [← hx44] at l44a
            rw [← hy44] at l44b
            have hc44 := S1.out.cmp HC.out (by omega) x44 y44
            have hv44 : cf x44 y44 < 0 := by rw [hx44, hy44]; exact of_decide_eq_true hL
            have hd44 : decide (cf x44 y44 < 0) = true := decide_eq_true hv44
            clear hx44 hy44
            go_wp2_with fail
            go_quiet_grown (first | (go_at_fn g; refine Calls.grown_of (hc44 _ _)))
            have S2 : Aside (SWK enc k w0 blk off dj (grow (wr.drewN nq) osq)) := S1.out.grown nq osq
            clear l44a l44b hc44 S1
            generalize grow (wr.drewN nq) osq = w2 at S2 ⊢
            clear nq osq
            clear hL
            go_wp2_with fail
            have ea461 : ((x : Int) + 1).toNat = x + 1 := by omega
            have pa461 : (0 : Int) ≤ (x : Int) + 1 := by omega
            have ba461 : (x : Int) + 1 < (d.size : Int) := by omega
            have ra461 : IntKind.i64.wrap ((x : Int) + 1) = (x : Int) + 1 := by rw [IntKind.wrap_i64]; omega
            have ea462 : ((x : Int)).toNat = x := by omega
            have pa462 : (0 : Int) ≤ (x : Int) := by omega
            have ba462 : (x : Int) < (d.size : Int) := by omega
            have ra462 : IntKind.i64.wrap ((x : Int)) = (x : Int) := by rw [IntKind.wrap_i64]; omega
            have S3 : Aside (SWK enc k w0 blk off (swp dj (x + 1) (x)) ((w2.drew.setCells blk (off + (x + 1) * k) (enc dj[x]!)).setCells blk (off + (x) * k) (enc dj[x + 1]!))) := S2.out.swapped R (x + 1) (x) (by omega) (by omega)
            have l46a := S2.out.ld1 R (by omega) P (x + 1) (by omega)
            have l46b := S2.out.ld1 R (by omega) P (x) (by omega)
            have s46a := S2.out.st1 R (by omega) P (x + 1) (by omega) dj[x]!
            have s46b := S2.out.st2 R (by omega) P (x + 1) (x) (by omega) (by omega) dj[x]! dj[x + 1]!
            have n46a : (enc dj[x + 1]!).length = k := R.hk _
            have n46b : (enc dj[x]!).length = k := R.hk _
            generalize enc dj[x + 1]! = cI46 at S3 l46a s46b n46a
            generalize enc dj[x]! = cJ46 at S3 l46b s46a s46b n46b
            clear S2
            go_wp2_with fail
            go_big_region_o
            clear l46a l46b s46a s46b
            generalize (w2.drew.setCells blk (off + (x + 1) * k) cJ46).setCells blk (off + (x) * k) cI46 = w3 at S3 ⊢
            go_wp2
            go_roundg x
            case measure => omega
            case rel => exact ⟨x, swp dj (x + 1) x, by first | rfl | go_num | (congr 1; omega), by omega, by omega, Nat.le_refl _, by rw [size_swp]; exact hdj, S3, I2⟩
          | false =>
            have I2 : Aside (SortedIn (ltOf cf) a (i + 1) dj ∧ PermIn a b d dj) := ⟨I.out.1.stop HO.out (Or.inr (by rw [Nat.add_sub_cancel]; exact hL)), I.out.2⟩
            clear I
            have ea451 : ((x : Int) + 1).toNat = x + 1 := by omega
            have pa451 : (0 : Int) ≤ (x : Int) + 1 := by omega
            have ba451 : (x : Int) + 1 < (d.size : Int) := by omega
            have ra451 : IntKind.i64.wrap ((x : Int) + 1) = (x : Int) + 1 := by rw [IntKind.wrap_i64]; omega
            have ea452 : ((x : Int)).toNat = x := by omega
            have pa452 : (0 : Int) ≤ (x : Int) := by omega
            have ba452 : (x : Int) < (d.size : Int) := by omega
            have ra452 : IntKind.i64.wrap ((x : Int)) = (x : Int) := by rw [IntKind.wrap_i64]; omega
            obtain ⟨x45, hx45⟩ : ∃ z9, z9 = dj[x + 1]! := ⟨_, rfl⟩
            obtain ⟨y45, hy45⟩ : ∃ z9, z9 = dj[x]! := ⟨_, rfl⟩
            have l45a := S1.out.ld R (by omega) P (x + 1) (by omega)
            have l45b := S1.out.ld R (by omega) P (x) (by omega)
            rw [← hx45] at l45a
            rw [← hy45] at l45b
            have hc45 := S1.out.cmp HC.out (by omega) x45 y45
            have hv45 : ¬ cf x45 y45 < 0 := by rw [hx45, hy45]; exact of_decide_eq_false hL
            have hd45 : decide (cf x45 y45 < 0) = false := decide_eq_false hv45
            clear hx45 hy45
            go_wp2_with fail
            go_quiet_grown (first | (go_at_fn g; refine Calls.grown_of (hc45 _ _)))
            have S2 : Aside (SWK enc k w0 blk off dj (grow (wr.drewN nq) osq)) := S1.out.grown nq osq
            clear l45a l45b hc45 S1
            generalize grow (wr.drewN nq) osq = w2 at S2 ⊢
            clear nq osq
            clear hL
            go_wp2
            go_roundg (b - i)
            case measure => omega
            case rel => exact ⟨i + 1, dj, by first | rfl | go_num | (congr 1; omega), by omega, by omega, by omega, hdj, S2, I2⟩
        · have hjaz : ¬ (a : Int) < (j' : Int) := by omega
          have hjad : decide ((a : Int) < (j' : Int)) = false := decide_eq_false hjaz
          have I2 : Aside (SortedIn (ltOf cf) a (i + 1) dj ∧ PermIn a b d dj) := ⟨I.out.1.stop HO.out (Or.inl (by omega)), I.out.2⟩
          have S2 : Aside (SWK enc k w0 blk off dj wr.drew) := S1.out.drew
          clear I S1
          go_wp2_with fail
          go_big_region_o
          all_goals go_wp2
          go_roundg (b - i)
          case measure => omega
          case rel => exact ⟨i + 1, dj, by first | rfl | go_num | (congr 1; omega), by omega, by omega, by omega, hdj, S2, I2⟩
    · have hltz : ¬ (i : Int) < (b : Int) := by omega
      have I2 : Aside (SortedIn (ltOf cf) a b dk ∧ PermIn a b d dk) := ⟨sorted_sub I.out.1 (Nat.le_refl _) (by omega), I.out.2⟩
      clear I
      go_wp2
      go_end0
      exact ⟨rfl, dk, I2.out.2, I2.out.1, S1.out⟩
end Go.Proofs.Ytahnkkifegdjeaa
