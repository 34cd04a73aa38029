/-
  symMerge, where one element stands on the left.
-/
import Derived.Test.YtahnkkifegdjeaaStA
import Derived.Deep.Cut
namespace Go.Proofs.Ytahnkkifegdjeaa
open Go.Shelf Go.RowKit Go.Lib Go.Sort Pg
set_option linter.unusedVariables false

set_option maxHeartbeats 8000000 in
set_option maxRecDepth 1000000 in
theorem merge_one_l {P : Program} {α : Type} [Inhabited α] {k : Nat} (L : Ip P k) (enc : α → List Value) (cf : α → α → Int) (hO : SWO (ltOf cf)) (g : Nat) (cb : Array Value) (blk off cap a m b : Nat) (d0 d : Array α) (w0 w : World)
    (eg : ∀ args w, (callFunc g args).run P w = .ok (.enter g args) w) (hC : CmpLays P g cb enc k cf blk off d0.size w0) (R : RowK enc k w0 blk off d0) (hs : d0.size = d.size) (S : SWK enc k w0 blk off d w)
    (ham : a < m) (hmb : m < b) (hb : b ≤ d.size) (hsz : d.size < 1152921504606846976) (h1 : SortedIn (ltOf cf) a m d) (h2 : SortedIn (ltOf cf) m b d)
    (hm : m ≤ a + 1) :
    Calls P 37 #[.slice (some ⟨blk, off, none⟩) d.size cap, .int .i64 a, .int .i64 m, .int .i64 b, .func (.func g) #[] cb] w fun e w' => e = .returned (.tuple #[]) ∧ ∃ d', PermIn a b d d' ∧ SortedIn (ltOf cf) a b d' ∧ SWK enc k w0 blk off d' w' := by
  have mixed := L.mixed; have t0 := L.t0; have a0 := L.a0; have z0 := L.z0; have v0 := L.v0; have t3 := L.t3; have a3 := L.a3; have z3 := L.z3; have v3 := L.v3; have t4 := L.t4; have a4 := L.a4; have z4 := L.z4; have v4 := L.v4; have t22 := L.t22; have a22 := L.a22; have z22 := L.z22; have v22 := L.v22; have t60 := L.t60; have a60 := L.a60; have z60 := L.z60; have v60 := L.v60; have t65 := L.t65; have a65 := L.a65; have z65 := L.z65; have v65 := L.v65
  have aE := L.aE; have zE := L.zE
  have FG := L.f37
  have S0 : Aside (SWK enc k w0 blk off d w) := S
  have HC : Aside (CmpLays P g cb enc k cf blk off d0.size w0) := hC
  have HO : Aside (SWO (ltOf cf)) := hO
  have H1 : Aside (SortedIn (ltOf cf) a m d) := h1
  have H2 : Aside (SortedIn (ltOf cf) m b d) := h2
  have HE : Aside (m = a + 1) := by show m = a + 1; omega
  have hq : ((m : Int) - (a : Int) == 1) = true := by simp; omega
  clear S L hC hO h1 h2
  go_enter FG, Try.ntmps37
  go_wp2
  go_loopg [10, 11] (b - m) (fun kx s8 s9 wr => ∃ (i j : Nat), s8 = .int .i64 i ∧ s9 = .int .i64 j ∧ m ≤ i ∧ i ≤ j ∧ j ≤ b ∧ j - i ≤ kx ∧ Aside (SWK enc k w0 blk off d wr) ∧ Aside ((∀ t, m ≤ t → t < i → ltOf cf d[t]! d[a]! = true) ∧ (∀ t, j ≤ t → t < b → ltOf cf d[t]! d[a]! = false)))
  case atStart => exact ⟨m, b, rfl, rfl, by omega, by omega, by omega, by omega, S0, ⟨fun t h3 h4 => by omega, fun t h3 h4 => by omega⟩⟩
  case round =>
    clear S0
    obtain ⟨i, j, rfl, rfl, hmi, hij, hjb, hkx, S1, I⟩ := hrel
    by_cases hlt : i < j
    · have hltz : (i : Int) < (j : Int) := by omega
      obtain ⟨h, hh⟩ : ∃ h, h = (i + j) / 2 := ⟨_, rfl⟩
      have hih : i ≤ h := by omega
      have hhj : h < j := by omega
      have eh : ((i : Int) + (j : Int)) / 2 = (h : Int) := by omega
      have HH : Hid (((i : Int) + (j : Int)) / 2 = (h : Int)) := eh
      clear hh
      have wz : IntKind.i64.wrap ((i : Int) + (j : Int)) = (i : Int) + (j : Int) := by rw [IntKind.wrap_i64]; omega
      cases hL : ltOf cf d[h]! d[a]! with
      | true =>
        have ea441 : ((h : Int)).toNat = h := by omega
        have pa441 : (0 : Int) ≤ (h : Int) := by omega
        have ba441 : (h : Int) < (d.size : Int) := by omega
        have ra441 : IntKind.i64.wrap ((h : Int)) = (h : Int) := by rw [IntKind.wrap_i64]; omega
        have ea442 : ((a : Int)).toNat = a := by omega
        have pa442 : (0 : Int) ≤ (a : Int) := by omega
        have ba442 : (a : Int) < (d.size : Int) := by omega
        have ra442 : IntKind.i64.wrap ((a : Int)) = (a : Int) := by rw [IntKind.wrap_i64]; omega
        obtain ⟨x44, hx44⟩ : ∃ z9, z9 = d[h]! := ⟨_, rfl⟩
        obtain ⟨y44, hy44⟩ : ∃ z9, z9 = d[a]! := ⟨_, rfl⟩
        have l44a := S1.out.ld R (by omega) P (h) (by omega)
        have l44b := S1.out.ld R (by omega) P (a) (by omega)
        rw [← hx44] at l44a
        rw [← hy44] at l44b
        have hc44 := S1.out.cmp HC.out (by omega) x44 y44
        have hv44 : cf x44 y44 < 0 := by rw [hx44, hy44]; exact of_decide_eq_true hL
        have hd44 : decide (cf x44 y44 < 0) = true := decide_eq_true hv44
        clear hx44 hy44
        go_wp2_with fail
        go_quiet_grown (first | (go_at_fn g; refine Calls.grown_of (hc44 _ _)))
        have S2 : Aside (SWK enc k w0 blk off d (grow (wr.drewN nq) osq)) := S1.out.grown nq osq
        clear l44a l44b hc44 S1
        generalize grow (wr.drewN nq) osq = w2 at S2 ⊢
        clear nq osq
        have I2 : Aside ((∀ t, m ≤ t → t < h + 1 → ltOf cf d[t]! d[a]! = true) ∧ (∀ t, j ≤ t → t < b → ltOf cf d[t]! d[a]! = false)) := by
          have e := HE.out
          exact ⟨fun t q1 q2 => up_more HO.out (sorted_sub H2.out (by omega) (Nat.le_refl _)) (by omega) hL t (by omega) q2, I.out.2⟩
        clear hL I
        go_wp2
        go_roundg (j - (h + 1))
        case measure => omega
        case rel => exact ⟨h + 1, j, by first | rfl | go_num | (congr 1; omega), rfl, by omega, by omega, hjb, Nat.le_refl _, S2, I2⟩
      | false =>
        have ea451 : ((h : Int)).toNat = h := by omega
        have pa451 : (0 : Int) ≤ (h : Int) := by omega
        have ba451 : (h : Int) < (d.size : Int) := by omega
        have ra451 : IntKind.i64.wrap ((h : Int)) = (h : Int) := by rw [IntKind.wrap_i64]; omega
        have ea452 : ((a : Int)).toNat = a := by omega
        have pa452 : (0 : Int) ≤ (a : Int) := by omega
        have ba452 : (a : Int) < (d.size : Int) := by omega
        have ra452 : IntKind.i64.wrap ((a : Int)) = (a : Int) := by rw [IntKind.wrap_i64]; omega
        obtain ⟨x45, hx45⟩ : ∃ z9, z9 = d[h]! := ⟨_, rfl⟩
        obtain ⟨y45, hy45⟩ : ∃ z9, z9 = d[a]! := ⟨_, rfl⟩
        have l45a := S1.out.ld R (by omega) P (h) (by omega)
        have l45b := S1.out.ld R (by omega) P (a) (by omega)
        rw [← hx45] at l45a
        rw [← hy45] at l45b
        have hc45 := S1.out.cmp HC.out (by omega) x45 y45
        have hv45 : ¬ cf x45 y45 < 0 := by rw [hx45, hy45]; exact of_decide_eq_false hL
        have hd45 : decide (cf x45 y45 < 0) = false := decide_eq_false hv45
        clear hx45 hy45
        go_wp2_with fail
        go_quiet_grown (first | (go_at_fn g; refine Calls.grown_of (hc45 _ _)))
        have S2 : Aside (SWK enc k w0 blk off d (grow (wr.drewN nq) osq)) := S1.out.grown nq osq
        clear l45a l45b hc45 S1
        generalize grow (wr.drewN nq) osq = w2 at S2 ⊢
        clear nq osq
        have I2 : Aside ((∀ t, m ≤ t → t < i → ltOf cf d[t]! d[a]! = true) ∧ (∀ t, h ≤ t → t < b → ltOf cf d[t]! d[a]! = false)) := by
          have e := HE.out
          exact ⟨I.out.1, fun t q1 q2 => up_less HO.out (sorted_sub H2.out (by omega) (Nat.le_refl _)) (by omega) hL t q1 q2⟩
        clear hL I
        go_wp2
        go_roundg (h - i)
        case measure => omega
        case rel => exact ⟨i, h, rfl, by first | rfl | go_num | (congr 1; omega), by omega, by omega, by omega, Nat.le_refl _, S2, I2⟩
    · have hltz : ¬ (i : Int) < (j : Int) := by omega
      obtain rfl : i = j := by omega
      have I2 : Aside (∀ d', Up a (i - 1) d d' → SortedIn (ltOf cf) a b d') := by
        have e := HE.out
        exact fun d' hu => up_sorted HO.out hu (by omega) hjb (sorted_sub H2.out (by omega) (Nat.le_refl _)) (fun t q1 q2 => I.out.1 t (by omega) q2) I.out.2
      clear I H1 H2 HO HC
      go_wp2
      go_loopg [13] (i - 1 - a) (fun kx s8 wr => ∃ (x : Nat) (dk : Array α), s8 = .int .i64 x ∧ a ≤ x ∧ x + 1 ≤ i ∧ i - 1 - x ≤ kx ∧ dk.size = d.size ∧ Aside (SWK enc k w0 blk off dk wr) ∧ Aside (Up a x d dk ∧ PermIn a b d dk))
      case atStart => exact ⟨a, d, rfl, by omega, by omega, by omega, rfl, S1, ⟨Up.zero _ _, permIn_refl _ _ _⟩⟩
      case round =>
        clear S1
        obtain ⟨x, dk, rfl, hax, hxi, hkx, hds, S1, U⟩ := hrel
        have wi : IntKind.i64.wrap ((i : Int) - 1) = (i : Int) - 1 := by rw [IntKind.wrap_i64]; omega
        by_cases hlt2 : x + 1 < i
        · have hltz2 : (x : Int) < (i : Int) - 1 := by omega
          have U2 : Aside (Up a (x + 1) d (swp dk x (x + 1)) ∧ PermIn a b d (swp dk x (x + 1))) := ⟨U.out.1.step hax (by omega), perm_swp U.out.2 (by omega) (by omega) hb⟩
          clear U
          have ea461 : ((x : Int)).toNat = x := by omega
          have pa461 : (0 : Int) ≤ (x : Int) := by omega
          have ba461 : (x : Int) < (d.size : Int) := by omega
          have ra461 : IntKind.i64.wrap ((x : Int)) = (x : Int) := by rw [IntKind.wrap_i64]; omega
          have ea462 : ((x : Int) + 1).toNat = x + 1 := by omega
          have pa462 : (0 : Int) ≤ (x : Int) + 1 := by omega
          have ba462 : (x : Int) + 1 < (d.size : Int) := by omega
          have ra462 : IntKind.i64.wrap ((x : Int) + 1) = (x : Int) + 1 := by rw [IntKind.wrap_i64]; omega
          have S2 : Aside (SWK enc k w0 blk off (swp dk (x) (x + 1)) ((wr.drew.setCells blk (off + (x) * k) (enc dk[x + 1]!)).setCells blk (off + (x + 1) * k) (enc dk[x]!))) := S1.out.swapped R (x) (x + 1) (by omega) (by omega)
          have l46a := S1.out.ld1 R (by omega) P (x) (by omega)
          have l46b := S1.out.ld1 R (by omega) P (x + 1) (by omega)
          have s46a := S1.out.st1 R (by omega) P (x) (by omega) dk[x + 1]!
          have s46b := S1.out.st2 R (by omega) P (x) (x + 1) (by omega) (by omega) dk[x + 1]! dk[x]!
          have n46a : (enc dk[x]!).length = k := R.hk _
          have n46b : (enc dk[x + 1]!).length = k := R.hk _
          generalize enc dk[x]! = cI46 at S2 l46a s46b n46a
          generalize enc dk[x + 1]! = cJ46 at S2 l46b s46a s46b n46b
          clear S1
          go_wp2_with fail
          go_big_region_o
          clear l46a l46b s46a s46b
          generalize (wr.drew.setCells blk (off + (x) * k) cJ46).setCells blk (off + (x + 1) * k) cI46 = w2 at S2 ⊢
          go_wp2
          go_roundg (i - 1 - (x + 1))
          case measure => omega
          case rel => exact ⟨x + 1, swp dk x (x + 1), by first | rfl | go_num | (congr 1; omega), by omega, by omega, Nat.le_refl _, by rw [size_swp]; exact hds, S2, U2⟩
        · have hltz2 : ¬ (x : Int) < (i : Int) - 1 := by omega
          have e : x = i - 1 := by omega
          have R1 : Hid (SortedIn (ltOf cf) a b dk) := I2.out dk (by rw [← e]; exact U.out.1)
          clear e
          go_wp2
          refine bodyPost_ret (results_none rfl _ _ _) rfl ?_
          exact ⟨rfl, dk, U.out.2, R1.out, S1.out⟩
end Go.Proofs.Ytahnkkifegdjeaa
