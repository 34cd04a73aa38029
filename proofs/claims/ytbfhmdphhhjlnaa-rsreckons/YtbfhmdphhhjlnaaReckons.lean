/-
  The law RsReckons of layer 3 (any numbers, any rows: what is made of them, made again, whether they fit; or why not) answers true for every two numbers and rows.
-/
import Derived.Test.YtbfhmdphhhjlnaaRows
import Derived.WalkKit
import Derived.ProofKit
import Derived.OpenShut
import Derived.ShutString
import Derived.ChangeOld
import Derived.Below
import Derived.SizedLaws
import Derived.Test.YtbfhmdphhhjlnaaRReb
import Derived.Test.YtbfhmdphhhjlnaaRVer
namespace Go.Proofs.Ytbfhmdphhhjlnaa
namespace rsReckons
open Go.ChangeShapes Go.WideShapes Go.ChangeAt Go.RowKit Gf
set_option linter.unusedVariables false
attribute [local go_sem ↓] Go.wp_at_zero Go.wp_at_succ

theorem own : ownKnob Try.prog.godebug = none := by kernel_rfl
theorem laidOut : laidOutB Try.prog = true := by kernel_rfl

/-- What is known of the rows that the program's Rebuild answers. -/
def RG (k un lu : Nat) (S F G : Nat → Nat → Nat) (P : Nat → Bool) (t : Nat → Nat) : Prop :=
  (∀ i, i < un → P i = true → ∀ j, j < lu → G i j = F i j) ∧ ((∀ i, i < un → P i = true) ∨ ∃ Y, IsInv k (fun i => S (t i)) Y ∧ B Y ∧ ∀ i, i < un → P i = false → ∀ j, j < lu → G i j = mm k S (mm k Y (fun x => F (t x))) i j)

theorem RG.alike {k un lu : Nat} {S T F G H : Nat → Nat → Nat} {P : Nat → Bool} {t : Nat → Nat} (hS : IsSys k S) (hT : IsSys k T) (a : RG k un lu S F G P t) (b : RG k un lu T F H P t) : ∀ i, i < un → ∀ j, j < lu → G i j = H i j := fun i hi j hj => by
  cases hp : P i with
  | true => rw [a.1 i hi hp j hj, b.1 i hi hp j hj]
  | false =>
    rcases a.2 with z | ⟨Y, iY, lY, hY⟩
    · rw [z i hi] at hp; cases hp
    · rcases b.2 with z | ⟨Z, iZ, lZ, hZ⟩
      · rw [z i hi] at hp; cases hp
      · rw [hY i hi hp j hj, hZ i hi hp j hj]
        have bS : B (fun i => S (t i)) := fun _ _ => hS.lt _ _
        have iZ' : IsInv k (fun i => S (t i)) Z := iZ.congr (fun x _ u hu => (hS.same hT _ u hu).symm) (fun _ _ _ _ => rfl)
        have e := iY.unique iZ' bS lY lZ
        exact mm_congr (fun u hu => hS.same hT _ u hu) (fun u hu => mm_congr (fun x hx => e u hu x hx) (fun _ _ => rfl))

theorem reb_rg {w' : World} {k N : Nat} {S F : Nat → Nat → Nat} {L : Nat → Nat} {e : Ending} (h : RebEnd w' k N S L F e) (hS : IsSys k S) (hF : B F) {g2 : Int} {un : Nat}
    (q1 : ¬ (∀ i, i < (th (isT L N) N).length → L (ti (isT L N) N i) = L (ti (isT L N) N 0)) → g2 = 1 ∧ un = 0) (q2 : (∀ i, i < (th (isT L N) N).length → L (ti (isT L N) N i) = L (ti (isT L N) N 0)) → (th (isT L N) N).length < k → g2 = 2 ∧ un = 0) (q3 : (∀ i, i < (th (isT L N) N).length → L (ti (isT L N) N i) = L (ti (isT L N) N 0)) → k ≤ (th (isT L N) N).length → g2 = 0 ∧ un = N) (hle : ∀ i, L i ≤ 9223372036854775807) :
    ∃ ua uc AU CU GU, e = .returned (.tuple #[.slice ua un uc, .int .i64 g2]) ∧ Mat w' ua un AU (fun _ => L (ti (isT L N) N 0)) CU GU ∧ RG k un (L (ti (isT L N) N 0)) S F GU (isT L N) (ti (isT L N) N) := by
  have none0 : Mat w' none 0 (fun _ => none) (fun _ => L (ti (isT L N) N 0)) (fun _ => 0) F := ⟨fun h => absurd h (by omega), fun i hi => absurd hi (by omega), fun i hi => absurd hi (by omega), fun _ => hle _, hF⟩
  rcases h with ⟨rfl, hno⟩ | ⟨rfl, ha, hs⟩ | ⟨ha, hk, h, A', C', G, rfl, m, hG, hc⟩
  · obtain ⟨rfl, rfl⟩ := q1 hno
    exact ⟨none, 0, _, _, F, rfl, none0, fun i hi => absurd hi (by omega), .inl fun i hi => absurd hi (by omega)⟩
  · obtain ⟨rfl, rfl⟩ := q2 ha hs
    exact ⟨none, 0, _, _, F, rfl, none0, fun i hi => absurd hi (by omega), .inl fun i hi => absurd hi (by omega)⟩
  · obtain ⟨rfl, rfl⟩ := q3 ha hk
    refine ⟨_, _, A', C', G, rfl, m, fun i hi hp j _ => hG i hi hp j, ?_⟩
    rcases hc with z | ⟨Y, iY, lY, hY⟩
    · exact .inl z
    · refine .inr ⟨Y, iY, lY, fun i hi hp j hj => ?_⟩
      rw [hY i hi hp j hj, mm_assoc hS.lt lY (fun _ _ => hF _ _)]

theorem rend_rg {w' : World} {k N : Nat} {S F : Nat → Nat → Nat} {L : Nat → Nat} {e : Ending} (h : REnd w' k N S L F e) (hF : B F) {g2 : Int} {un : Nat}
    (q1 : ¬ (∀ i, i < (th (isT L N) N).length → L (ti (isT L N) N i) = L (ti (isT L N) N 0)) → g2 = 1 ∧ un = 0) (q2 : (∀ i, i < (th (isT L N) N).length → L (ti (isT L N) N i) = L (ti (isT L N) N 0)) → (th (isT L N) N).length < k → g2 = 2 ∧ un = 0) (q3 : (∀ i, i < (th (isT L N) N).length → L (ti (isT L N) N i) = L (ti (isT L N) N 0)) → k ≤ (th (isT L N) N).length → g2 = 0 ∧ un = N) (hle : ∀ i, L i ≤ 9223372036854775807) :
    ∃ ua uc AU CU GU, e = .returned (.tuple #[.slice ua un uc, .int .i64 g2]) ∧ Mat w' ua un AU (fun _ => L (ti (isT L N) N 0)) CU GU ∧ RG k un (L (ti (isT L N) N 0)) S F GU (isT L N) (ti (isT L N) N) := by
  have none0 : Mat w' none 0 (fun _ => none) (fun _ => L (ti (isT L N) N 0)) (fun _ => 0) F := ⟨fun h => absurd h (by omega), fun i hi => absurd hi (by omega), fun i hi => absurd hi (by omega), fun _ => hle _, hF⟩
  rcases h with ⟨rfl, hno⟩ | ⟨rfl, ha, hs⟩ | ⟨ha, hk, a, c, A', C', G, rfl, m, hG, hc⟩
  · obtain ⟨rfl, rfl⟩ := q1 hno
    exact ⟨none, 0, _, _, F, rfl, none0, fun i hi => absurd hi (by omega), .inl fun i hi => absurd hi (by omega)⟩
  · obtain ⟨rfl, rfl⟩ := q2 ha hs
    exact ⟨none, 0, _, _, F, rfl, none0, fun i hi => absurd hi (by omega), .inl fun i hi => absurd hi (by omega)⟩
  · obtain ⟨rfl, rfl⟩ := q3 ha hk
    exact ⟨a, c, A', C', G, rfl, m, hG, hc⟩

set_option maxRecDepth 100000 in
set_option maxHeartbeats 8000000 in
theorem core (x1 x2 : Int) (a : Option Addr) (n c : Nat) (A : Nat → Option Addr) (L C : Nat → Nat) (F : Nat → Nat → Nat) (w : World) (lo1 : -9223372036854775808 ≤ x1) (hi1 : x1 ≤ 9223372036854775807) (lo2 : -9223372036854775808 ≤ x2) (hi2 : x2 ≤ 9223372036854775807) (h : Mat w a n A L C F) (hn : n ≤ maxLen) (hnc : n ≤ c) (hL : ∀ i, i < n → L i ≤ 140737488355328) :
    Calls Try.prog 4 #[.int .i64 x1, .int .i64 x2, .slice a n c] w fun e w' => e = .returned (.bool true) ∧ Below w.heap.size w w' := by
  have HM : Hid (Mat w a n A L C F) := h
  have HL : Hid (∀ i, i < n → L i ≤ 140737488355328) := hL
  have HLe : Hid (∀ i, L i ≤ 9223372036854775807) := h.le
  have HF : Hid (B F) := h.lt
  have cSm := fun w h => small_any a n c A L C F w h hn hL
  clear h hL
  unfold maxLen at hn
  go_enter Try.func4, Try.ntmps4
  go_wp2_with fail
  go_at_call 9
  refine (awake_any _).mono ?_
  rintro e w1 ⟨rfl, b1⟩
  have HM1 : Hid (Mat w1 a n A L C F) := HM.out.keep b1
  go_wp2_with fail
  go_at_call 14
  refine (cSm w1 HM1.out).mono ?_
  rintro e w' ⟨hcase, rfl⟩
  clear cSm
  rcases hcase with rfl | ⟨rfl, h300, h4000⟩
  · go_wp2
    go_ret
    exact ⟨rfl, b1⟩
  clear h4000
  by_cases h30 : 30 < x1
  · have g1 : decide ((30 : Int) < x1) = true := decide_eq_true h30
    go_wp2
    go_ret
    exact ⟨rfl, b1⟩
  have g1 : decide ((30 : Int) < x1) = false := decide_eq_false h30
  by_cases h30' : 30 < x2
  · have g2 : decide ((30 : Int) < x2) = true := decide_eq_true h30'
    go_wp2
    go_ret
    exact ⟨rfl, b1⟩
  have g2 : decide ((30 : Int) < x2) = false := decide_eq_false h30'
  by_cases hpos : 1 ≤ x1 ∧ 1 ≤ x2
  rotate_left
  · have c1 := rnew_no x1 x2 w1 hi2 (fun z => hpos ⟨z.1, z.2.1⟩)
    have c2 := refnew_no x1 x2 w1 (by omega) (by omega) hpos
    clear hpos
    go_wp2_with fail
    go_at_call 10
    refine c1.mono ?_
    rintro e w' ⟨rfl, rfl⟩
    go_wp2_with fail
    go_at_call 15
    refine c2.mono ?_
    rintro e w' ⟨rfl, rfl⟩
    go_wp2
    go_ret
    exact ⟨rfl, b1⟩
  obtain ⟨p1, p2⟩ := hpos
  obtain ⟨k, rfl⟩ : ∃ k : Nat, x1 = (k : Int) := ⟨x1.toNat, by omega⟩
  obtain ⟨m, rfl⟩ : ∃ m : Nat, x2 = (m : Int) := ⟨x2.toNat, by omega⟩
  have k30 : k ≤ 30 := by omega
  have m30 : m ≤ 30 := by omega
  have k1 : 1 ≤ k := by omega
  have m1 : 1 ≤ m := by omega
  go_wp2_with fail
  go_at_call 10
  refine (rnew_yes k m w1 k1 m1 (by omega)).mono ?_
  rintro e w2 ⟨p, S, rfl, _, hcode, b2⟩
  have HC2 : Hid (Code w2 p k (k + m) S) := hcode
  have HS : Hid (IsSys k S) := hcode.sys
  clear hcode
  go_wp2_with fail
  go_at_call 15
  refine (refnew_yes k m w2 k1 m1 (by omega)).mono ?_
  rintro e w3 ⟨p', T, rfl, _, rcode, b3⟩
  obtain ⟨N, hN⟩ : ∃ N, k + m = N := ⟨_, rfl⟩
  rw [hN] at rcode HC2
  have HR3 : Hid (RCode w3 p' k m N T) := rcode
  have HT : Hid (IsSys k T) := rcode.sys
  have HC3 : Hid (Code w3 p k N S) := HC2.out.keep b3
  have b03 : Below w.heap.size w w3 := hop b1 (hop b2 b3)
  have HM3 : Hid (Mat w3 a n A L C F) := HM.out.keep b03
  have hNk : k < N := by omega
  have hN60 : N ≤ 60 := by omega
  have HST : Hid (∀ i j, j < k → S i j = T i j) := fun i j hj => HS.out.same HT.out i j hj
  have HMM : Hid (∀ i j, mm k S F i j = mm k T F i j) := fun i j => mm_congr (fun t ht => HST.out i t ht) (fun _ _ => rfl)
  have HL47 : Hid (L 0 ≤ 9223372036854775807) := HLe.out 0
  clear rcode HC2 HM HM1 b1 b2 b3 lo1 lo2 hi1 hi2 p1 p2
  -- Encode
  obtain ⟨gE, xn, hE1, hE2⟩ : ∃ (gE : Int) (xn : Nat), ((n = k ∧ ∀ i, i < n → L i = L 0) → gE = 0 ∧ xn = N) ∧ (¬ (n = k ∧ ∀ i, i < n → L i = L 0) → gE = 1 ∧ xn = 0) := by
    by_cases q : n = k ∧ ∀ i, i < n → L i = L 0
    · exact ⟨0, N, fun _ => ⟨rfl, rfl⟩, fun z => absurd q z⟩
    · exact ⟨1, 0, fun z => absurd z q, fun _ => ⟨rfl, rfl⟩⟩
  have hxn : xn ≤ 60 := by
    by_cases q : n = k ∧ ∀ i, i < n → L i = L 0
    · have := hE1 q; omega
    · have := hE2 q; omega
  have KE : Hid (∀ w', Code w' p k N S → Mat w' a n A L C F → Calls Try.prog 11 #[.pointer (some ⟨p, 0, none⟩), .slice a n c] w' fun e w'' => ∃ xa xc AX CX, e = .returned (.tuple #[.slice xa xn xc, .int .i64 gE]) ∧ Mat w'' xa xn AX (fun _ => L 0) CX (mm k S F) ∧ Below w'.heap.size w' w'') := fun w' hc hm => by
    by_cases q : n = k ∧ ∀ i, i < n → L i = L 0
    · obtain ⟨rfl, rfl⟩ := hE1 q
      obtain ⟨rfl, hal⟩ := q
      refine (encode_yes p n xn S w' a c (L 0) A C F hc (hm.even hal (HLe.out 0)) (HL.out 0 (by omega))).mono ?_
      rintro e w'' ⟨v, rfl, r, b⟩
      obtain ⟨xa, xc, AX, CX, rfl, mX, _⟩ := r.form (fun _ => HLe.out 0) (mm_B HS.out.lt)
      exact ⟨xa, xc, AX, CX, rfl, mX, b⟩
    · obtain ⟨rfl, rfl⟩ := hE2 q
      refine (encode_no p k N S w' a n c A L C F hc hm (by omega) q).mono ?_
      rintro e w'' ⟨rfl, rfl⟩
      exact ⟨none, 0, fun _ => none, fun _ => 0, rfl, ⟨fun h => absurd h (by omega), fun i hi => absurd hi (by omega), fun i hi => absurd hi (by omega), fun _ => HLe.out 0, mm_B HS.out.lt⟩, Below.refl _ _⟩
  have KE' : Hid (∀ w', RCode w' p' k m N T → Mat w' a n A L C F → Calls Try.prog 16 #[.pointer (some ⟨p', 0, none⟩), .slice a n c] w' fun e w'' => ∃ xa xc AX CX, e = .returned (.tuple #[.slice xa xn xc, .int .i64 gE]) ∧ Mat w'' xa xn AX (fun _ => L 0) CX (mm k T F) ∧ Below w'.heap.size w' w'') := fun w' hc hm => by
    by_cases q : n = k ∧ ∀ i, i < n → L i = L 0
    · obtain ⟨rfl, rfl⟩ := hE1 q
      obtain ⟨rfl, hal⟩ := q
      refine (rencode_yes p' n m xn T w' a c (L 0) A C F hc (hm.even hal (HLe.out 0)) (HL.out 0 (by omega))).mono ?_
      rintro e w'' ⟨v, rfl, r, b⟩
      obtain ⟨xa, xc, AX, CX, rfl, mX, _⟩ := r.form (fun _ => HLe.out 0) (mm_B HT.out.lt)
      exact ⟨xa, xc, AX, CX, rfl, mX, b⟩
    · obtain ⟨rfl, rfl⟩ := hE2 q
      refine (rencode_no p' k m N T w' a n c A L C F hc hm (by omega) q).mono ?_
      rintro e w'' ⟨rfl, b⟩
      exact ⟨none, 0, fun _ => none, fun _ => 0, rfl, ⟨fun h => absurd h (by omega), fun i hi => absurd hi (by omega), fun i hi => absurd hi (by omega), fun _ => HLe.out 0, mm_B HT.out.lt⟩, b⟩
  -- Rebuild
  obtain ⟨g2, un, lu, t, P, KR, KR', hun⟩ : ∃ (g2 : Int) (un lu : Nat) (t : Nat → Nat) (P : Nat → Bool),
      Hid (∀ w', Code w' p k N S → Mat w' a n A L C F → Calls Try.prog 12 #[.pointer (some ⟨p, 0, none⟩), .slice a n c] w' fun e w'' => ∃ ua uc AU CU GU, e = .returned (.tuple #[.slice ua un uc, .int .i64 g2]) ∧ Mat w'' ua un AU (fun _ => lu) CU GU ∧ RG k un lu S F GU P t ∧ Below w'.heap.size w' w'') ∧
      Hid (∀ w', RCode w' p' k m N T → Mat w' a n A L C F → Calls Try.prog 17 #[.pointer (some ⟨p', 0, none⟩), .slice a n c] w' fun e w'' => ∃ ua uc AU CU GU, e = .returned (.tuple #[.slice ua un uc, .int .i64 g2]) ∧ Mat w'' ua un AU (fun _ => lu) CU GU ∧ RG k un lu T F GU P t ∧ Below w'.heap.size w' w'') ∧ un ≤ 60 := by
    by_cases hnN : n = N
    · subst hnN
      obtain ⟨g2, un, q1, q2, q3⟩ : ∃ (g2 : Int) (un : Nat), (¬ (∀ i, i < (th (isT L n) n).length → L (ti (isT L n) n i) = L (ti (isT L n) n 0)) → g2 = 1 ∧ un = 0) ∧ ((∀ i, i < (th (isT L n) n).length → L (ti (isT L n) n i) = L (ti (isT L n) n 0)) → (th (isT L n) n).length < k → g2 = 2 ∧ un = 0) ∧ ((∀ i, i < (th (isT L n) n).length → L (ti (isT L n) n i) = L (ti (isT L n) n 0)) → k ≤ (th (isT L n) n).length → g2 = 0 ∧ un = n) := by
        by_cases z : ∀ i, i < (th (isT L n) n).length → L (ti (isT L n) n i) = L (ti (isT L n) n 0)
        · by_cases y : (th (isT L n) n).length < k
          · exact ⟨2, 0, fun q => absurd z q, fun _ _ => ⟨rfl, rfl⟩, fun _ q => absurd y (by omega)⟩
          · exact ⟨0, n, fun q => absurd z q, fun _ q => absurd q y, fun _ _ => ⟨rfl, rfl⟩⟩
        · exact ⟨1, 0, fun _ => ⟨rfl, rfl⟩, fun q => absurd q z, fun q => absurd q z⟩
      refine ⟨g2, un, L (ti (isT L n) n 0), ti (isT L n) n, isT L n, fun w' hc hm => ?_, fun w' hc hm => ?_, ?_⟩
      · refine (rebuild_any p k n S w' a c A L C F hc hm HL.out).mono ?_
        rintro e w'' ⟨hre, b⟩
        obtain ⟨ua, uc, AU, CU, GU, e1, e2, e3⟩ := reb_rg hre HS.out HF.out q1 q2 q3 HLe.out
        exact ⟨ua, uc, AU, CU, GU, e1, e2, e3, b⟩
      · refine (rrebuild_any p' k m n T w' a c A L C F hc hm HL.out).mono ?_
        rintro e w'' ⟨hre, b⟩
        obtain ⟨ua, uc, AU, CU, GU, e1, e2, e3⟩ := rend_rg hre HF.out q1 q2 q3 HLe.out
        exact ⟨ua, uc, AU, CU, GU, e1, e2, e3, b⟩
      · by_cases z : ∀ i, i < (th (isT L n) n).length → L (ti (isT L n) n i) = L (ti (isT L n) n 0)
        · by_cases y : (th (isT L n) n).length < k
          · have := q2 z y; omega
          · have := q3 z (by omega); omega
        · have := q1 z; omega
    · have m0 : ∀ w'' : World, Mat w'' none 0 (fun _ => none) (fun _ => 0) (fun _ => 0) F := fun _ => ⟨fun h => absurd h (by omega), fun i hi => absurd hi (by omega), fun i hi => absurd hi (by omega), fun _ => by omega, HF.out⟩
      refine ⟨1, 0, 0, fun _ => 0, fun _ => true, fun w' hc hm => ?_, fun w' hc hm => ?_, by omega⟩
      · refine (rebuild_len p k N S w' a n c hc hnN).mono ?_
        rintro e w'' ⟨rfl, rfl⟩
        exact ⟨none, 0, _, _, F, rfl, m0 _, ⟨fun i hi => absurd hi (by omega), .inl fun _ _ => rfl⟩, Below.refl _ _⟩
      · refine (rrebuild_len p' k m N T w' a n c hc hnN).mono ?_
        rintro e w'' ⟨rfl, b⟩
        exact ⟨none, 0, _, _, F, rfl, m0 _, ⟨fun i hi => absurd hi (by omega), .inl fun _ _ => rfl⟩, b⟩
  -- Verify
  obtain ⟨g3, pb, KV, KV'⟩ : ∃ (g3 : Int) (pb : Bool),
      Hid (∀ w', Code w' p k N S → Mat w' a n A L C F → Calls Try.prog 13 #[.pointer (some ⟨p, 0, none⟩), .slice a n c] w' fun e w'' => e = .returned (.tuple #[.bool pb, .int .i64 g3]) ∧ Below w'.heap.size w' w'') ∧
      Hid (∀ w', RCode w' p' k m N T → Mat w' a n A L C F → Calls Try.prog 18 #[.pointer (some ⟨p', 0, none⟩), .slice a n c] w' fun e w'' => e = .returned (.tuple #[.bool pb, .int .i64 g3]) ∧ Below w'.heap.size w' w'') := by
    by_cases q : n = N ∧ ∀ i, i < n → L i = L 0
    · obtain ⟨rfl, hal⟩ := q
      by_cases hall : ∀ i, i < n → ∀ j, j < L 0 → mm k S F i j = F i j
      · refine ⟨0, true, fun w' hc hm => ?_, fun w' hc hm => ?_⟩
        · refine (verify_any p k n S w' a c (L 0) A C F hc (hm.even hal (HLe.out 0)) hnc (HL.out 0 (by omega))).mono ?_
          rintro e w'' ⟨⟨rfl, _⟩ | ⟨_, hno⟩, b⟩
          · exact ⟨rfl, b⟩
          · exact absurd hall hno
        · refine (rverify_any p' k m n T w' a c (L 0) A C F hc (hm.even hal (HLe.out 0)) (by omega) (HL.out 0 (by omega))).mono ?_
          rintro e w'' ⟨⟨rfl, _⟩ | ⟨_, hno⟩, b⟩
          · exact ⟨rfl, b⟩
          · exact absurd (fun i hi j hj => by rw [← HMM.out i j]; exact hall i hi j hj) hno
      · refine ⟨0, false, fun w' hc hm => ?_, fun w' hc hm => ?_⟩
        · refine (verify_any p k n S w' a c (L 0) A C F hc (hm.even hal (HLe.out 0)) hnc (HL.out 0 (by omega))).mono ?_
          rintro e w'' ⟨⟨_, hy⟩ | ⟨rfl, _⟩, b⟩
          · exact absurd hy hall
          · exact ⟨rfl, b⟩
        · refine (rverify_any p' k m n T w' a c (L 0) A C F hc (hm.even hal (HLe.out 0)) (by omega) (HL.out 0 (by omega))).mono ?_
          rintro e w'' ⟨⟨_, hy⟩ | ⟨rfl, _⟩, b⟩
          · exact absurd (fun i hi j hj => by rw [HMM.out i j]; exact hy i hi j hj) hall
          · exact ⟨rfl, b⟩
    · refine ⟨1, false, fun w' hc hm => ?_, fun w' hc hm => ?_⟩
      · refine (verify_no p k N S w' a n c A L C F hc hm (by omega) q).mono ?_
        rintro e w'' ⟨rfl, rfl⟩
        exact ⟨rfl, Below.refl _ _⟩
      · exact rverify_no p' k m N T w' a n c A L C F hc hm (by omega) q
  clear hE1 hE2 HL HLe
  go_wp2_with fail
  go_at_call 11
  refine (KE.out w3 HC3.out HM3.out).mono ?_
  rintro e w4 ⟨xa, xc, AX, CX, rfl, mX, b4⟩
  have HX4 : Hid (Mat w4 xa xn AX (fun _ => L 0) CX (mm k S F)) := mX
  clear mX
  go_wp2_with fail
  go_at_call 16
  refine (KE'.out w4 (HR3.out.keep b4) (HM3.out.keep b4)).mono ?_
  rintro e w5 ⟨ya, yc, AY, CY, rfl, mY, b5⟩
  have HY5 : Hid (Mat w5 ya xn AY (fun _ => L 0) CY (mm k T F)) := mY
  have b35 := hop b4 b5
  clear mY
  go_wp2_with fail
  go_at_call 12
  refine (KR.out w5 (HC3.out.keep b35) (HM3.out.keep b35)).mono ?_
  rintro e w6 ⟨ua, uc, AU, CU, GU, rfl, mU, rgU, b6⟩
  have HU6 : Hid (Mat w6 ua un AU (fun _ => lu) CU GU) := mU
  have HRU : Hid (RG k un lu S F GU P t) := rgU
  have b36 := hop b35 b6
  clear mU rgU
  go_wp2_with fail
  go_at_call 17
  refine (KR'.out w6 (HR3.out.keep b36) (HM3.out.keep b36)).mono ?_
  rintro e w7 ⟨va, vc, AV, CV, GV, rfl, mV, rgV, b7⟩
  have HV7 : Hid (Mat w7 va un AV (fun _ => lu) CV GV) := mV
  have HRV : Hid (RG k un lu T F GV P t) := rgV
  have b37 := hop b36 b7
  clear mV rgV
  go_wp2_with fail
  go_at_call 13
  refine (KV.out w7 (HC3.out.keep b37) (HM3.out.keep b37)).mono ?_
  rintro e w8 ⟨rfl, b8⟩
  have b38 := hop b37 b8
  go_wp2_with fail
  go_at_call 18
  refine (KV'.out w8 (HR3.out.keep b38) (HM3.out.keep b38)).mono ?_
  rintro e w9 ⟨rfl, b9⟩
  have b09 : Below w.heap.size w w9 := hop b03 (hop b38 b9)
  have cQ := rsame_bel xa ya xn xc yc AX AY (fun _ => L 0) (fun _ => L 0) CX CY (mm k S F) (mm k T F) w9 (HX4.out.keep (hop b5 (hop b6 (hop b7 (hop b8 b9))))) (HY5.out.keep (hop b6 (hop b7 (hop b8 b9)))) (by unfold maxLen; omega) (fun i hi => ⟨rfl, fun j _ => HMM.out i j⟩)
  have HU9 : Hid (Mat w9 ua un AU (fun _ => lu) CU GU) := HU6.out.keep (hop b7 (hop b8 b9))
  have HV9 : Hid (Mat w9 va un AV (fun _ => lu) CV GV) := HV7.out.keep (hop b8 b9)
  clear KE KE' KR KR' KV KV' HX4 HY5 HU6 HV7 b4 b5 b6 b7 b8 b9 b35 b36 b37 b38 b03 HC3 HR3 HM3
  go_wp2_with fail
  go_at_call_of 19 (Value.slice xa xn xc)
  refine cQ.mono ?_
  rintro e w10 ⟨rfl, b10⟩
  clear cQ
  have cQ := rsame_bel ua va un uc vc AU AV (fun _ => lu) (fun _ => lu) CU CV GU GV w10 (HU9.out.keep b10) (HV9.out.keep b10) (by unfold maxLen; omega) (fun i hi => ⟨rfl, fun j hj => HRU.out.alike HS.out HT.out HRV.out i hi j hj⟩)
  go_wp2_with fail
  go_at_call 19
  refine cQ.mono ?_
  rintro e w11 ⟨rfl, b11⟩
  clear cQ
  cases pb
  all_goals
    go_wp2
    go_ret
    exact ⟨rfl, hop b09 (hop b10 b11)⟩


set_option maxRecDepth 100000 in
theorem lifted (os : Os) (started : os.Started) (H : Type) (enc : TypeId × Value → H) :
    ReturnsInHanded {} Try.checked os 4 .any (Rows.rsReckonsSpec.pre6 enc Try.prog Try.f4 Rows.rsReckonsRow.domain false) (Rows.rsReckonsSpec.post enc Try.prog Try.f4 false true false false) := by
  refine returnsInHanded_of_change_sized (C := Try.checked) own started (by kernel_rfl) Try.func4
    (ChangeSpec.witness6 (enc := enc) (C := Try.checked) false ⟨#[], #[.int .i64 0, .int .i64 0, .slice none 0 0], []⟩ 8 (by kernel_rfl) (by kernel_rfl) (by kernel_rfl) (by kernel_rfl)) ?_
  intro W base args ds gs before hval0 hW hcnd hsz0 _
  have hval : ∀ (j : Nat) t v, Try.f4.params[j]? = some t → args[j]? = some v → Value.okWide Try.prog W .any base t v := hval0
  have hsz : (DataW.weightsEach Try.prog (Try.f4.params.toList ++ Rows.rsReckonsSpec.plain.varTypes Try.prog) (ds ++ gs)).all (· ≤ reachBytes) = true := hsz0
  have hW' := hW
  obtain ⟨p, q, hA0, hV, rfl, hfz, hnd⟩ := hW
  have hA : DataW.TrodAll enc Try.prog W 0 (fun _ => true) true Try.f4.params.toList args.toList ds p := hA0
  rw [Try.params4] at hA hval hsz
  obtain ⟨v0, vs0, d0, ds0, p0, q0, hargs, rfl, rfl, h0, r0⟩ := trodAll_cons hA
  obtain ⟨v1, vs1, d1, ds1, p1, q1, rfl, rfl, rfl, h1, r1⟩ := trodAll_cons r0
  obtain ⟨v2, vs2, d2, ds2, p2, q2, rfl, rfl, rfl, h2, r2⟩ := trodAll_cons r1
  obtain ⟨rfl, rfl, rfl⟩ := trodAll_nil r2
  obtain rfl : args = #[v0, v1, v2] := by cases args; simp_all
  obtain ⟨rfl, rfl⟩ := trodVars_none hV
  have k0 := h0
  have lt0 : ∀ x ∈ p0, x.block < W.heap.size := by obtain ⟨m, hm⟩ := k0; exact DataW.trod_lt m _ _ _ hm
  obtain ⟨x0, rfl, _, _, w0⟩ := open_int Try.underlying3 (hval 0 3 v0 rfl rfl) h0
  have e0 : -9223372036854775808 ≤ x0 ∧ x0 ≤ 9223372036854775807 := by simpa [Lit.wf, IntKind.min, IntKind.max, IntKind.signed, IntKind.bits] using w0
  have k1 := h1
  have lt1 : ∀ x ∈ p1, x.block < W.heap.size := by obtain ⟨m, hm⟩ := k1; exact DataW.trod_lt m _ _ _ hm
  obtain ⟨x1, rfl, _, _, w1⟩ := open_int Try.underlying3 (hval 1 3 v1 rfl rfl) h1
  have e1 : -9223372036854775808 ≤ x1 ∧ x1 ≤ 9223372036854775807 := by simpa [Lit.wf, IntKind.min, IntKind.max, IntKind.signed, IntKind.bits] using w1
  obtain ⟨a2, len2, cap2, rfl⟩ := okWide_slice Try.underlying27 (hval 2 27 v2 rfl rfl)
  have k2 := h2
  have lt2 : ∀ x ∈ p2, x.block < W.heap.size := by obtain ⟨m, hm⟩ := k2; exact DataW.trod_lt m _ _ _ hm
  have hz2 : ∀ x ∈ d2.weights Try.prog 27, x ≤ reachBytes := fun x hx => by
    have := List.all_eq_true.1 hsz x (DataW.weights_mem_each (j := 2) (t := 27) (d := d2) rfl rfl x hx)
    simpa using this
  obtain ⟨A2, L2, C2, F2, m2, e2, g2, z2⟩ := open_mat2 h2 hz2
  clear hA0 hval0 hsz0
  refine (core x0 x1 a2 len2 cap2 A2 L2 C2 F2 W e0.1 e0.2 e1.1 e1.2 m2 e2 g2 z2).mono fun e W' ⟨he, bel⟩ => ?_
  subst he
  exact ⟨_, rfl, _, _, _, [], _, [], hW', trodAll_mk1 (shut_bool Try.underlying4 _), (trodAll_cons_mk (Below.trod laidOut (by kernel_rfl) (of_decide_eq_true (by kernel_rfl)) k0 bel lt0) (trodAll_cons_mk (Below.trod laidOut (by kernel_rfl) (of_decide_eq_true (by kernel_rfl)) k1 bel lt1) (trodAll_cons_mk (Below.trod laidOut (by kernel_rfl) (of_decide_eq_true (by kernel_rfl)) k2 bel lt2) trodAll_mk0))), rfl, bel.frame _, fun h => by cases h⟩

theorem over : Rows.rsReckonsRow.holds Try.pinned (OpenSpec.ofChange Rows.rsReckonsSpec) :=
  OpenClaim.holds_of_wide 4 Try.f4 rfl rfl rfl rfl rfl rfl rfl ⟨rfl, rfl, rfl, rfl, rfl⟩ rfl rfl rfl rfl rfl (by kernel_rfl) Try.func4 (by kernel_rfl)
    (of_decide_eq_true (by kernel_rfl)) (by unfold Func.isWrapper; first | (rw [if_pos (by decide +kernel)]; kernel_rfl) | (rw [if_neg (by decide +kernel)]; exact ⟨rfl, rfl⟩))
    (fun os started H enc _ => lifted os started H enc)

end rsReckons

/-- The statement. -/
theorem rsReckons_holds : Rows.RsReckonsSaid := rsReckons.over
#print axioms rsReckons_holds
end Go.Proofs.Ytbfhmdphhhjlnaa
