/-
  Of a row of operations just so many are done as the fuse was set for, on whichever of two disks; behind them none is, till it is set anew: for every number and every row of deeds. No condition.
-/
import Derived.Test.YthkhkijdehbbmaaRows
import Derived.WalkKit
import Derived.ProofKit
import Derived.OpenShut
import Derived.ShutString
import Derived.ChangeOld
import Derived.Below
import Derived.SizedLaws
import Derived.ChangeSame
import Derived.ChangeMaps5
import Derived.Test.YthkhkijdehbbmaaSmZ
set_option maxRecDepth 100000
namespace Go.Proofs.Ythkhkijdehbbmaa
namespace diskFuse
open Go.ChangeShapes Go.WideShapes Go.ChangeAt Go.RowKit
open _root_.Go.Proofs.Ythkhkijdehbbmaa.Nm _root_.Go.Proofs.Ythkhkijdehbbmaa.Dk
set_option linter.unusedVariables false
attribute [local go_sem ↓] Go.wp_at_zero Go.wp_at_succ

theorem own : ownKnob Try.prog.godebug = none := by kernel_rfl
theorem laidOut : laidOutB Try.prog = true := by kernel_rfl

def tX : ByteArray := ⟨#[120]⟩
def tY : ByteArray := ⟨#[121]⟩
/-- A disk that has x, or nothing. -/
def fS (o : Option ByteArray) : St := ⟨match o with | none => [] | some d => [⟨tX, d, false⟩], 9000, false, 0⟩
def okO (o : Option ByteArray) : Prop := ∀ d, o = some d → d.size ≤ 5000
theorem fs_full {o : Option ByteArray} {b : ByteArray} (ho : okO o) (hb : b.size ≤ 5000) : full (fS o) tX b = false := by
  unfold full oldN
  cases o with
  | none =>
    show (decide ((9000 : Int) < ((0 : Nat) : Int) + ((b.size : Nat) : Int) - ((0 : Nat) : Int)) || _) = false
    rw [decide_eq_false (by omega)]; rfl
  | some d =>
    have := ho d rfl
    show (decide ((9000 : Int) < (((used [(⟨tX, d, false⟩ : Fl)]) : Nat) : Int) + ((b.size : Nat) : Int) - ((d.size : Nat) : Int)) || _) = false
    have e : used [(⟨tX, d, false⟩ : Fl)] = d.size := by unfold used; simp
    rw [e, decide_eq_false (by omega)]; rfl
theorem fs_put (o : Option ByteArray) (b : ByteArray) : ({ fS o with fs := Dk.put (fS o).fs ⟨tX, b, false⟩ } : St) = fS (some b) := by
  cases o with
  | none => rfl
  | some d => rfl
theorem fs_fullY {o : Option ByteArray} (ho : okO o) : full (fS o) tY ⟨#[]⟩ = false := by
  unfold full oldN
  cases o with
  | none => rfl
  | some d =>
    have := ho d rfl
    show (decide ((9000 : Int) < (((used [(⟨tX, d, false⟩ : Fl)]) : Nat) : Int) + ((0 : Nat) : Int) - ((0 : Nat) : Int)) || _) = false
    have e : used [(⟨tX, d, false⟩ : Fl)] = d.size := by unfold used; simp
    rw [e, decide_eq_false (by omega)]; rfl
def zK (K d : Nat) : Fz := ⟨(K : Int), (d : Int), decide (0 < (K : Int) ∧ (K : Int) ≤ (d : Int))⟩
theorem zK_tick (K d : Nat) (h : (zK K d).blown = false) : tickO (some (zK K d)) = some (zK K (d + 1)) := by
  unfold tickO
  dsimp only
  rw [if_neg (by rw [h]; decide)]
  rfl
theorem zK_same (K d : Nat) (h : (zK K d).blown = true) : tickO (some (zK K d)) = some (zK K d) := by
  unfold tickO
  dsimp only
  rw [if_pos h]
/-- The round's relation. -/
structure FuW (w0 : World) (p1 m1 p2 m2 k K : Nat) (j d : Nat) (o1 o2 : Option ByteArray) (w : World) : Prop where
  h1 : On w0 w p1 m1 (some k) (fS o1) (some (zK K d))
  h2 : On w0 w p2 m2 (some k) (fS o2) (some (zK K d))
  ok1 : okO o1
  ok2 : okO o2
  dj : d ≤ j
  dk : 0 < K → d ≤ K
/-- One write. -/
theorem fu_step {w0 w : World} {p1 m1 p2 m2 k K j d : Nat} {o1 o2 : Option ByteArray} (h : FuW w0 p1 m1 p2 m2 k K j d o1 o2 w) (hp : p1 ≠ p2) (hm : m1 ≠ m2) (hj : j ≤ 80) {a : Option Addr} {n c : Nat} {b : ByteArray} (hi : Inp w a n c b) (hn : n ≤ 5000) :
    Calls Try.prog 12 #[.pointer (some ⟨p1, 0, none⟩), .string tX, .slice a n c] w fun e w' => e = .returned (.int .i64 (if (zK K d).blown = true then 20 else 0)) ∧
      ((zK K d).blown = true → FuW w0 p1 m1 p2 m2 k K (j + 1) d o1 o2 w') ∧ ((zK K d).blown = false → FuW w0 p1 m1 p2 m2 k K (j + 1) (d + 1) (some b) o2 w') := by
  have hz : Zb (some (zK K d)) := fun y e => by
    injection e with e
    subst e
    have := h.dj
    exact ⟨by show 0 ≤ (d : Int); omega, by show (d : Int) ≤ _; omega⟩
  have hb : b.size ≤ 5000 := by rw [← hi.len]; exact hn
  refine (on_write h.h1 hz (x := tX) (show tX.size ≤ maxLen by decide) hi (by unfold maxLen; omega)).mono ?_
  rintro e w' ⟨rfl, k1, u1⟩
  rw [ask_z] at k1
  cases hx : (zK K d).blown with
  | true =>
    rw [wri_blown (show blB (some (zK K d)) = true from hx)] at k1 ⊢
    rw [zK_same K d hx] at k1
    refine ⟨by rw [if_pos rfl], fun _ => ⟨k1, h.h1.other h.h2 hp hm u1 k1.fz, h.ok1, h.ok2, by have := h.dj; omega, h.dk⟩, fun e => by cases e⟩
  | false =>
    rw [wri_ok (show blB (some (zK K d)) = false from hx) rfl rfl rfl (by omega) (fs_full h.ok1 hb), fs_put] at k1 ⊢
    rw [zK_tick K d hx] at k1
    refine ⟨by rw [if_neg (by decide)], fun e => by (cases e), fun _ => ⟨k1, h.h1.other h.h2 hp hm u1 k1.fz, fun d' e => (by injection e with e; rw [← e]; exact hb), h.ok2, by have := h.dj; omega, fun hK => ?_⟩⟩
    have h9 : ¬ (0 < (K : Int) ∧ (K : Int) ≤ (d : Int)) := of_decide_eq_false hx
    omega
theorem FuW.keep {w0 w w' : World} {p1 m1 p2 m2 k K j d : Nat} {o1 o2 : Option ByteArray} (h : FuW w0 p1 m1 p2 m2 k K j d o1 o2 w) (b : Below w.heap.size w w') : FuW w0 p1 m1 p2 m2 k K j d o1 o2 w' := ⟨h.h1.keep b, h.h2.keep b, h.ok1, h.ok2, h.dj, h.dk⟩
theorem FuW.swap {w0 w : World} {p1 m1 p2 m2 k K j d : Nat} {o1 o2 : Option ByteArray} (h : FuW w0 p1 m1 p2 m2 k K j d o1 o2 w) : FuW w0 p2 m2 p1 m1 k K j d o2 o1 w := ⟨h.h2, h.h1, h.ok2, h.ok1, h.dj, h.dk⟩
set_option maxHeartbeats 8000000 in
theorem core (n : Nat) (a : Option Addr) (c : Nat) (L : List Dd) (w0 : World) (hn : n ≤ 255) (hD : Ds w0 a L) (hz : a = none → L.length = 0 ∧ c = 0) (hl : L.length ≤ maxLen) (hok : ∀ i, i < L.length → Dok L[i]!) :
    Calls Try.prog 6 #[.int .u8 (n : Int), .slice a L.length c] w0 fun e w' => e = .returned (.bool true) ∧ Below w0.heap.size w0 w' := by
  have cA := awake_any w0
  go_enter Try.func6, Try.ntmps6
  go_wp2_with fail
  go_at_call 9
  refine cA.mono ?_
  rintro e w ⟨rfl, b0⟩
  clear cA
  have HB0 : Hid (Below w0.heap.size w0 w) := b0
  have cR := room_any a c L 80 w (hD.keep b0) hl
  have HD : Hid (Ds w0 a L) := hD
  have HOK : Hid (∀ i, i < L.length → Dok L[i]!) := hok
  clear b0 hD hok
  go_wp2_with fail
  go_at_call 24
  refine cR.mono ?_
  rintro e w ⟨rfl, rfl⟩
  clear cR
  cases hR : roomB L 80 with
  | false =>
    go_wp2
    go_ret
    exact ⟨rfl, HB0.out⟩
  | true =>
    obtain ⟨hlen, hsm⟩ := roomB_out hR
    have HSM : Hid (∀ i, i < L.length → L[i]!.a.size ≤ 1000 ∧ L[i]!.b.size ≤ 1000 ∧ L[i]!.v.2.1 ≤ 5000) := hsm
    clear hR hsm
    have cN := newfuse_any w
    go_wp2_with fail
    go_at_call 10
    refine cN.mono ?_
    rintro e w1 ⟨rfl, hz1, b1⟩
    clear cN
    obtain ⟨k, hk⟩ : ∃ k, w.heap.size = k := ⟨_, rfl⟩
    rw [hk] at hz1
    have HK0 : Hid (w0.heap.size ≤ k) := by unfold Hid; rw [← hk]; exact HB0.out.size
    have cW := on_new w0 w1 (HB0.out.trans (b1.mono HB0.out.size)) (some k) (some z0) hz1 (fun j e => by injection e with e; subst e; exact HK0.out) 9000 (by decide) (by decide)
    rw [show newSt 9000 = fS none from rfl] at cW
    dsimp only [Option.map] at cW
    clear hz1 b1
    go_wp2_with fail
    go_at_call 11
    refine cW.mono ?_
    rintro e x1 ⟨rfl, h1, b1⟩
    obtain ⟨m1, hm1⟩ : ∃ m, w1.heap.size = m := ⟨_, rfl⟩
    rw [hm1] at h1
    have cW2 := on_new w0 x1 h1.b (some k) (some z0) h1.fz (fun j e => by injection e with e; subst e; exact HK0.out) 9000 (by decide) (by decide)
    rw [show newSt 9000 = fS none from rfl] at cW2
    dsimp only [Option.map] at cW2
    obtain ⟨V1, F1, px1⟩ := h1.px
    have hlt1 := px1.lt
    have H1 : Hid (On w0 x1 (m1 + 1) m1 (some k) (fS none) (some z0)) := h1
    clear cW h1 b1 px1
    go_wp2_with fail
    go_at_call 11
    refine cW2.mono ?_
    rintro e x2 ⟨rfl, h2, b2⟩
    obtain ⟨m2, hm2⟩ : ∃ m, x1.heap.size = m := ⟨_, rfl⟩
    rw [hm2] at h2 hlt1
    have HNE : Hid (m1 + 1 ≠ m2 + 1 ∧ m1 ≠ m2) := by unfold Hid; omega
    have h1 := H1.out.keep b2
    clear cW2 b2 hlt1 H1
    obtain ⟨K, hKK⟩ : ∃ K, n % 40 = K := ⟨_, rfl⟩
    have hK39 : K ≤ 39 := by omega
    have tm : ((n : Nat) : Int).tmod 40 = (K : Int) := by
      rw [← hKK]
      show (n : Int).tmod ((40 : Nat) : Int) = _
      rw [Int.ofNat_tmod]
    have cv : Sem.run Try.prog (convert 5 3 (.int .u8 (n : Int))) x2 = .ok (.int .i64 (n : Int)) x2 := by
      simp [convert, run_underlying Try.underlying5, run_underlying Try.underlying3, Conv.intToInt]
      rw [IntKind.wrap_i64]; omega
    have cS := on_set h1 (K : Int)
    have H2 : Hid (On w0 x2 (m2 + 1) m2 (some k) (fS none) (some z0)) := h2
    have H1 : Hid (On w0 x2 (m1 + 1) m1 (some k) (fS none) (some z0)) := h1
    clear h1 h2 hKK
    go_wp2_with fail
    go_at_call 21
    refine cS.mono ?_
    rintro e x3 ⟨rfl, h1, u1⟩
    have HW0 : Hid (FuW w0 (m1 + 1) m1 (m2 + 1) m2 k K 0 0 none none x3) := by
      have e0 : (⟨(K : Int), 0, false⟩ : Fz) = zK K 0 := by
        unfold zK
        rw [decide_eq_false (by omega)]; rfl
      rw [e0] at h1
      exact ⟨h1, H1.out.other H2.out HNE.out.1 HNE.out.2 u1 h1.fz, fun d e => (nomatch e), fun d e => (nomatch e), Nat.le_refl _, fun _ => Nat.zero_le _⟩
    clear cS h1 u1 cv H1 H2
    go_wp2_with fail
    go_loopw [9, 10] (fun dv i wr => ∃ (j d : Nat) (o1 o2 : Option ByteArray), j ≤ L.length ∧ i = .int .i64 j ∧ dv = .int .i64 d ∧ FuW w0 (m1 + 1) m1 (m2 + 1) m2 k K j d o1 o2 wr) (fun _ i _ => L.length - (intOf i).toNat)
    case atStart => exact ⟨0, 0, none, none, by omega, rfl, rfl, HW0.out⟩
    case round =>
      obtain ⟨j, d, o1, o2, hj, rfl, rfl, hW⟩ := hrel
      have HW : Hid (FuW w0 (m1 + 1) m1 (m2 + 1) m2 k K j d o1 o2 wr) := hW
      have hb := hW.h1.b
      clear hW
      by_cases hlt : j < L.length
      · have ij : (j : Int) < (L.length : Int) := by omega
        obtain ⟨bb, oo, rfl, hA⟩ := (HD.out.keep hb) (by omega)
        have t1 := (hA j hlt).c1
        have t4 := (hA j hlt).c4
        have hinp := (hA j hlt).i
        have hs5 := (HSM.out j hlt).2.2
        obtain ⟨e, he⟩ : ∃ e, L[j]! = e := ⟨_, rfl⟩
        rw [he] at t1 t4 hinp hs5
        obtain ⟨ed, en, ea, eb, ⟨va, vn, vc⟩, ex⟩ := e
        dsimp only at t1 t4 hinp hs5
        clear hA he
        obtain ⟨N1, hN1⟩ : ∃ N1, bits .and .i64 en 1 = N1 := ⟨_, rfl⟩
        have HI : Hid (Inp wr va vn vc ex) := hinp
        have HS5 : Hid (vn ≤ 5000) := hs5
        have HJ : Hid (j ≤ 80) := by unfold Hid; omega
        clear hinp hs5 hb
        have HNE1 : Hid ((m1 + 1 : Nat) ≠ m2 + 1 ∧ m1 ≠ m2) := HNE
        by_cases q1 : N1 = 1
        · have WW : Hid (Calls Try.prog 12 #[.pointer (some ⟨m2 + 1, 0, none⟩), .string tX, .slice va vn vc] wr fun e w' => e = .returned (.int .i64 (if (zK K d).blown = true then 20 else 0)) ∧ Hid (((zK K d).blown = true → ∃ o1 o2, FuW w0 (m1 + 1) m1 (m2 + 1) m2 k K (j + 1) d o1 o2 w') ∧ ((zK K d).blown = false → ∃ o1 o2, FuW w0 (m1 + 1) m1 (m2 + 1) m2 k K (j + 1) (d + 1) o1 o2 w'))) :=
            (fu_step HW.out.swap HNE.out.1.symm HNE.out.2.symm HJ.out HI.out HS5.out).mono fun e w' h => ⟨h.1, fun e => ⟨_, _, (h.2.1 e).swap⟩, fun e => ⟨_, _, (h.2.2 e).swap⟩⟩
          subst q1
          go_wp2_with fail
          go_at_call 12
          refine WW.out.mono ?_
          rintro e w5 ⟨rfl, HH⟩
          clear WW
          cases hx : (zK K d).blown with
          | true =>
            rw [if_pos rfl]
            obtain ⟨g1, g2⟩ : (0 < (K : Int)) ∧ ((K : Int) ≤ (d : Int)) := of_decide_eq_true hx
            obtain ⟨o1', o2', hF⟩ := HH.out.1 hx
            have cB := blown_any (some k) (some (zK K d)) w5 hF.h1.fz
            dsimp only [Option.map] at cB
            rw [show blB (some (zK K d)) = true from hx] at cB
            have HF : Hid (FuW w0 (m1 + 1) m1 (m2 + 1) m2 k K (j + 1) d o1' o2' w5) := hF
            have g3 : K ≤ d := by omega
            have g4 : 0 < K := by omega
            clear HH hF hx
            go_wp2_with fail
            go_at_call 22
            refine cB.mono ?_
            rintro e w6 ⟨rfl, dn, rfl⟩
            clear cB
            go_wp2
            go_round
            case rel => exact ⟨j + 1, d, o1', o2', by omega, by go_num, rfl, HF.out.keep (bdn' _ dn)⟩
            case measure => simp [intOf]; omega
          | false =>
            rw [if_neg (by decide)]
            have h9 : ¬ (0 < (K : Int) ∧ (K : Int) ≤ (d : Int)) := of_decide_eq_false hx
            obtain ⟨o1', o2', hF⟩ := HH.out.2 hx
            have cB := blown_any (some k) (some (zK K (d + 1))) w5 hF.h1.fz
            dsimp only [Option.map] at cB
            have cO : ∀ n, Calls Try.prog 23 #[.pointer (some ⟨k, 0, none⟩)] (w5.drewN n) fun e w' => e = .returned (.int .i64 ((d + 1 : Nat) : Int)) ∧ w' = w5.drewN n := fun n => ops_any k (zK K (d + 1)) (w5.drewN n) (hF.h1.fz.keep (bdn' _ n))
            have HF : Hid (FuW w0 (m1 + 1) m1 (m2 + 1) m2 k K (j + 1) (d + 1) o1' o2' w5) := hF
            have hdj := hF.dj
            have hdk := hF.dk
            obtain ⟨d1, hd1⟩ : ∃ d1, d + 1 = d1 := ⟨_, rfl⟩
            have wd : IntKind.i64.wrap ((d : Int) + 1) = (d1 : Int) := by rw [IntKind.wrap_i64]; omega
            rw [hd1] at cB cO HF hdj hdk
            have HN : Hid (∀ dn, ∃ (j' d' : Nat) (o1 o2 : Option ByteArray), j' ≤ L.length ∧ Value.int .i64 ((j : Int) + 1) = .int .i64 j' ∧ Value.int .i64 (d1 : Int) = .int .i64 d' ∧ FuW w0 (m1 + 1) m1 (m2 + 1) m2 k K j' d' o1 o2 (w5.drewN dn)) := fun dn => ⟨j + 1, d1, o1', o2', by omega, by simp, rfl, HF.out.keep (bdn' _ dn)⟩
            clear hF HH hx
            by_cases q0 : 0 < K
            · have g1 : (0 : Int) < (K : Int) := by omega
              have g2 : ¬ K ≤ d := fun e => h9 ⟨g1, by omega⟩
              have g3 : decide ((K : Int) ≤ (d : Int)) = false := decide_eq_false (by omega)
              by_cases q2 : d1 = K
              · have hB : blB (some (zK K d1)) = true := decide_eq_true ⟨g1, by omega⟩
                rw [hB] at cB
                subst q2
                clear h9 hB hdk
                go_wp2_with fail
                go_at_call 22
                refine cB.mono ?_
                rintro e w6 ⟨rfl, dn, rfl⟩
                have cO := cO dn
                clear cB
                go_wp2_with fail
                go_at_call 23
                refine cO.mono ?_
                rintro e w6 ⟨rfl, rfl⟩
                clear cO
                go_wp2
                go_round
                case rel => simpa using HN.out dn
                case measure => simp [intOf]; omega
              · have hB : blB (some (zK K d1)) = false := decide_eq_false (by omega)
                rw [hB] at cB
                have g4 : ((d1 : Int) == (K : Int)) = false := by rw [beq_eq_false_iff_ne]; omega
                have g5 : (d1 == K) = false := by simpa using q2
                clear h9 hB hdk
                go_wp2_with fail
                go_at_call 22
                refine cB.mono ?_
                rintro e w6 ⟨rfl, dn, rfl⟩
                have cO := cO dn
                clear cB
                go_wp2_with fail
                go_at_call 23
                refine cO.mono ?_
                rintro e w6 ⟨rfl, rfl⟩
                clear cO
                go_wp2
                go_round
                case rel => simpa using HN.out dn
                case measure => simp [intOf]; omega
            · have g1 : decide ((0 : Int) < (K : Int)) = false := decide_eq_false (by omega)
              have hB : blB (some (zK K d1)) = false := by
                show decide (0 < (K : Int) ∧ (K : Int) ≤ (d1 : Int)) = false
                exact decide_eq_false (by omega)
              rw [hB] at cB
              clear h9 hB hdk
              go_wp2_with fail
              go_at_call 22
              refine cB.mono ?_
              rintro e w6 ⟨rfl, dn, rfl⟩
              have cO := cO dn
              clear cB
              go_wp2_with fail
              go_at_call 23
              refine cO.mono ?_
              rintro e w6 ⟨rfl, rfl⟩
              clear cO
              go_wp2
              go_round
              case rel => simpa using HN.out dn
              case measure => simp [intOf]; omega
        · have WW : Hid (Calls Try.prog 12 #[.pointer (some ⟨m1 + 1, 0, none⟩), .string tX, .slice va vn vc] wr fun e w' => e = .returned (.int .i64 (if (zK K d).blown = true then 20 else 0)) ∧ Hid (((zK K d).blown = true → ∃ o1 o2, FuW w0 (m1 + 1) m1 (m2 + 1) m2 k K (j + 1) d o1 o2 w') ∧ ((zK K d).blown = false → ∃ o1 o2, FuW w0 (m1 + 1) m1 (m2 + 1) m2 k K (j + 1) (d + 1) o1 o2 w'))) :=
            (fu_step HW.out HNE.out.1 HNE.out.2 HJ.out HI.out HS5.out).mono fun e w' h => ⟨h.1, fun e => ⟨_, _, h.2.1 e⟩, fun e => ⟨_, _, h.2.2 e⟩⟩
          have q2 : (N1 == 1) = false := by simpa using q1
          go_wp2_with fail
          go_at_call 12
          refine WW.out.mono ?_
          rintro e w5 ⟨rfl, HH⟩
          clear WW
          cases hx : (zK K d).blown with
          | true =>
            rw [if_pos rfl]
            obtain ⟨g1, g2⟩ : (0 < (K : Int)) ∧ ((K : Int) ≤ (d : Int)) := of_decide_eq_true hx
            obtain ⟨o1', o2', hF⟩ := HH.out.1 hx
            have cB := blown_any (some k) (some (zK K d)) w5 hF.h1.fz
            dsimp only [Option.map] at cB
            rw [show blB (some (zK K d)) = true from hx] at cB
            have HF : Hid (FuW w0 (m1 + 1) m1 (m2 + 1) m2 k K (j + 1) d o1' o2' w5) := hF
            have g3 : K ≤ d := by omega
            have g4 : 0 < K := by omega
            clear HH hF hx
            go_wp2_with fail
            go_at_call 22
            refine cB.mono ?_
            rintro e w6 ⟨rfl, dn, rfl⟩
            clear cB
            go_wp2
            go_round
            case rel => exact ⟨j + 1, d, o1', o2', by omega, by go_num, rfl, HF.out.keep (bdn' _ dn)⟩
            case measure => simp [intOf]; omega
          | false =>
            rw [if_neg (by decide)]
            have h9 : ¬ (0 < (K : Int) ∧ (K : Int) ≤ (d : Int)) := of_decide_eq_false hx
            obtain ⟨o1', o2', hF⟩ := HH.out.2 hx
            have cB := blown_any (some k) (some (zK K (d + 1))) w5 hF.h1.fz
            dsimp only [Option.map] at cB
            have cO : ∀ n, Calls Try.prog 23 #[.pointer (some ⟨k, 0, none⟩)] (w5.drewN n) fun e w' => e = .returned (.int .i64 ((d + 1 : Nat) : Int)) ∧ w' = w5.drewN n := fun n => ops_any k (zK K (d + 1)) (w5.drewN n) (hF.h1.fz.keep (bdn' _ n))
            have HF : Hid (FuW w0 (m1 + 1) m1 (m2 + 1) m2 k K (j + 1) (d + 1) o1' o2' w5) := hF
            have hdj := hF.dj
            have hdk := hF.dk
            obtain ⟨d1, hd1⟩ : ∃ d1, d + 1 = d1 := ⟨_, rfl⟩
            have wd : IntKind.i64.wrap ((d : Int) + 1) = (d1 : Int) := by rw [IntKind.wrap_i64]; omega
            rw [hd1] at cB cO HF hdj hdk
            have HN : Hid (∀ dn, ∃ (j' d' : Nat) (o1 o2 : Option ByteArray), j' ≤ L.length ∧ Value.int .i64 ((j : Int) + 1) = .int .i64 j' ∧ Value.int .i64 (d1 : Int) = .int .i64 d' ∧ FuW w0 (m1 + 1) m1 (m2 + 1) m2 k K j' d' o1 o2 (w5.drewN dn)) := fun dn => ⟨j + 1, d1, o1', o2', by omega, by simp, rfl, HF.out.keep (bdn' _ dn)⟩
            clear hF HH hx
            by_cases q0 : 0 < K
            · have g1 : (0 : Int) < (K : Int) := by omega
              have g2 : ¬ K ≤ d := fun e => h9 ⟨g1, by omega⟩
              have g3 : decide ((K : Int) ≤ (d : Int)) = false := decide_eq_false (by omega)
              by_cases q2 : d1 = K
              · have hB : blB (some (zK K d1)) = true := decide_eq_true ⟨g1, by omega⟩
                rw [hB] at cB
                subst q2
                clear h9 hB hdk
                go_wp2_with fail
                go_at_call 22
                refine cB.mono ?_
                rintro e w6 ⟨rfl, dn, rfl⟩
                have cO := cO dn
                clear cB
                go_wp2_with fail
                go_at_call 23
                refine cO.mono ?_
                rintro e w6 ⟨rfl, rfl⟩
                clear cO
                go_wp2
                go_round
                case rel => simpa using HN.out dn
                case measure => simp [intOf]; omega
              · have hB : blB (some (zK K d1)) = false := decide_eq_false (by omega)
                rw [hB] at cB
                have g4 : ((d1 : Int) == (K : Int)) = false := by rw [beq_eq_false_iff_ne]; omega
                have g5 : (d1 == K) = false := by simpa using q2
                clear h9 hB hdk
                go_wp2_with fail
                go_at_call 22
                refine cB.mono ?_
                rintro e w6 ⟨rfl, dn, rfl⟩
                have cO := cO dn
                clear cB
                go_wp2_with fail
                go_at_call 23
                refine cO.mono ?_
                rintro e w6 ⟨rfl, rfl⟩
                clear cO
                go_wp2
                go_round
                case rel => simpa using HN.out dn
                case measure => simp [intOf]; omega
            · have g1 : decide ((0 : Int) < (K : Int)) = false := decide_eq_false (by omega)
              have hB : blB (some (zK K d1)) = false := by
                show decide (0 < (K : Int) ∧ (K : Int) ≤ (d1 : Int)) = false
                exact decide_eq_false (by omega)
              rw [hB] at cB
              clear h9 hB hdk
              go_wp2_with fail
              go_at_call 22
              refine cB.mono ?_
              rintro e w6 ⟨rfl, dn, rfl⟩
              have cO := cO dn
              clear cB
              go_wp2_with fail
              go_at_call 23
              refine cO.mono ?_
              rintro e w6 ⟨rfl, rfl⟩
              clear cO
              go_wp2
              go_round
              case rel => simpa using HN.out dn
              case measure => simp [intOf]; omega
      · have hjn : j = L.length := by omega
        subst hjn
        have ij : decide ((L.length : Int) < (L.length : Int)) = false := by simp
        have cS := on_set HW.out.h1 0
        have HO1 : Hid (okO o1) := HW.out.ok1
        clear hlt hb HW
        go_wp2_with fail
        go_at_call 21
        refine cS.mono ?_
        rintro e w5 ⟨rfl, h5, _⟩
        have cB := blown_any (some k) (some ⟨0, 0, false⟩) w5 h5.fz
        dsimp only [Option.map] at cB
        rw [show blB (some ⟨0, 0, false⟩) = false from rfl] at cB
        have H5 : Hid (On w0 w5 (m1 + 1) m1 (some k) (fS o1) (some ⟨0, 0, false⟩)) := h5
        clear cS h5
        go_wp2_with fail
        go_at_call 22
        refine cB.mono ?_
        rintro e w6 ⟨rfl, dn, rfl⟩
        have h6 := H5.out.keep (bdn' _ dn)
        have cO := ops_any k ⟨0, 0, false⟩ (w5.drewN dn) h6.fz
        dsimp only at cO
        have cY := on_write h6 (fun y e => by injection e with e; subst e; exact ⟨by decide, by decide⟩) (x := tY) (show tY.size ≤ maxLen by decide) (Inp.none _) (by decide)
        rw [wri_ok (show blB (some ⟨0, 0, false⟩) = false from rfl) rfl rfl rfl (by decide) (fs_fullY HO1.out), ask_z] at cY
        clear cB h6
        go_wp2_with fail
        go_at_call 23
        refine cO.mono ?_
        rintro e w7 ⟨rfl, rfl⟩
        clear cO
        go_wp2_with fail
        go_at_call 12
        refine cY.mono ?_
        rintro e w8 ⟨rfl, h8, _⟩
        have cO := ops_any k ⟨0, 1, false⟩ w8 h8.fz
        dsimp only at cO
        have HB8 : Hid (Below w0.heap.size w0 w8) := h8.b
        clear cY h8
        go_wp2_with fail
        go_at_call 23
        refine cO.mono ?_
        rintro e w9 ⟨rfl, rfl⟩
        clear cO
        go_wp2
        go_ret
        exact ⟨rfl, HB8.out⟩


set_option maxRecDepth 100000 in
theorem lifted (os : Os) (started : os.Started) (H : Type) (enc : TypeId × Value → H) :
    ReturnsInHanded {} Try.checked os 6 .any (Rows.diskFuseSpec.pre6 enc Try.prog Try.f6 Rows.diskFuseRow.domain false) (Rows.diskFuseSpec.post enc Try.prog Try.f6 false true false false) := by
  refine returnsInHanded_of_change_sized (C := Try.checked) own started (by kernel_rfl) Try.func6
    (ChangeSpec.witness6 (enc := enc) (C := Try.checked) false ⟨#[], #[.int .u8 0, .slice none 0 0], []⟩ 8 (by kernel_rfl) (by kernel_rfl) (by kernel_rfl) (by kernel_rfl)) ?_
  intro W base args ds gs before hval0 hW hcnd hsz0 _
  have hval : ∀ (j : Nat) t v, Try.f6.params[j]? = some t → args[j]? = some v → Value.okWide Try.prog W .any base t v := hval0
  have hsz : (DataW.weightsEach Try.prog (Try.f6.params.toList ++ Rows.diskFuseSpec.plain.varTypes Try.prog) (ds ++ gs)).all (· ≤ reachBytes) = true := hsz0
  have hW' := hW
  obtain ⟨p, q, hA0, hV, rfl, hfz, hnd⟩ := hW
  have hA : DataW.TrodAll enc Try.prog W 0 (fun _ => true) true Try.f6.params.toList args.toList ds p := hA0
  rw [Try.params6] at hA hval hsz
  obtain ⟨v0, vs0, d0, ds0, p0, q0, hargs, rfl, rfl, h0, r0⟩ := trodAll_cons hA
  obtain ⟨v1, vs1, d1, ds1, p1, q1, rfl, rfl, rfl, h1, r1⟩ := trodAll_cons r0
  obtain ⟨rfl, rfl, rfl⟩ := trodAll_nil r1
  obtain rfl : args = #[v0, v1] := by cases args; simp_all
  obtain ⟨rfl, rfl⟩ := trodVars_none hV
  have k0 := h0
  have lt0 : ∀ x ∈ p0, x.block < W.heap.size := by obtain ⟨m, hm⟩ := k0; exact DataW.trod_lt m _ _ _ hm
  obtain ⟨y0, rfl, _, _, w0⟩ := open_int Try.underlying5 (hval 0 5 v0 rfl rfl) h0
  have e0 : 0 ≤ y0 ∧ y0 ≤ 255 := by simpa [Lit.wf, IntKind.min, IntKind.max, IntKind.signed, IntKind.bits] using w0
  obtain ⟨x0, rfl⟩ : ∃ x : Nat, y0 = (x : Int) := ⟨y0.toNat, by omega⟩
  have k1 := h1
  have lt1 : ∀ x ∈ p1, x.block < W.heap.size := by obtain ⟨m, hm⟩ := k1; exact DataW.trod_lt m _ _ _ hm
  obtain ⟨a1, c1, L1, rfl, m1, z1, e1, g1⟩ := open_deeds (hval 1 45 v1 rfl rfl) h1
  clear hA0 hval0 hsz0
  refine (core x0 a1 c1 L1 W (by omega) m1 z1 e1 g1).mono fun e W' ⟨he, bel⟩ => ?_
  subst he
  exact ⟨_, rfl, _, _, _, [], _, [], hW', trodAll_mk1 (shut_bool Try.underlying4 _), (trodAll_cons_mk (Below.trod laidOut (by kernel_rfl) (of_decide_eq_true (by kernel_rfl)) k0 bel lt0) (trodAll_cons_mk (Below.trod laidOut (by kernel_rfl) (of_decide_eq_true (by kernel_rfl)) k1 bel lt1) trodAll_mk0)), rfl, bel.frame _, fun h => by cases h⟩

theorem over : Rows.diskFuseRow.holds Try.pinned (OpenSpec.ofChange Rows.diskFuseSpec) :=
  OpenClaim.holds_of_wide 6 Try.f6 rfl rfl rfl rfl rfl rfl rfl ⟨rfl, rfl, rfl, rfl, rfl⟩ rfl rfl rfl rfl rfl (by kernel_rfl) Try.func6 (by kernel_rfl)
    (of_decide_eq_true (by kernel_rfl)) (by unfold Func.isWrapper; first | (rw [if_pos (by decide +kernel)]; kernel_rfl) | (rw [if_neg (by decide +kernel)]; exact ⟨rfl, rfl⟩))
    (fun os started H enc _ => lifted os started H enc)

end diskFuse

/-- The statement. -/
theorem diskFuse_holds : Rows.DiskFuseSaid := diskFuse.over
#print axioms diskFuse_holds
end Go.Proofs.Ythkhkijdehbbmaa
