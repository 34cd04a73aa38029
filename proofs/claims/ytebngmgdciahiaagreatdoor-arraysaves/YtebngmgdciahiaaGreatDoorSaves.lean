/-
  The law ArraySaves of layer 12 (P12.2, T3: a file that was saved is whole behind any crash; one whose saving was broken off is as it was ahead, or whole) answers true for all rows and all numbers, where crc's table is as the program's text lays it.
-/
import Derived.Test.YtebngmgdciahiaaGreatDoorRows
import Derived.WalkKit
import Derived.ProofKit
import Derived.OpenShut
import Derived.ShutString
import Derived.ChangeOld
import Derived.Below
import Derived.SizedLaws
import Derived.LaidMore
import Derived.Stop.Joined
import Derived.SevenTiedAt
import Derived.Test.YtebngmgdciahiaaGreatDoorCards
import Derived.Test.YtebngmgdciahiaaGreatDoorTie
import Derived.Test.YtebngmgdciahiaaGreatDoorArL
import Derived.Test.YtebngmgdciahiaaGreatDoorArM
set_option maxRecDepth 100000
namespace Go.Proofs.YtebngmgdciahiaaGreatDoor
namespace arraySaves
open Go.ChangeShapes Go.WideShapes Go.ChangeAt Go.RowKit Crc
open _root_.Go.Proofs.YtebngmgdciahiaaGreatDoor.Nm _root_.Go.Proofs.YtebngmgdciahiaaGreatDoor.Dk
set_option linter.unusedVariables false
attribute [local go_sem ↓] Go.wp_at_zero Go.wp_at_succ

theorem own : ownKnob Tryz.prog.godebug = none := by kernel_rfl
theorem laidOut : laidOutB Tryz.prog = true := by kernel_rfl

def pX : ByteArray := ⟨#[120]⟩
/-- A fuse that has not blown. -/
theorem ask_nb (t d : Int) (l : List Fl) (mo : Int) (ps : List ByteArray) (h : ps.all okPath = true) : askZ (some ⟨t, d, false⟩) (s1 l mo) ps = (0, some (Dk.tick ⟨t, d, false⟩), s1 l mo) := by
  show ((askD (s1 l mo) ps).1, _, (askD (s1 l mo) ps).2) = _
  have e : askD (s1 l mo) ps = (0, s1 l mo) := by
    show (if ps.all okPath = true then _ else _) = _
    rw [if_pos h]
  rw [e]
theorem wri_nb (t d : Int) (l : List Fl) (mo : Int) (x b : ByteArray) (hx : okPath x = true) (hb : b.size ≤ 262144) (hm : ((used l : Nat) : Int) + ((b.size : Nat) : Int) - ((oldN (s1 l mo) x : Nat) : Int) ≤ mo) (hl : l.length < 4096) : wriZ (some ⟨t, d, false⟩) (s1 l mo) x b = (0, s1 (Dk.put l ⟨x, b, false⟩) mo) := by
  unfold wriZ
  rw [ask_nb t d l mo [x] (by simp [hx])]
  have hf : full (s1 l mo) x b = false := by
    unfold full
    rw [Bool.or_eq_false_iff]
    refine ⟨decide_eq_false (by show ¬ mo < ((used l : Nat) : Int) + _ - _; omega), ?_⟩
    rw [Bool.and_eq_false_iff]
    exact .inr (decide_eq_false (by show ¬ 4096 ≤ l.length; omega))
  rw [if_neg (fun e => e rfl), if_neg (by omega), if_neg (by rw [hf]; decide)]
  rfl
theorem syn_nb (t d : Int) (l : List Fl) (mo : Int) (x : ByteArray) (hx : okPath x = true) (ht : there x l = true) : synZ (some ⟨t, d, false⟩) (s1 l mo) x = (0, s1 (Go.Proofs.YtebngmgdciahiaaGreatDoor.setSure l (place x l)) mo) := by
  unfold synZ
  rw [ask_nb t d l mo [x] (by simp [hx])]
  rw [if_neg (fun e => e rfl), if_pos (by exact ht)]
  rfl
theorem ren_nb (t d : Int) (l : List Fl) (mo : Int) (x y : ByteArray) (hx : okPath x = true) (hy : okPath y = true) (ht : there x l = true) : renZ (some ⟨t, d, false⟩) (s1 l mo) x y = (0, s1 (renS l x y) mo) := by
  unfold renZ
  rw [ask_nb t d l mo [x, y] (by simp [hx, hy])]
  rw [if_neg (fun e => e rfl), if_pos (by exact ht)]
  rfl
theorem syn_bl (t d : Int) (s : St) (x : ByteArray) : synZ (some ⟨t, d, true⟩) s x = (20, s) := rfl
theorem ren_bl (t d : Int) (s : St) (x y : ByteArray) : renZ (some ⟨t, d, true⟩) s x y = (20, s) := rfl
theorem tick_nb (t d : Int) (h : ¬ (0 < t ∧ t ≤ d + 1)) : tickO (some ⟨t, d, false⟩) = some ⟨t, d + 1, false⟩ := by
  show some (Dk.tick ⟨t, d, false⟩) = _
  unfold Dk.tick
  rw [decide_eq_false h]
theorem tick_bl (t d : Int) (h : 0 < t ∧ t ≤ d + 1) : tickO (some ⟨t, d, false⟩) = some ⟨t, d + 1, true⟩ := by
  show some (Dk.tick ⟨t, d, false⟩) = _
  unfold Dk.tick
  rw [decide_eq_true h]
/-- A Save behind a disk's first, while a fuse may blow. -/
theorem savX (t : Int) (b b0 : ByteArray) (hb : b.size ≤ 2000) (hb0 : b0.size ≤ 2000) :
    ∃ e z' l, savZ (some ⟨t, 0, false⟩) (s1 [⟨pX, b0, true⟩] 10000) pX b = (e, z', s1 l 10000) ∧ (∃ zz, z' = some zz) ∧
      ∀ k, there pX (crashS k l) = true ∧ (fileL pX (crashS k l)).sure = true ∧ ((e = 0 ∧ (fileL pX (crashS k l)).b = b) ∨ (e = 20 ∧ (fileL pX (crashS k l)).b = b0)) := by
  have h1 := wri_nb t 0 [⟨pX, b0, true⟩] 10000 pTmp b rfl (by omega) (by show ((b0.size + 0 : Nat) : Int) + _ - ((0 : Nat) : Int) ≤ 10000; omega) (by show 1 < 4096; omega)
  rw [show Dk.put [⟨pX, b0, true⟩] ⟨pTmp, b, false⟩ = [⟨pTmp, b, false⟩, ⟨pX, b0, true⟩] from rfl] at h1
  by_cases c1 : 0 < t ∧ t ≤ 0 + 1
  · refine ⟨20, some ⟨t, 0 + 1, true⟩, [⟨pTmp, b, false⟩, ⟨pX, b0, true⟩], ?_, ⟨_, rfl⟩, fun k => ⟨rfl, rfl, .inr ⟨rfl, rfl⟩⟩⟩
    unfold savZ
    rw [h1, tick_bl t 0 c1, syn_bl]
    rfl
  · have h2 := syn_nb t (0 + 1) [⟨pTmp, b, false⟩, ⟨pX, b0, true⟩] 10000 pTmp rfl rfl
    rw [show Go.Proofs.YtebngmgdciahiaaGreatDoor.setSure [⟨pTmp, b, false⟩, ⟨pX, b0, true⟩] (place pTmp [⟨pTmp, b, false⟩, ⟨pX, b0, true⟩]) = [⟨pTmp, b, true⟩, ⟨pX, b0, true⟩] from rfl] at h2
    by_cases c2 : 0 < t ∧ t ≤ 0 + 1 + 1
    · refine ⟨20, some ⟨t, 0 + 1 + 1, true⟩, [⟨pTmp, b, true⟩, ⟨pX, b0, true⟩], ?_, ⟨_, rfl⟩, fun k => ⟨rfl, rfl, .inr ⟨rfl, rfl⟩⟩⟩
      unfold savZ
      rw [h1, tick_nb t 0 c1, h2]
      dsimp only
      rw [if_neg (fun e => e rfl), if_neg (fun e => e rfl), tick_bl t (0 + 1) c2, ren_bl]
      rfl
    · have h3 := ren_nb t (0 + 1 + 1) [⟨pTmp, b, true⟩, ⟨pX, b0, true⟩] 10000 pTmp pX rfl rfl rfl
      rw [show renS [⟨pTmp, b, true⟩, ⟨pX, b0, true⟩] pTmp pX = [⟨pX, b, true⟩] from rfl] at h3
      refine ⟨0, tickO (some ⟨t, 0 + 1 + 1, false⟩), [⟨pX, b, true⟩], ?_, ⟨_, rfl⟩, fun k => ⟨rfl, rfl, .inl ⟨rfl, rfl⟩⟩⟩
      unfold savZ
      rw [h1, tick_nb t 0 c1, h2]
      dsimp only
      rw [if_neg (fun e => e rfl), if_neg (fun e => e rfl), tick_nb t (0 + 1) c2, h3]
/-- The first. -/
theorem savF (b : ByteArray) (hb : b.size ≤ 2000) : savZ (some ⟨0, 0, false⟩) (s1 [] 10000) pX b = (0, some ⟨0, 3, false⟩, s1 [⟨pX, b, true⟩] 10000) := by
  have n1 : ∀ d : Int, ¬ ((0 : Int) < 0 ∧ (0 : Int) ≤ d + 1) := fun d h => by omega
  have h1 := wri_nb 0 0 [] 10000 pTmp b rfl (by omega) (by show ((0 : Nat) : Int) + _ - ((0 : Nat) : Int) ≤ 10000; omega) (by decide)
  rw [show Dk.put [] ⟨pTmp, b, false⟩ = [⟨pTmp, b, false⟩] from rfl] at h1
  have h2 := syn_nb 0 (0 + 1) [⟨pTmp, b, false⟩] 10000 pTmp rfl rfl
  rw [show Go.Proofs.YtebngmgdciahiaaGreatDoor.setSure [⟨pTmp, b, false⟩] (place pTmp [⟨pTmp, b, false⟩]) = [⟨pTmp, b, true⟩] from rfl] at h2
  have h3 := ren_nb 0 (0 + 1 + 1) [⟨pTmp, b, true⟩] 10000 pTmp pX rfl rfl rfl
  rw [show renS [⟨pTmp, b, true⟩] pTmp pX = [⟨pX, b, true⟩] from rfl] at h3
  unfold savZ
  rw [h1, tick_nb 0 0 (n1 _), h2]
  dsimp only
  rw [if_neg (fun e => e rfl), if_neg (fun e => e rfl), tick_nb 0 (0 + 1) (n1 _), h3, tick_nb 0 (0 + 1 + 1) (n1 _)]
  rfl
section
variable {w0 w : World} {R : Rg} {q g : Option Nat} {S T : Nat → St} {z z2 : Option Fz}
theorem ar_crash (h : Ar w0 w R q g S T z z2) {i : Nat} (hi : i < R.n) {k : Int} (hk0 : -9223372036854775808 ≤ k) (hk1 : k ≤ 9223372036854775807) :
    Calls Tryz.prog 24 #[.pointer (some ⟨(R.P i).p, 0, none⟩), .int .i64 k] w fun e w' => e = .returned (.tuple #[]) ∧ Ar w0 w' R q g (up S i { S i with fs := crashS k (S i).fs }) T z z2 ∧ Kd w w' :=
  h.prog (s' := { S i with fs := crashS k (S i).fs }) (z' := z) (X := fun e w' => e = .returned (.tuple #[])) hi fun V F0 hp => (pcrash_any _ _ V q (S i) F0 k w hp hk0 hk1).mono fun e w' c => ⟨c.1, by
    obtain ⟨V', k1, k2, k3⟩ := c.2
    exact ⟨V', F0, k1, fz_pm (h.on hi) k2, k2.mono fun _ _ e => pm_ms e, k3⟩⟩
theorem ar_set {k : Nat} {zz : Fz} (h : Ar w0 w R (some k) g S T (some zz) z2) (hi : 0 < R.n) (n : Int) :
    Calls Tryz.prog 23 #[.pointer (some ⟨k, 0, none⟩), .int .i64 n] w fun e w' => e = .returned (.tuple #[]) ∧ Ar w0 w' R (some k) g S T (some ⟨n, 0, false⟩) z2 ∧ Kd w w' := by
  refine (pr_set1 (h.pr hi) n).mono fun e w' c => ⟨c.1, ?_, c.2.2⟩
  have := c.2.1.2.2
  dsimp only at this
  rw [up_self, up_self] at this
  exact this
end
theorem kT_pair8 : kT 59 := ⟨by decide, by decide, by decide, by decide, by decide, by decide⟩
theorem ps_fix {R : Rg} {pp ab vb kq kg n : Nat} (p : Ps R pp ab vb kq kg n) : ∃ gd cap, n ≤ cap ∧ ∀ (W0 w : World) (q g : Option Nat) (S T : Nat → St) (z z2 : Option Fz), Ar W0 w R q g S T z z2 → w.cell? ⟨pp, 0, none⟩ = some (.pointer (some ⟨ab, 0, none⟩)) ∧ w.cell? ⟨pp, 1, none⟩ = some (.slice (some ⟨gd, 0, none⟩) n cap) ∧ w.cell? ⟨pp, 2, none⟩ = some (.pointer (some ⟨kq, 0, none⟩)) ∧ ∀ i, i < n → w.cell? ⟨gd, i, none⟩ = some (.pointer (some ⟨(R.P i).p, 0, none⟩)) := by
  have p' := p
  obtain ⟨gd, cap, cur, h1, h2, h3, h4⟩ := p.ex
  refine ⟨gd, cap, h4, fun W0 w q g S T z z2 h => ⟨Ps.arr h p', ?_, Ps.fuse h p', fun i hi => ?_⟩⟩
  · have := cell_of_row w pp 1 _ _ _ (h.kept h1)
    simpa [pv] using this
  · rw [cell_of_row w gd i _ _ _ (h.kept h2), h3 i hi]; rfl
theorem row_inp {w : World} {a : Option Addr} {n c : Nat} {f : Nat → Nat} (h : Row w a n f) (hz : a = none → n = 0 ∧ c = 0) : Inp w a n c (str f n) := ⟨⟨f, h.1, h, rfl⟩, (str_sz _ _).symm, hz⟩
theorem HIDK {p : Prop} (h : p) : Hid p := h
/-- The disks behind j crashes. -/
def cS (k : Int) (l : List Fl) (j i : Nat) : St := if i < j then { up (fun _ => s1 [] 10000) 0 (s1 l 10000) i with fs := crashS k (up (fun _ => s1 [] 10000) 0 (s1 l 10000) i).fs } else up (fun _ => s1 [] 10000) 0 (s1 l 10000) i
theorem cS_next (k : Int) (l : List Fl) (j : Nat) : up (cS k l j) j { cS k l j j with fs := crashS k (cS k l j j).fs } = cS k l (j + 1) := by
  funext i
  by_cases e : i = j
  · subst e
    rw [up_at]
    unfold cS
    rw [if_neg (Nat.lt_irrefl _), if_pos (Nat.lt_succ_self _)]
  · rw [up_of _ _ e]
    unfold cS
    by_cases l9 : i < j
    · rw [if_pos l9, if_pos (by omega)]
    · rw [if_neg l9, if_neg (by omega)]
/-- The relation of the loop. -/
structure SL (W0 wr : World) (R : Rg) (kq kg tb x y : Nat) (l : List Fl) (j : Nat) : Prop where
  ar : Ar W0 wr R (some kq) (some kg) (cS (y : Int) l j) (fun _ => s1 [] 10000) (some ⟨0, 0, false⟩) (some z0)
  bx : wr.heap[tb]? = some (.cells #[.int .u8 (x : Int), .int .u8 (y : Int)] 59 (0, 0))
set_option maxHeartbeats 8000000 in
theorem core (a : Option Addr) (n c : Nat) (f : Nat → Nat) (a2 : Option Addr) (n2 c2 : Nat) (f2 : Nat → Nat) (x y : Nat) (W0 : World) (T : HalfT W0) (hrow : Row W0 a n f) (hz : a = none → n = 0 ∧ c = 0) (hn : n ≤ maxLen) (hnc : n ≤ c) (hrow2 : Row W0 a2 n2 f2) (hz2 : a2 = none → n2 = 0 ∧ c2 = 0) (hn2 : n2 ≤ maxLen) (hnc2 : n2 ≤ c2) (hx : x < 256 ∧ y < 256) :
    Calls Tryz.prog 4 #[.slice a n c, .slice a2 n2 c2, .agg #[.int .u8 (x : Int), .int .u8 (y : Int)]] W0 fun e w' => e = .returned (.bool true) ∧ Below W0.heap.size W0 w' := by
  obtain ⟨w1, hw1⟩ : ∃ w1, W0.alloc (.cells #[.int .u8 (x : Int), .int .u8 (y : Int)] 59) = w1 := ⟨_, rfl⟩
  have b1 : Below W0.heap.size W0 w1 := by rw [← hw1]; exact bal _ _
  have hs : w1.heap[W0.heap.size]? = some (.cells #[.int .u8 (x : Int), .int .u8 (y : Int)] 59 (0, 0)) := by rw [← hw1]; exact heap_alloc_new _ _
  have cA := awake12 W0 w1 b1 T
  obtain ⟨tb, htb⟩ : ∃ tb, W0.heap.size = tb := ⟨_, rfl⟩
  have HW1 : Hid (W0.alloc (.cells #[.int .u8 (x : Int), .int .u8 (y : Int)] 59) = w1) := hw1
  rw [htb] at hs
  have HS : Hid (w1.heap[tb]? = some (.cells #[.int .u8 (x : Int), .int .u8 (y : Int)] 59 (0, 0)) ∧ Below W0.heap.size W0 w1 ∧ W0.heap.size = tb) := ⟨hs, b1, htb⟩
  have HX : Hid (x < 256 ∧ y < 256) := hx
  have HI : Hid (Inp W0 a n c (str f n) ∧ Inp W0 a2 n2 c2 (str f2 n2)) := ⟨row_inp hrow hz, row_inp hrow2 hz2⟩
  have HT : Hid (HalfT W0) := T
  clear hw1 b1 hs T htb hx hrow hrow2 hz hz2 hnc hnc2
  go_enter Tryz.func4, Tryz.ntmps4
  go_wp2_with fail
  rw [HW1.out, HS.out.2.2]
  go_at_call 5
  refine cA.mono ?_
  rintro e w2 ⟨rfl, b2⟩
  clear cA
  have hx2 := (b2.block tb (Array.getElem?_eq_some_iff.1 HS.out.1).1).trans HS.out.1
  have HB2 : Hid (Below W0.heap.size W0 w2 ∧ w2.heap[tb]? = some (.cells #[.int .u8 (x : Int), .int .u8 (y : Int)] 59 (0, 0))) := ⟨HS.out.2.1.trans (b2.mono HS.out.2.1.size), hx2⟩
  clear b2 hx2
  by_cases h20 : 2000 < n
  · have g1 : decide ((2000 : Int) < (n : Int)) = true := decide_eq_true (by omega)
    have g2 : decide (2000 < n) = true := decide_eq_true h20
    clear h20
    go_wp2
    go_ret
    exact ⟨rfl, HB2.out.1⟩
  have g1 : decide ((2000 : Int) < (n : Int)) = false := decide_eq_false (by omega)
  have g2 : decide (2000 < n) = false := decide_eq_false h20
  by_cases h22 : 2000 < n2
  · have g3 : decide ((2000 : Int) < (n2 : Int)) = true := decide_eq_true (by omega)
    have g4 : decide (2000 < n2) = true := decide_eq_true h22
    clear h20 h22
    go_wp2
    go_ret
    exact ⟨rfl, HB2.out.1⟩
  have g3 : decide ((2000 : Int) < (n2 : Int)) = false := decide_eq_false (by omega)
  have g4 : decide (2000 < n2) = false := decide_eq_false h22
  have HNN : Hid (n ≤ 2000 ∧ n2 ≤ 2000) := ⟨by omega, by omega⟩
  have cM := make_any W0 w2 HB2.out.1 1 1 16 10000 (by decide) (by decide) (by decide) (by decide) (by decide) (by decide) (by decide) (by decide)
  clear h20 h22
  go_wp2_with fail
  go_at_call 6
  refine cM.mono ?_
  rintro e w3 hE
  clear cM
  rcases hE with ⟨bl, pp, hbl, hb1, hb2, rfl, hM⟩ | ⟨hno, rfl, b3⟩
  rotate_left
  · exact absurd ⟨by decide, by decide⟩ hno
  obtain rfl : bl = 16 := by omega
  obtain ⟨R, kq, kg, ab, vb, hA, hs, hv, hp, hb⟩ := hM.out
  have hp2 : Ps R pp ab vb kq kg 2 := hp
  obtain ⟨gd, gcap, hgc, hfix⟩ := ps_fix hp2
  have HF : Hid (∀ (W0 w : World) (q g : Option Nat) (S T : Nat → St) (z z2 : Option Fz), Ar W0 w R q g S T z z2 → w.cell? ⟨pp, 0, none⟩ = some (.pointer (some ⟨ab, 0, none⟩)) ∧ w.cell? ⟨pp, 1, none⟩ = some (.slice (some ⟨gd, 0, none⟩) 2 gcap) ∧ w.cell? ⟨pp, 2, none⟩ = some (.pointer (some ⟨kq, 0, none⟩)) ∧ ∀ i, i < 2 → w.cell? ⟨gd, i, none⟩ = some (.pointer (some ⟨(R.P i).p, 0, none⟩))) := hfix
  have HP : Hid (Hs R ab 1 1 16 ∧ R.n = 2) := ⟨hs, hs.N⟩
  have hB3 := (hb.block tb (Array.getElem?_eq_some_iff.1 HB2.out.2).1).trans HB2.out.2
  have p0 := (HF.out _ _ _ _ _ _ _ _ hA).1
  have cS := save_any hA HP.out.1 (i := 0) (j := 0) (by decide) ⟨z0, rfl, by decide, by decide⟩ (by decide) (x := pX) (by unfold maxLen; decide) (HI.out.1.keep hA.b) (by have := HNN.out; unfold maxLen; omega)
  rw [show newSt 10000 = s1 [] 10000 from rfl, show some z0 = some ⟨0, 0, false⟩ from rfl, savF _ (by rw [str_sz]; exact HNN.out.1)] at cS
  dsimp only at cS
  change Calls Tryz.prog 12 #[.pointer (some ⟨ab, 0, none⟩), .int .i64 0, .string ⟨#[120]⟩, .slice a n c] w3 _ at cS
  have H3 : Hid (w3.heap[tb]? = some (.cells #[.int .u8 (x : Int), .int .u8 (y : Int)] 59 (0, 0))) := hB3
  clear hM hA hs hv hp hb hbl hb1 hb2 hfix hB3
  go_wp2_with fail
  go_at_call 12
  refine cS.mono ?_
  rintro e w4 ⟨rfl, a4, k4⟩
  have HA4 : Hid (Ar W0 w4 R (some kq) (some kg) (up (fun _ => s1 [] 10000) 0 (s1 [⟨pX, str f n, true⟩] 10000)) (fun _ => s1 [] 10000) (some ⟨0, 3, false⟩) (some z0) ∧ w4.heap[tb]? = some (.cells #[.int .u8 (x : Int), .int .u8 (y : Int)] 59 (0, 0))) := ⟨a4, (k4.2 tb _ _ H3.out kT_pair8).trans H3.out⟩
  clear cS a4 k4 p0
  have hx0 := HX.out
  obtain ⟨t, htt⟩ : ∃ t, x % 6 = t := ⟨_, rfl⟩
  have e3 : (x : Int).tmod (6 : Int) = ((x % 6 : Nat) : Int) := by rw [Int.tmod_eq_emod_of_nonneg (by omega)]; rfl
  rw [htt] at e3
  have e4 : (IntKind.i64.wrap (x : Int)).tmod (6 : Int) = ((t : Nat) : Int) := by
    rw [show IntKind.i64.wrap (x : Int) = (x : Int) by rw [IntKind.wrap_i64]; omega]
    exact e3
  have HS9 : Hid (w4.drew.cell? ⟨pp, 2, none⟩ = some (.pointer (some ⟨kq, 0, none⟩)) ∧ w4.drew.cell? ⟨tb, 0, none⟩ = some (.int .u8 (x : Int))) := by
    have f0 := HF.out _ _ _ _ _ _ _ _ (HA4.out.1.keep (Below.refl _ _).drew)
    have d2 := cell_of_row w4.drew tb 0 _ _ _ (((Below.refl _ _).drew.block tb (Array.getElem?_eq_some_iff.1 HA4.out.2).1).trans HA4.out.2)
    simp only [List.getElem?_toArray, List.getElem?_cons_zero] at d2
    exact ⟨f0.2.2.1, d2⟩
  have K : Hid (Calls Tryz.prog 23 #[.pointer (some ⟨kq, 0, none⟩), .int .i64 ((t : Nat) : Int)] w4.drew fun e w5 => e = .returned (.tuple #[]) ∧ (w5.cell? ⟨pp, 2, none⟩ = some (.pointer (some ⟨kq, 0, none⟩)) ∧ w5.cell? ⟨tb, 0, none⟩ = some (.int .u8 (x : Int))) ∧ Hid (Ar W0 w5 R (some kq) (some kg) (up (fun _ => s1 [] 10000) 0 (s1 [⟨pX, str f n, true⟩] 10000)) (fun _ => s1 [] 10000) (some ⟨(t : Int), 0, false⟩) (some z0) ∧ w5.heap[tb]? = some (.cells #[.int .u8 (x : Int), .int .u8 (y : Int)] 59 (0, 0)))) := by
    refine (ar_set (HA4.out.1.keep (Below.refl _ _).drew) (by rw [HP.out.2]; decide) (t : Int)).mono ?_
    rintro e w5 ⟨rfl, a5, k5⟩
    have f0 := HF.out _ _ _ _ _ _ _ _ a5
    have h0 := ((Below.refl _ _).drew.block tb (Array.getElem?_eq_some_iff.1 HA4.out.2).1).trans HA4.out.2
    have h5 := (k5.2 tb _ _ h0 kT_pair8).trans h0
    have d2 := cell_of_row w5 tb 0 _ _ _ h5
    simp only [List.getElem?_toArray, List.getElem?_cons_zero] at d2
    exact ⟨rfl, ⟨f0.2.2.1, d2⟩, a5, h5⟩
  clear HA4
  go_wp2_with fail
  go_region_held3 (fun Y => Y.cell? ⟨pp, 2, none⟩ = some (.pointer (some ⟨kq, 0, none⟩)) ∧ Y.cell? ⟨tb, 0, none⟩ = some (.int .u8 (x : Int)))
    (first | with_reducible exact HS9.out | with_reducible exact p1)
    (first
      | (go_at_call 23; with_reducible refine K.out.mono ?_; rintro e w5 ⟨rfl, p1, HE⟩))
  clear HS9 K e3 e4 htt p1
  have p0 := (HF.out _ _ _ _ _ _ _ _ HE.out.1).1
  obtain ⟨e9, z9, l, hsv, ⟨zz, rfl⟩, hfin⟩ := savX (t : Int) (str f2 n2) (str f n) (by rw [str_sz]; exact HNN.out.2) (by rw [str_sz]; exact HNN.out.1)
  have cS := save_any HE.out.1 HP.out.1 (i := 0) (j := 0) (by decide) ⟨_, rfl, Int.le_refl _, Int.le_refl _⟩ (by decide) (x := pX) (by unfold maxLen; decide) (HI.out.2.keep HE.out.1.b) (by have := HNN.out; unfold maxLen; omega)
  rw [up_at, up_up, hsv] at cS
  dsimp only at cS
  change Calls Tryz.prog 12 #[.pointer (some ⟨ab, 0, none⟩), .int .i64 0, .string ⟨#[120]⟩, .slice a2 n2 c2] w5 _ at cS
  have HFI : Hid (∀ k, there pX (crashS k l) = true ∧ (fileL pX (crashS k l)).sure = true ∧ ((e9 = 0 ∧ (fileL pX (crashS k l)).b = str f2 n2) ∨ (e9 = 20 ∧ (fileL pX (crashS k l)).b = str f n))) := hfin
  clear hsv hfin
  go_wp2_with fail
  go_at_call 12
  refine cS.mono ?_
  rintro e w6 ⟨rfl, a6, k6⟩
  have h6 := (k6.2 tb _ _ HE.out.2 kT_pair8).trans HE.out.2
  have p2 := (HF.out _ _ _ _ _ _ _ _ a6).2.2.1
  have cF := ar_set a6 (by rw [HP.out.2]; decide) 0
  have H6 : Hid (w6.heap[tb]? = some (.cells #[.int .u8 (x : Int), .int .u8 (y : Int)] 59 (0, 0))) := h6
  clear cS HE a6 k6 h6 p0
  go_wp2_with fail
  go_at_call 23
  refine cF.mono ?_
  rintro e w7 ⟨rfl, a7, k7⟩
  have HV0 : Hid (SL W0 w7 R kq kg tb x y l 0) := ⟨by
    have e : cS (y : Int) l 0 = up (fun _ => s1 [] 10000) 0 (s1 l 10000) := by funext i; unfold cS; rw [if_neg (Nat.not_lt_zero _)]
    rw [e]; exact a7, (k7.2 tb _ _ H6.out kT_pair8).trans H6.out⟩
  clear cF a7 k7 p2 H6
  go_wp2_with fail
  go_loopw [9] (fun ii wr => ∃ j : Nat, j ≤ 2 ∧ ii = .int .i64 j ∧ Hid (SL W0 wr R kq kg tb x y l j)) (fun ii _ => 2 - (intOf ii).toNat)
  case atStart => exact ⟨0, by omega, rfl, HV0.out⟩
  case round =>
    obtain ⟨j, hj, rfl, hV⟩ := hrel
    by_cases hlt : j < 2
    · have ij : (j : Int) < 2 := by omega
      have ij2 : decide ((j : Int) < 2) = true := decide_eq_true ij
      have HS9 : Hid (wr.drew.cell? ⟨pp, 1, none⟩ = some (.slice (some ⟨gd, 0, none⟩) 2 gcap) ∧ wr.drew.cell? ⟨gd, j, none⟩ = some (.pointer (some ⟨(R.P j).p, 0, none⟩)) ∧ wr.drew.cell? ⟨tb, 1, none⟩ = some (.int .u8 (y : Int))) := by
        have f0 := HF.out _ _ _ _ _ _ _ _ (hV.out.ar.keep (Below.refl _ _).drew)
        have d2 := cell_of_row wr.drew tb 1 _ _ _ (((Below.refl _ _).drew.block tb (Array.getElem?_eq_some_iff.1 hV.out.bx).1).trans hV.out.bx)
        simp only [List.getElem?_toArray, List.getElem?_cons_zero, List.getElem?_cons_succ] at d2
        exact ⟨f0.2.1, f0.2.2.2 j hlt, d2⟩
      have K : Hid (Calls Tryz.prog 24 #[.pointer (some ⟨(R.P j).p, 0, none⟩), .int .i64 (y : Int)] wr.drew fun e w8 => e = .returned (.tuple #[]) ∧ (w8.cell? ⟨pp, 1, none⟩ = some (.slice (some ⟨gd, 0, none⟩) 2 gcap) ∧ w8.cell? ⟨gd, j, none⟩ = some (.pointer (some ⟨(R.P j).p, 0, none⟩)) ∧ w8.cell? ⟨tb, 1, none⟩ = some (.int .u8 (y : Int))) ∧ Hid (SL W0 w8 R kq kg tb x y l (j + 1))) := by
        have hy := HX.out.2
        refine (ar_crash (hV.out.ar.keep (Below.refl _ _).drew) (i := j) (by rw [HP.out.2]; exact hlt) (k := (y : Int)) (by omega) (by omega)).mono ?_
        rintro e w8 ⟨rfl, a8, k8⟩
        rw [cS_next] at a8
        have f0 := HF.out _ _ _ _ _ _ _ _ a8
        have h0 := ((Below.refl _ _).drew.block tb (Array.getElem?_eq_some_iff.1 hV.out.bx).1).trans hV.out.bx
        have h8 := (k8.2 tb _ _ h0 kT_pair8).trans h0
        have d2 := cell_of_row w8 tb 1 _ _ _ h8
        simp only [List.getElem?_toArray, List.getElem?_cons_zero, List.getElem?_cons_succ] at d2
        exact ⟨rfl, ⟨f0.2.1, f0.2.2.2 j hlt, d2⟩, a8, h8⟩
      have e5 : IntKind.i64.wrap (y : Int) = (y : Int) := by have := HX.out; rw [IntKind.wrap_i64]; omega
      clear hV hlt
      go_wp2_with fail
      go_region_held3 (fun Y => Y.cell? ⟨pp, 1, none⟩ = some (.slice (some ⟨gd, 0, none⟩) 2 gcap) ∧ Y.cell? ⟨gd, j, none⟩ = some (.pointer (some ⟨(R.P j).p, 0, none⟩)) ∧ Y.cell? ⟨tb, 1, none⟩ = some (.int .u8 (y : Int)))
        (first | with_reducible exact HS9.out | with_reducible exact p1)
        (first
          | (go_at_call 24; with_reducible refine K.out.mono ?_; rintro e w8 ⟨rfl, p1, HE⟩))
      clear HS9 K p1
      go_wp2
      go_round
      case rel => exact ⟨j + 1, by omega, by go_num, HE.out⟩
      case measure => simp [intOf]; omega
    · have hj2 : j = 2 := by omega
      subst hj2
      have hA := hV.out.ar
      have f0 := HF.out _ _ _ _ _ _ _ _ hA
      have p1 := f0.2.1
      have p2 := f0.2.2.2 0 (by decide)
      have cL := on_look (hA.on (i := 0) (by rw [HP.out.2]; decide)) (x := pX) (by unfold maxLen; decide)
      have hfs : (cS (y : Int) l 2 0).fs = crashS (y : Int) l := by
        unfold cS
        rw [if_pos (by decide), up_at]
        rfl
      have hfi := HFI.out (y : Int)
      rw [hfs, hfi.1, hfi.2.1] at cL
      change Calls Tryz.prog 25 #[.pointer (some ⟨(R.P 0).p, 0, none⟩), .string ⟨#[120]⟩] wr _ at cL
      have HB : Hid (Below W0.heap.size W0 wr) := hA.b
      clear hlt hV hA f0 hfs hfi
      go_wp2_with fail
      go_at_call 25
      refine cL.mono ?_
      rintro e w8 ⟨la, ln, lc, rfl, hL⟩
      have HB8 : Hid (Below W0.heap.size W0 w8) := HB.out.trans (hL.out.2.2.mono HB.out.size)
      have v1 := hL.out.1.conv
      have v2 := (HI.out.1.keep HB8.out).conv
      have v3 := (HI.out.2.keep HB8.out).conv
      have hfi := (HFI.out (y : Int)).2.2
      clear cL hL p1 p2
      rcases hfi with ⟨rfl, hb⟩ | ⟨rfl, hb⟩
      · rw [hb] at v1
        clear hb v2
        go_wp2
        go_ret
        exact ⟨rfl, HB8.out⟩
      · rw [hb] at v1
        clear hb
        go_wp2
        go_ret
        exact ⟨rfl, HB8.out⟩


set_option maxRecDepth 100000 in
theorem lifted (os : Os) (started : os.Started) (H : Type) (enc : TypeId × Value → H) :
    ReturnsInHanded {} Tryz.checked os 4 .any (fun w args => (Rows.arraySavesSpec.pre enc Tryz.prog Tryz.f4 [] false w args ∧ laidMetH Tryz.prog laidAll w) ∧ sizedMet enc Tryz.prog Tryz.f4 (OpenSpec.ofChange Rows.arraySavesSpec) false w args) (Rows.arraySavesSpec.post enc Tryz.prog Tryz.f4 false true false false) := by
  refine returnsInHanded_of_change_and (C := Tryz.checked) (X := fun w _ => laidMetH Tryz.prog laidAll w) (fun _ _ _ hh h => h.of_heap hh) own started (by kernel_rfl) Tryz.func4
    (ChangeSpec.witness_shaped (enc := enc) (C := Tryz.checked) (os := os) (X := fun w _ => laidMetH Tryz.prog laidAll w) false (World.doorLaid Tryz.prog 400 os) #[.slice none 0 0, .slice none 0 0, .agg #[.int .u8 0, .int .u8 0]] 8 rfl (World.shaped_of_RefB (by kernel_rfl) (by kernel_rfl)) (by kernel_rfl) (by kernel_rfl) (by kernel_rfl) (door_met os _)) ?_
  intro W base args ds gs before hval0 hW _ hsz0 hL _
  have hval : ∀ (j : Nat) t v, Tryz.f4.params[j]? = some t → args[j]? = some v → Value.okWide Tryz.prog W .any base t v := hval0
  have hW' := hW
  obtain ⟨p, q, hA0, hV, rfl, hfz, hnd⟩ := hW
  have hA : DataW.TrodAll enc Tryz.prog W 0 (fun _ => true) true Tryz.f4.params.toList args.toList ds p := hA0
  rw [Tryz.params4] at hA hval
  have T := halfT_of hL
  obtain ⟨v0, vs0, d0, ds0, p0, q0, hargs, rfl, rfl, h0, r0⟩ := trodAll_cons hA
  obtain ⟨v1, vs1, d1, ds1, p1, q1, rfl, rfl, rfl, h1, r1⟩ := trodAll_cons r0
  obtain ⟨v2, vs2, d2, ds2, p2, q2, rfl, rfl, rfl, h2, r2⟩ := trodAll_cons r1
  obtain ⟨rfl, rfl, rfl⟩ := trodAll_nil r2
  obtain rfl : args = #[v0, v1, v2] := by cases args; simp_all
  obtain ⟨rfl, rfl⟩ := trodVars_none hV
  obtain ⟨a0, len0, cap0, rfl⟩ := okWide_slice Tryz.underlying27 (hval 0 27 v0 rfl rfl)
  have k0 := h0
  have lt0 : ∀ x ∈ p0, x.block < W.heap.size := by obtain ⟨m, hm⟩ := k0; exact DataW.trod_lt m _ _ _ hm
  obtain ⟨f0, m0, z0, e0, c0⟩ := open_row h0
  obtain ⟨a1, len1, cap1, rfl⟩ := okWide_slice Tryz.underlying27 (hval 1 27 v1 rfl rfl)
  have k1 := h1
  have lt1 : ∀ x ∈ p1, x.block < W.heap.size := by obtain ⟨m, hm⟩ := k1; exact DataW.trod_lt m _ _ _ hm
  obtain ⟨f1, m1, z1, e1, c1⟩ := open_row h1
  have k2 := h2
  have lt2 : ∀ x ∈ p2, x.block < W.heap.size := by obtain ⟨m, hm⟩ := k2; exact DataW.trod_lt m _ _ _ hm
  obtain ⟨x2, y2, e2, rfl⟩ := open_pair8 (hval 2 59 v2 rfl rfl) h2
  clear hA0 hval0 hsz0 hL
  refine (core a0 len0 cap0 f0 a1 len1 cap1 f1 x2 y2 W T m0 z0 e0 c0 m1 z1 e1 c1 e2).mono fun e W' ⟨he, bel⟩ => ?_
  subst he
  exact ⟨_, rfl, _, _, _, [], _, [], hW', trodAll_mk1 (shut_bool Tryz.underlying4 _), (trodAll_cons_mk (Below.trod laidOut (by kernel_rfl) (of_decide_eq_true (by kernel_rfl)) k0 bel lt0) (trodAll_cons_mk (Below.trod laidOut (by kernel_rfl) (of_decide_eq_true (by kernel_rfl)) k1 bel lt1) (trodAll_cons_mk (Below.trod laidOut (by kernel_rfl) (of_decide_eq_true (by kernel_rfl)) k2 bel lt2) trodAll_mk0))), rfl, bel.frame _, fun h => by cases h⟩

theorem over : Rows.arraySavesRow.holds Tryz.pinned (OpenSpec.ofChange Rows.arraySavesSpec) :=
  OpenClaim.holds_of_wide 4 Tryz.f4 rfl rfl rfl rfl rfl rfl rfl ⟨rfl, rfl, rfl, rfl, rfl⟩ rfl rfl rfl rfl rfl (by kernel_rfl) Tryz.func4 (by kernel_rfl)
    (of_decide_eq_true (by kernel_rfl)) (by unfold Func.isWrapper; first | (rw [if_pos (by decide +kernel)]; kernel_rfl) | (rw [if_neg (by decide +kernel)]; exact ⟨rfl, rfl⟩))
    (fun os started H enc _ => lifted os started H enc)

end arraySaves

/-- The statement. -/
theorem arraySaves_holds : Rows.ArraySavesCardSaid :=
  Claim7.holds_tied_plain_at .later [] [.data] true (true, "068aef5827ed462c86abaa8d604d6062cbf9f85ef455549f908696079f450565") false
    arraySaves.over (fun _ h => by cases h) (by kernel_rfl) (fun _ h => by cases h) arraySaves_row_tie rfl ⟨rfl, rfl⟩ (by kernel_rfl) rfl
    (fun f fn hf hfn => by
      obtain rfl : f = 4 := Option.some.inj ((show Tryz.prog.funcNamed "strongbox/strongboxlaw12.ArraySaves" = some 4 by kernel_rfl).symm.trans hf) |>.symm
      obtain rfl : fn = Tryz.f4 := (Option.some.inj (Tryz.func4.symm.trans hfn)).symm
      exact ⟨by kernel_rfl, fun j t ht => by
        rw [Tryz.params4] at ht
        have hm : t ∈ [27, 27, 59] := by simpa using Array.mem_of_getElem? ht
        have hall : ([27, 27, 59].all fun u => !Tryz.prog.wantsStandIn u) = true := by kernel_rfl
        exact (show Tryz.prog.wantsStandIn t = false by simpa using List.all_eq_true.1 hall t hm)⟩)
    (by kernel_rfl)
#print axioms arraySaves_holds
end Go.Proofs.YtebngmgdciahiaaGreatDoor
