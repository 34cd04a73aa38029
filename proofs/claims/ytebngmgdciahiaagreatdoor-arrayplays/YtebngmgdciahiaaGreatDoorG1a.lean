/-
  Texts of earlier stages, one behind the other: NmM, NmP, NmR, SmP.
-/
import Derived.KernelRfl
import Derived.Test.YtebngmgdciahiaaGreatDoorRows
import Derived.WalkKit
import Derived.WalkSpells
import Derived.WalkLawsBesides
import Derived.ProofKit
import Derived.Below
import Derived.Deep.QuietTactic
import Derived.BigQuiet
import Derived.Deep.DrawnRows
import Derived.Laws.Externs
set_option maxRecDepth 100000
namespace Go.Proofs.YtebngmgdciahiaaGreatDoor
namespace Nm

/-- Byte by byte: a is ahead of b. -/
def ls : List UInt8 → List UInt8 → Bool
  | _, [] => false
  | [], _ :: _ => true
  | x :: a, y :: b => if x = y then ls a b else decide (x.toNat < y.toNat)
theorem ls_nil (a : List UInt8) : ls a [] = false := by cases a <;> rfl
theorem ls_cons (x y : UInt8) (a b : List UInt8) : ls (x :: a) (y :: b) = if x = y then ls a b else decide (x.toNat < y.toNat) := rfl
theorem ls_same (a : List UInt8) : ls a a = false := by
  induction a with
  | nil => rfl
  | cons x a ih => rw [ls_cons, if_pos rfl, ih]
theorem u8_ne {x y : UInt8} (h : x ≠ y) : x.toNat ≠ y.toNat := fun e => h (UInt8.toNat_inj.1 e)
theorem ls_both (a : List UInt8) : ∀ b, ls a b = true → ls b a = false := by
  induction a with
  | nil => intro b _; exact ls_nil b
  | cons x a ih =>
    intro b h
    cases b with
    | nil => rw [ls_nil] at h; cases h
    | cons y b =>
      rw [ls_cons] at h ⊢
      by_cases e : x = y
      · rw [if_pos e] at h; rw [if_pos e.symm]; exact ih b h
      · rw [if_neg e] at h; rw [if_neg (fun q => e q.symm)]
        have := of_decide_eq_true h
        exact decide_eq_false (by omega)
theorem ls_none (a : List UInt8) : ∀ b, ls a b = false → ls b a = false → a = b := by
  induction a with
  | nil => intro b h _; cases b with | nil => rfl | cons y b => cases h
  | cons x a ih =>
    intro b h k
    cases b with
    | nil => cases k
    | cons y b =>
      rw [ls_cons] at h k
      by_cases e : x = y
      · rw [if_pos e] at h; rw [if_pos e.symm] at k; rw [e, ih b h k]
      · rw [if_neg e] at h; rw [if_neg (fun q => e q.symm)] at k
        have h1 := of_decide_eq_false h
        have h2 := of_decide_eq_false k
        exact absurd (UInt8.toNat_inj.1 (by omega)) e
theorem ls_trans (a : List UInt8) : ∀ b c, ls a b = true → ls b c = true → ls a c = true := by
  induction a with
  | nil =>
    intro b c h k
    cases c with
    | nil => rw [ls_nil] at k; cases k
    | cons z c => rfl
  | cons x a ih =>
    intro b c h k
    cases b with
    | nil => cases h
    | cons y b =>
      cases c with
      | nil => cases k
      | cons z c =>
        rw [ls_cons] at h k ⊢
        by_cases e : x = y
        · rw [if_pos e] at h
          by_cases e2 : y = z
          · rw [if_pos e2] at k; rw [if_pos (e.trans e2)]; exact ih b c h k
          · rw [if_neg e2] at k; rw [e, if_neg e2]; exact k
        · rw [if_neg e] at h
          have h1 := of_decide_eq_true h
          by_cases e2 : y = z
          · rw [← e2, if_neg e]; exact h
          · rw [if_neg e2] at k
            have h2 := of_decide_eq_true k
            rw [if_neg (fun q => by rw [q] at h1; omega)]
            exact decide_eq_true (by omega)

/-- a begins with p. -/
def pre : List UInt8 → List UInt8 → Bool
  | _, [] => true
  | [], _ :: _ => false
  | x :: a, y :: p => decide (x = y) && pre a p
theorem pre_nil (a : List UInt8) : pre a [] = true := by cases a <;> rfl
theorem pre_cons (x y : UInt8) (a p : List UInt8) : pre (x :: a) (y :: p) = (decide (x = y) && pre a p) := rfl
theorem pre_take (p : List UInt8) : ∀ a, pre a p = decide (p.length ≤ a.length ∧ a.take p.length = p) := by
  induction p with
  | nil => intro a; rw [pre_nil]; simp
  | cons y p ih =>
    intro a
    cases a with
    | nil => simp [pre]
    | cons x a => rw [pre_cons, ih]; simp; by_cases e : x = y <;> simp [e]
/-- Nothing but bytes 255. -/
def ff : List UInt8 → Bool
  | [] => true
  | x :: t => decide (x = 255) && ff t
/-- The least text above all that begin with p; empty: there is none. -/
def nx : List UInt8 → List UInt8
  | [] => []
  | x :: t => if ff t = true then (if x = 255 then [] else [x + 1]) else x :: nx t
theorem nx_cons (x : UInt8) (t : List UInt8) : nx (x :: t) = if ff t = true then (if x = 255 then [] else [x + 1]) else x :: nx t := rfl
theorem ff_cons (x : UInt8) (t : List UInt8) : ff (x :: t) = (decide (x = 255) && ff t) := rfl
theorem nx_nil (p : List UInt8) : nx p = [] ↔ ff p = true := by
  induction p with
  | nil => exact ⟨fun _ => rfl, fun _ => rfl⟩
  | cons x t ih =>
    rw [nx_cons, ff_cons]
    by_cases h : ff t = true
    · rw [if_pos h, h]
      by_cases e : x = 255
      · rw [if_pos e]; simp [e]
      · rw [if_neg e]; simp [e]
    · rw [if_neg h]
      have : ff t = false := by simpa using h
      rw [this]; simp
theorem inc_toNat {x : UInt8} (h : x ≠ 255) : (x + 1).toNat = x.toNat + 1 := by
  have := u8_ne h
  have hl := x.toNat_lt
  rw [UInt8.toNat_add]
  have h255 : (255 : UInt8).toNat = 255 := rfl
  have h1 : (1 : UInt8).toNat = 1 := rfl
  rw [h255] at this
  rw [h1]
  omega
/-- What begins with p is between p and the next one. -/
theorem nx_pre (p : List UInt8) : ∀ a, (!ls a p && (decide (nx p = []) || ls a (nx p))) = pre a p := by
  induction p with
  | nil => intro a; rw [ls_nil, pre_nil]; simp [nx]
  | cons x t ih =>
    intro a
    cases a with
    | nil => simp [ls, pre]
    | cons y b =>
      rw [pre_cons, ls_cons]
      have ihb := ih b
      by_cases e : y = x
      · subst e
        rw [if_pos rfl, decide_eq_true rfl, Bool.true_and, ← ihb]
        by_cases h : ff t = true
        · have hn : nx t = [] := (nx_nil t).2 h
          rw [hn]
          rw [nx_cons, if_pos h]
          by_cases e : y = 255
          · rw [if_pos e]; simp
          · rw [if_neg e, ls_cons, if_neg (fun q => by have := congrArg UInt8.toNat q; rw [inc_toNat e] at this; omega), decide_eq_true (show y.toNat < (y + 1).toNat by rw [inc_toNat e]; omega)]
            simp
        · have hn : nx t ≠ [] := fun q => h ((nx_nil t).1 q)
          have hx : nx (y :: t) = y :: nx t := by rw [nx_cons, if_neg h]
          rw [hx, ls_cons, if_pos rfl]
          simp [hn]
      · rw [if_neg e, decide_eq_false e, Bool.false_and]
        by_cases hl : y.toNat < x.toNat
        · rw [decide_eq_true hl]; rfl
        · rw [decide_eq_false hl]
          have hne := u8_ne e
          by_cases h : ff t = true
          · have hx : nx (x :: t) = if x = 255 then [] else [x + 1] := by rw [nx_cons, if_pos h]
            have hx5 : x ≠ 255 := fun q => by
              have hy := y.toNat_lt
              rw [q] at hl hne
              have h255 : (255 : UInt8).toNat = 255 := rfl
              omega
            rw [hx, if_neg hx5, ls_cons]
            have hi := inc_toNat hx5
            by_cases e2 : y = x + 1
            · rw [if_pos e2, ls_nil]; simp
            · rw [if_neg e2, decide_eq_false (show ¬ y.toNat < (x + 1).toNat by omega)]; simp
          · have hx : nx (x :: t) = x :: nx t := by rw [nx_cons, if_neg h]
            rw [hx, ls_cons, if_neg e, decide_eq_false hl]; simp
end Nm
end Go.Proofs.YtebngmgdciahiaaGreatDoor

namespace Go.Proofs.YtebngmgdciahiaaGreatDoor
namespace Nm

/-- A digit of base 16. -/
def hx (d : Nat) : UInt8 := UInt8.ofNat (if d < 10 then 48 + d else 87 + d)
theorem hx_toNat {d : Nat} (h : d < 16) : (hx d).toNat = if d < 10 then 48 + d else 87 + d := by
  unfold hx
  rw [UInt8.toNat_ofNat']
  split <;> omega
theorem hx_lt {d e : Nat} (hd : d < 16) (he : e < 16) : (hx d).toNat < (hx e).toNat ↔ d < e := by
  rw [hx_toNat hd, hx_toNat he]; split <;> split <;> omega
theorem hx_inj {d e : Nat} (hd : d < 16) (he : e < 16) : hx d = hx e ↔ d = e := by
  constructor
  · intro h
    have := congrArg UInt8.toNat h
    rw [hx_toNat hd, hx_toNat he] at this
    split at this <;> split at this <;> omega
  · intro h; rw [h]
/-- The path of a text. -/
def pth : List UInt8 → List UInt8
  | [] => []
  | c :: t => hx (c.toNat / 16) :: hx (c.toNat % 16) :: pth t
theorem pth_length (a : List UInt8) : (pth a).length = 2 * a.length := by
  induction a with
  | nil => rfl
  | cons c t ih => simp [pth, ih]; omega
theorem pth_app (a b : List UInt8) : pth (a ++ b) = pth a ++ pth b := by
  induction a with
  | nil => rfl
  | cons c t ih => simp [pth, ih]
theorem two {x y : UInt8} (h1 : x.toNat / 16 = y.toNat / 16) (h2 : x.toNat % 16 = y.toNat % 16) : x = y := UInt8.toNat_inj.1 (by omega)
theorem pth_ls (a : List UInt8) : ∀ b, ls (pth a) (pth b) = ls a b := by
  induction a with
  | nil => intro b; cases b <;> rfl
  | cons x a ih =>
    intro b
    cases b with
    | nil => rfl
    | cons y b =>
      have hx1 := x.toNat_lt
      have hy1 := y.toNat_lt
      show ls (hx (x.toNat / 16) :: hx (x.toNat % 16) :: pth a) (hx (y.toNat / 16) :: hx (y.toNat % 16) :: pth b) = _
      rw [ls_cons, ls_cons, ls_cons]
      have i1 := hx_inj (d := x.toNat / 16) (e := y.toNat / 16) (by omega) (by omega)
      have i2 := hx_inj (d := x.toNat % 16) (e := y.toNat % 16) (by omega) (by omega)
      have l1 := hx_lt (d := x.toNat / 16) (e := y.toNat / 16) (by omega) (by omega)
      have l2 := hx_lt (d := x.toNat % 16) (e := y.toNat % 16) (by omega) (by omega)
      by_cases e1 : x.toNat / 16 = y.toNat / 16
      · rw [if_pos (i1.2 e1)]
        by_cases e2 : x.toNat % 16 = y.toNat % 16
        · rw [if_pos (i2.2 e2), if_pos (two e1 e2), ih]
        · rw [if_neg (fun q => e2 (i2.1 q)), if_neg (fun q => e2 (by rw [q]))]
          have : ((hx (x.toNat % 16)).toNat < (hx (y.toNat % 16)).toNat) ↔ x.toNat < y.toNat := l2.trans (by omega)
          exact decide_eq_decide.2 this
      · rw [if_neg (fun q => e1 (i1.1 q)), if_neg (fun q => e1 (by rw [q]))]
        have : ((hx (x.toNat / 16)).toNat < (hx (y.toNat / 16)).toNat) ↔ x.toNat < y.toNat := l1.trans (by omega)
        exact decide_eq_decide.2 this
theorem pth_inj (a b : List UInt8) (h : pth a = pth b) : a = b := by
  have h1 := pth_ls a b
  have h2 := pth_ls b a
  rw [h, ls_same] at h1
  rw [h, ls_same] at h2
  exact ls_none a b h1.symm h2.symm
theorem pth_pre (a : List UInt8) : ∀ p, pre (pth a) (pth p) = pre a p := by
  induction a with
  | nil => intro p; cases p <;> rfl
  | cons x a ih =>
    intro p
    cases p with
    | nil => rfl
    | cons y p =>
      have hx1 := x.toNat_lt
      have hy1 := y.toNat_lt
      show pre (hx (x.toNat / 16) :: hx (x.toNat % 16) :: pth a) (hx (y.toNat / 16) :: hx (y.toNat % 16) :: pth p) = _
      rw [pre_cons, pre_cons, pre_cons, ih, ← Bool.and_assoc]
      congr 1
      have i1 := hx_inj (d := x.toNat / 16) (e := y.toNat / 16) (by omega) (by omega)
      have i2 := hx_inj (d := x.toNat % 16) (e := y.toNat % 16) (by omega) (by omega)
      rw [← Bool.decide_and]
      refine decide_eq_decide.2 ⟨fun ⟨q1, q2⟩ => two (i1.1 q1) (i2.1 q2), fun q => by rw [q]; exact ⟨rfl, rfl⟩⟩
/-- What a digit says; 16: it is none. -/
def dg (c : UInt8) : Nat := if 48 ≤ c.toNat ∧ c.toNat ≤ 57 then c.toNat - 48 else if 97 ≤ c.toNat ∧ c.toNat ≤ 102 then c.toNat - 87 else 16
theorem dg_hx {d : Nat} (h : d < 16) : dg (hx d) = d := by
  unfold dg; rw [hx_toNat h]; repeat' split
  all_goals omega
theorem dg_le (c : UInt8) : dg c ≤ 16 := by unfold dg; repeat' split
                                            all_goals omega
/-- The text of a path. -/
def unp : List UInt8 → Option (List UInt8)
  | [] => some []
  | [_] => none
  | x :: y :: t => if dg x < 16 ∧ dg y < 16 then (unp t).map fun l => UInt8.ofNat (16 * dg x + dg y) :: l else none
theorem unp_pth (a : List UInt8) : unp (pth a) = some a := by
  induction a with
  | nil => rfl
  | cons c t ih =>
    have hc := c.toNat_lt
    show unp (hx (c.toNat / 16) :: hx (c.toNat % 16) :: pth t) = _
    rw [unp, dg_hx (by omega), dg_hx (by omega), if_pos (by omega), ih]
    show some (UInt8.ofNat (16 * (c.toNat / 16) + c.toNat % 16) :: t) = _
    rw [Nat.div_add_mod, UInt8.ofNat_toNat]

/-- A small letter or a digit. -/
def al (c : UInt8) : Bool := decide (97 ≤ c.toNat ∧ c.toNat ≤ 122) || decide (48 ≤ c.toNat ∧ c.toNat ≤ 57)
/-- A hyphen or a point. -/
def dt (c : UInt8) : Bool := decide (c.toNat = 45) || decide (c.toNat = 46)
/-- From here on a bucket's name may go on so; was: a hyphen or a point, or nothing, stood ahead. -/
def bk (was : Bool) : List UInt8 → Bool
  | [] => !was
  | c :: t => (al c || dt c) && !(dt c && was) && bk (dt c) t
theorem bk_cons (was : Bool) (c : UInt8) (t : List UInt8) : bk was (c :: t) = ((al c || dt c) && !(dt c && was) && bk (dt c) t) := rfl
theorem bk_join (a b : List UInt8) : ∀ was, bk was (a ++ 46 :: b) = (bk was a && bk true b) := by
  induction a with
  | nil =>
    intro was
    have h1 : dt 46 = true := by decide
    show bk was (46 :: b) = _
    rw [bk_cons, h1]
    simp [bk]
  | cons c t ih =>
    intro was
    show bk was (c :: (t ++ 46 :: b)) = _
    rw [bk_cons, bk_cons, ih, Bool.and_assoc, Bool.and_assoc, Bool.and_assoc]
end Nm
end Go.Proofs.YtebngmgdciahiaaGreatDoor

namespace Go.Proofs.YtebngmgdciahiaaGreatDoor
open Go.RowKit Nm
attribute [local go_sem ↓] Go.wp_at_zero Go.wp_at_succ
set_option linter.unusedVariables false

/-- A text's bytes. -/
def tx (s : ByteArray) : List UInt8 := s.data.toList
theorem tx_length (s : ByteArray) : (tx s).length = s.size := Array.length_toList
theorem tx_drop (s : ByteArray) (k : Nat) (h : k < s.size) : (tx s).drop k = s[k] :: (tx s).drop (k + 1) := by
  unfold tx
  rw [List.drop_eq_getElem_cons (by simpa using h)]
  rfl
theorem ret_b {a b : Bool} (h : a = b) : Ending.returned (.bool a) = .returned (.bool b) := by rw [h]

set_option maxRecDepth 100000 in
set_option maxHeartbeats 1000000 in
theorem rless_any (a b : ByteArray) (w : World) (ha : a.size ≤ maxLen) (hb : b.size ≤ maxLen) :
    Calls Tryz.prog 91 #[.string a, .string b] w fun e w' => e = .returned (.bool (ls (tx a) (tx b))) ∧ ∃ q, w' = w.drewN q := by
  unfold maxLen at ha hb
  have HZ : Hid (∀ L, ls (tx a) (tx b) = L → ls (tx a) (tx b) = L) := fun _ h => h
  obtain ⟨L, hL⟩ : ∃ L, ls (tx a) (tx b) = L := ⟨_, rfl⟩
  rw [hL]
  have HL : Hid (ls (tx a) (tx b) = L) := hL
  clear hL HZ
  go_enter Tryz.func91, Tryz.ntmps91
  go_wp2
  go_loopw [5] (fun i wr => ∃ k : Nat, k ≤ a.size ∧ k ≤ b.size ∧ i = .int .i64 (k : Int) ∧ ls ((tx a).drop k) ((tx b).drop k) = L ∧ ∃ q, wr = w.drewN q) (fun i _ => a.size - (intOf i).toNat)
  case atStart => exact ⟨0, by omega, by omega, rfl, by simpa using HL.out, 0, rfl⟩
  case round =>
    obtain ⟨k, hka, hkb, rfl, hl, q, rfl⟩ := hrel
    clear HL
    by_cases h1 : k < a.size
    · by_cases h2 : k < b.size
      · rw [tx_drop a k h1, tx_drop b k h2, ls_cons] at hl
        have i1 : (k : Int) < (a.size : Int) := by omega
        have i2 : (k : Int) < (b.size : Int) := by omega
        by_cases e : a[k] = b[k]
        · rw [if_pos e] at hl
          have HH : Hid (ls ((tx a).drop (k + 1)) ((tx b).drop (k + 1)) = L) := hl
          have e1 : (a[k].toNat : Int) = (b[k].toNat : Int) := by rw [e]
          clear hl e
          go_wp2
          go_quiet (fail)
          go_wp2
          go_round
          case rel => exact ⟨k + 1, by omega, by omega, by go_num, HH.out, _, rfl⟩
          case measure => simp [intOf]; omega
        · rw [if_neg e] at hl
          have HH : Hid (decide (a[k].toNat < b[k].toNat) = L) := hl
          have e1 : (a[k].toNat : Int) ≠ (b[k].toNat : Int) := by have := u8_ne e; omega
          clear hl e
          go_wp2
          go_quiet (fail)
          go_wp2
          go_quiet (fail)
          go_wp2
          go_ret
          refine ⟨ret_b ?_, _, by rw [World.drewN_drewN, World.drewN_drewN]⟩
          first | exact HH.out | (rw [← HH.out]; refine decide_eq_decide.2 ?_; omega)
      · have hk : k = b.size := by omega
        have hd : (tx b).drop k = [] := List.drop_eq_nil_of_le (by rw [tx_length]; omega)
        rw [hd, ls_nil] at hl
        have i1 : (k : Int) < (a.size : Int) := by omega
        have i2 : decide ((k : Int) < (b.size : Int)) = false := decide_eq_false (by omega)
        have i3 : decide ((a.size : Int) < (b.size : Int)) = false := decide_eq_false (by omega)
        have HH : Hid (false = L) := hl
        clear hl hd
        go_wp2
        go_ret
        exact ⟨ret_b (by rw [← HH.out]; first | done | exact decide_eq_false (by omega) | exact decide_eq_true (by omega)), _, rfl⟩
    · have hk : k = a.size := by omega
      have hd : (tx a).drop k = [] := List.drop_eq_nil_of_le (by rw [tx_length]; omega)
      have i1 : decide ((k : Int) < (a.size : Int)) = false := decide_eq_false (by omega)
      by_cases h2 : k < b.size
      · rw [hd, tx_drop b k h2] at hl
        have HH : Hid (true = L) := hl
        have i3 : (a.size : Int) < (b.size : Int) := by omega
        clear hl hd hk
        go_wp2
        go_ret
        exact ⟨ret_b (by rw [← HH.out]; first | done | exact decide_eq_false (by omega) | exact decide_eq_true (by omega)), _, rfl⟩
      · have hd2 : (tx b).drop k = [] := List.drop_eq_nil_of_le (by rw [tx_length]; omega)
        rw [hd, hd2] at hl
        have HH : Hid (false = L) := hl
        have i3 : decide ((a.size : Int) < (b.size : Int)) = false := decide_eq_false (by omega)
        clear hl hd hd2 hk
        go_wp2
        go_ret
        exact ⟨ret_b (by rw [← HH.out]; first | done | exact decide_eq_false (by omega) | exact decide_eq_true (by omega)), _, rfl⟩

theorem tx_inj {a b : ByteArray} (h : tx a = tx b) : a = b := ByteArray.ext (Array.toList_inj.1 h)
theorem tx_beq (a b : ByteArray) : (a.toList == b.toList) = decide (tx a = tx b) := by
  rw [ByteArray.toList_eq, ByteArray.toList_eq]
  by_cases h : tx a = tx b
  · rw [decide_eq_true h]; unfold tx at h; rw [h]; simp
  · rw [decide_eq_false h]; unfold tx at h; simpa using h
theorem tx_extract (s : ByteArray) (k : Nat) (h : k ≤ s.size) : tx (s.extract 0 k) = (tx s).take k := by
  unfold tx
  simp [ByteArray.data_extract]

set_option maxRecDepth 100000 in
set_option maxHeartbeats 1000000 in
theorem rprefix_any (a p : ByteArray) (w : World) (ha : a.size ≤ maxLen) (hp : p.size ≤ maxLen) :
    Calls Tryz.prog 95 #[.string a, .string p] w fun e w' => e = .returned (.bool (pre (tx a) (tx p))) ∧ w = w' := by
  unfold maxLen at ha hp
  rw [pre_take, tx_length, tx_length]
  by_cases h : p.size ≤ a.size
  · have i1 : (p.size : Int) ≤ (a.size : Int) := by omega
    go_enter Tryz.func95, Tryz.ntmps95
    go_wp2
    go_ret
    exact ⟨ret_b (by rw [tx_beq, tx_extract _ _ h]; exact decide_eq_decide.2 ⟨fun q => ⟨h, q⟩, fun q => q.2⟩), rfl⟩
  · have i1 : (a.size : Int) < (p.size : Int) := by omega
    go_enter Tryz.func95, Tryz.ntmps95
    go_wp2
    go_ret
    exact ⟨ret_b (by rw [decide_eq_false (by omega)]), rfl⟩
end Go.Proofs.YtebngmgdciahiaaGreatDoor

namespace Go.Proofs.YtebngmgdciahiaaGreatDoor
open Go.RowKit Nm
attribute [local go_sem ↓] Go.wp_at_zero Go.wp_at_succ
set_option linter.unusedVariables false

theorem less_ls (a : List UInt8) : ∀ b, Op.bytesLess a b = ls a b := by
  induction a with
  | nil => intro b; cases b <;> rfl
  | cons x a ih =>
    intro b
    cases b with
    | nil => rfl
    | cons y b =>
      rw [ls_cons, ← ih b]
      show (decide (x < y) || (x == y) && Op.bytesLess a b) = _
      by_cases e : x = y
      · subst e
        rw [if_pos rfl]
        show (decide (x < x) || (x == x) && Op.bytesLess a b) = Op.bytesLess a b
        have : ¬ x < x := fun q => absurd (UInt8.lt_iff_toNat_lt.1 q) (by omega)
        simp [this]
      · have := u8_ne e
        rw [if_neg e]
        by_cases hl : x.toNat < y.toNat
        · have h1 : x < y := UInt8.lt_iff_toNat_lt.2 hl
          simp [h1, hl]
        · have h1 : ¬ x < y := fun q => hl (UInt8.lt_iff_toNat_lt.1 q)
          simp [h1, hl, e]
set_option maxRecDepth 100000 in
theorem less_any (a b : ByteArray) (w : World) :
    Calls Tryz.prog 82 #[.string a, .string b] w fun e w' => e = .returned (.bool (ls (tx a) (tx b))) ∧ w = w' := by
  have h : Op.bytesLess a.toList b.toList = ls (tx a) (tx b) := by
    rw [less_ls, ByteArray.toList_eq, ByteArray.toList_eq]; rfl
  go_enter Tryz.func82, Tryz.ntmps82
  go_wp2
  go_ret
  exact ⟨rfl, rfl⟩

set_option maxRecDepth 100000 in
set_option maxHeartbeats 1000000 in
theorem has0_any (a p : ByteArray) (w : World) (ha : a.size ≤ maxLen) (hp : p.size ≤ maxLen) :
    Calls Tryz.prog 110 #[.string a, .string p] w fun e w' => e = .returned (.bool (pre (tx a) (tx p))) ∧ w = w' := by
  unfold maxLen at ha hp
  rw [pre_take, tx_length, tx_length]
  by_cases h : p.size ≤ a.size
  · have i1 : (p.size : Int) ≤ (a.size : Int) := by omega
    go_enter Tryz.func110, Tryz.ntmps110
    go_wp2
    go_ret
    exact ⟨ret_b (by rw [tx_beq, tx_extract _ _ h]; exact decide_eq_decide.2 ⟨fun q => ⟨h, q⟩, fun q => q.2⟩), rfl⟩
  · have i1 : (a.size : Int) < (p.size : Int) := by omega
    go_enter Tryz.func110, Tryz.ntmps110
    go_wp2
    go_ret
    exact ⟨ret_b (by rw [decide_eq_false (by omega)]), rfl⟩
set_option maxRecDepth 100000 in
theorem has_any (a p : ByteArray) (w : World) (ha : a.size ≤ maxLen) (hp : p.size ≤ maxLen) :
    Calls Tryz.prog 96 #[.string a, .string p] w fun e w' => e = .returned (.bool (pre (tx a) (tx p))) ∧ w = w' := by
  go_enter Tryz.func96, Tryz.ntmps96
  go_wp2_with (go_at_call 110; refine (has0_any a p _ ha hp).mono ?_; rintro e w' ⟨rfl, rfl⟩)
  go_ret
  exact ⟨rfl, rfl⟩
set_option maxRecDepth 100000 in
theorem prefix_any (a p : ByteArray) (w : World) (ha : a.size ≤ maxLen) (hp : p.size ≤ maxLen) :
    Calls Tryz.prog 79 #[.string a, .string p] w fun e w' => e = .returned (.bool (pre (tx a) (tx p))) ∧ w = w' := by
  go_enter Tryz.func79, Tryz.ntmps79
  go_wp2_with (go_at_call 96; refine (has_any a p _ ha hp).mono ?_; rintro e w' ⟨rfl, rfl⟩)
  go_ret
  exact ⟨rfl, rfl⟩

end Go.Proofs.YtebngmgdciahiaaGreatDoor
