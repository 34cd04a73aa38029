/-
  Plain mathematics of names: paths, two small digits of base 16 a byte, and back; buckets' names, sign by sign.
-/
import Derived.Test.YthkhkijdehbbmaaNmM
namespace Go.Proofs.Ythkhkijdehbbmaa
namespace Nm

/-- A digit of base 16. -/
def hx (d : Nat) : UInt8 := UInt8.ofNat (if d < 10 then 48 + d else 87 + d)
theorem hx_toNat {d : Nat} (h : d < 16) : (hx d).toNat = if d < 10 then 48 + d else 87 + d := by
  unfold hx
  rw [UInt8.toNat_ofNat']
  split <;> omega
theorem hx_lt {d e : Nat} (hd : d < 16) (he : e < 16) : (hx d).toNat < (hx e).toNat ↔ d < e := by
  rw [hx_toNat hd, hx_toNat he]; split <;> split <;> omega
theorem hx_inj {d e : Nat} (hd : d < 16) (he : e < 16) : hx d = hx e ↔ d = e := by
  constructor
  · intro h
    have := congrArg UInt8.toNat h
    rw [hx_toNat hd, hx_toNat he] at this
    split at this <;> split at this <;> omega
  · intro h; rw [h]
/-- The path of a text. -/
def pth : List UInt8 → List UInt8
  | [] => []
  | c :: t => hx (c.toNat / 16) :: hx (c.toNat % 16) :: pth t
theorem pth_length (a : List UInt8) : (pth a).length = 2 * a.length := by
  induction a with
  | nil => rfl
  | cons c t ih => simp [pth, ih]; omega
theorem pth_app (a b : List UInt8) : pth (a ++ b) = pth a ++ pth b := by
  induction a with
  | nil => rfl
  | cons c t ih => simp [pth, ih]
theorem two {x y : UInt8} (h1 : x.toNat / 16 = y.toNat / 16) (h2 : x.toNat % 16 = y.toNat % 16) : x = y := UInt8.toNat_inj.1 (by omega)
theorem pth_ls (a : List UInt8) : ∀ b, ls (pth a) (pth b) = ls a b := by
  induction a with
  | nil => intro b; cases b <;> rfl
  | cons x a ih =>
    intro b
    cases b with
    | nil => rfl
    | cons y b =>
      have hx1 := x.toNat_lt
      have hy1 := y.toNat_lt
      show ls (hx (x.toNat / 16) :: hx (x.toNat % 16) :: pth a) (hx (y.toNat / 16) :: hx (y.toNat % 16) :: pth b) = _
      rw [ls_cons, ls_cons, ls_cons]
      have i1 := hx_inj (d := x.toNat / 16) (e := y.toNat / 16) (by omega) (by omega)
      have i2 := hx_inj (d := x.toNat % 16) (e := y.toNat % 16) (by omega) (by omega)
      have l1 := hx_lt (d := x.toNat / 16) (e := y.toNat / 16) (by omega) (by omega)
      have l2 := hx_lt (d := x.toNat % 16) (e := y.toNat % 16) (by omega) (by omega)
      by_cases e1 : x.toNat / 16 = y.toNat / 16
      · rw [if_pos (i1.2 e1)]
        by_cases e2 : x.toNat % 16 = y.toNat % 16
        · rw [if_pos (i2.2 e2), if_pos (two e1 e2), ih]
        · rw [if_neg (fun q => e2 (i2.1 q)), if_neg (fun q => e2 (by rw [q]))]
          have : ((hx (x.toNat % 16)).toNat < (hx (y.toNat % 16)).toNat) ↔ x.toNat < y.toNat := l2.trans (by omega)
          exact decide_eq_decide.2 this
      · rw [if_neg (fun q => e1 (i1.1 q)), if_neg (fun q => e1 (by rw [q]))]
        have : ((hx (x.toNat / 16)).toNat < (hx (y.toNat / 16)).toNat) ↔ x.toNat < y.toNat := l1.trans (by omega)
        exact decide_eq_decide.2 this
theorem pth_inj (a b : List UInt8) (h : pth a = pth b) : a = b := by
  have h1 := pth_ls a b
  have h2 := pth_ls b a
  rw [h, ls_same] at h1
  rw [h, ls_same] at h2
  exact ls_none a b h1.symm h2.symm
theorem pth_pre (a : List UInt8) : ∀ p, pre (pth a) (pth p) = pre a p := by
  induction a with
  | nil => intro p; cases p <;> rfl
  | cons x a ih =>
    intro p
    cases p with
    | nil => rfl
    | cons y p =>
      have hx1 := x.toNat_lt
      have hy1 := y.toNat_lt
      show pre (hx (x.toNat / 16) :: hx (x.toNat % 16) :: pth a) (hx (y.toNat / 16) :: hx (y.toNat % 16) :: pth p) = _
      rw [pre_cons, pre_cons, pre_cons, ih, ← Bool.and_assoc]
      congr 1
      have i1 := hx_inj (d := x.toNat / 16) (e := y.toNat / 16) (by omega) (by omega)
      have i2 := hx_inj (d := x.toNat % 16) (e := y.toNat % 16) (by omega) (by omega)
      rw [← Bool.decide_and]
      refine decide_eq_decide.2 ⟨fun ⟨q1, q2⟩ => two (i1.1 q1) (i2.1 q2), fun q => by rw [q]; exact ⟨rfl, rfl⟩⟩
/-- What a digit says; 16: it is none. -/
def dg (c : UInt8) : Nat := if 48 ≤ c.toNat ∧ c.toNat ≤ 57 then c.toNat - 48 else if 97 ≤ c.toNat ∧ c.toNat ≤ 102 then c.toNat - 87 else 16
theorem dg_hx {d : Nat} (h : d < 16) : dg (hx d) = d := by
  unfold dg; rw [hx_toNat h]; repeat' split
  all_goals omega
theorem dg_le (c : UInt8) : dg c ≤ 16 := by unfold dg; repeat' split
                                            all_goals omega
/-- The text of a path. -/
def unp : List UInt8 → Option (List UInt8)
  | [] => some []
  | [_] => none
  | x :: y :: t => if dg x < 16 ∧ dg y < 16 then (unp t).map fun l => UInt8.ofNat (16 * dg x + dg y) :: l else none
theorem unp_pth (a : List UInt8) : unp (pth a) = some a := by
  induction a with
  | nil => rfl
  | cons c t ih =>
    have hc := c.toNat_lt
    show unp (hx (c.toNat / 16) :: hx (c.toNat % 16) :: pth t) = _
    rw [unp, dg_hx (by omega), dg_hx (by omega), if_pos (by omega), ih]
    show some (UInt8.ofNat (16 * (c.toNat / 16) + c.toNat % 16) :: t) = _
    rw [Nat.div_add_mod, UInt8.ofNat_toNat]

/-- A small letter or a digit. -/
def al (c : UInt8) : Bool := decide (97 ≤ c.toNat ∧ c.toNat ≤ 122) || decide (48 ≤ c.toNat ∧ c.toNat ≤ 57)
/-- A hyphen or a point. -/
def dt (c : UInt8) : Bool := decide (c.toNat = 45) || decide (c.toNat = 46)
/-- From here on a bucket's name may go on so; was: a hyphen or a point, or nothing, stood ahead. -/
def bk (was : Bool) : List UInt8 → Bool
  | [] => !was
  | c :: t => (al c || dt c) && !(dt c && was) && bk (dt c) t
theorem bk_cons (was : Bool) (c : UInt8) (t : List UInt8) : bk was (c :: t) = ((al c || dt c) && !(dt c && was) && bk (dt c) t) := rfl
theorem bk_join (a b : List UInt8) : ∀ was, bk was (a ++ 46 :: b) = (bk was a && bk true b) := by
  induction a with
  | nil =>
    intro was
    have h1 : dt 46 = true := by decide
    show bk was (46 :: b) = _
    rw [bk_cons, h1]
    simp [bk]
  | cons c t ih =>
    intro was
    show bk was (c :: (t ++ 46 :: b)) = _
    rw [bk_cons, bk_cons, ih, Bool.and_assoc, Bool.and_assoc, Bool.and_assoc]
end Nm
end Go.Proofs.Ythkhkijdehbbmaa
