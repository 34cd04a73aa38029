/-
  What the methods Log, Mul, Div, Inv, Pow of a table of New answer, and gf.Add: none of them changes anything.
-/
import Derived.Test.YtbfhmdphhhjlnaaExp
namespace Go.Proofs.Ytbfhmdphhhjlnaa
open Go.RowKit Gf

theorem Tab.drewN {w : World} {b : Nat} (h : Tab w b) (n : Nat) : Tab (w.drewN n) b := ⟨h.exp, h.log, h.one⟩
theorem Tab.keep {w w' : World} {b B : Nat} (h : Tab w b) (k : Below B w w') (hb : b < B) : Tab w' b :=
  ⟨fun i hi => (k.cell (p := ⟨b, i, none⟩) hb).trans (h.exp i hi), fun j hj => (k.cell (p := ⟨b, 255 + j, none⟩) hb).trans (h.log j hj), (k.cell (p := ⟨b, 0, none⟩) hb).trans h.one⟩

set_option maxRecDepth 100000 in
set_option maxHeartbeats 400000 in
theorem tmul_any (b x y : Nat) (w : World) (h : Tab w b) (hx : x < 256) (hy : y < 256) :
    Calls Try.prog 63 #[.pointer (some ⟨b, 0, none⟩), .int .u8 x, .int .u8 y] w fun e w' => e = .returned (.int .u8 (M x y : Nat)) ∧ ∃ n, w' = w.drewN n := by
  have h1 := h.one
  have hm := M_log hx hy
  by_cases z : x = 0
  · subst z
    rw [hm, if_pos (.inl rfl)]
    clear hm
    go_enter Try.func63, Try.ntmps63
    go_wp2_with (go_at_call 61; refine (built_any _ _ h1).mono ?_; rintro e w' ⟨rfl, rfl⟩)
    go_ret
    exact ⟨rfl, 0, rfl⟩
  by_cases z' : y = 0
  · subst z'
    have hd : ((x : Int) == 0) = false := by simp; omega
    rw [hm, if_pos (.inr rfl)]
    clear hm
    go_enter Try.func63, Try.ntmps63
    go_wp2_with (go_at_call 61; refine (built_any _ _ h1).mono ?_; rintro e w' ⟨rfl, rfl⟩)
    go_ret
    exact ⟨rfl, 0, rfl⟩
  have hd : ((x : Int) == 0) = false := by simp; omega
  have hd' : ((y : Int) == 0) = false := by simp; omega
  have cx := h.log x hx
  have cy := h.log y hy
  have lx := L_lt hx (by omega)
  have ly := L_lt hy (by omega)
  rw [hm, if_neg (by omega)]
  clear hm
  have hE := fun n => (exp_any b ((L x : Int) + (L y : Int)) (w.drewN n) (h.drewN n) (by omega) (by omega)).mono fun _ _ q => And.intro q.1 q.2.symm
  have e1 : E (((L x : Int) + (L y : Int)) % 255).toNat = E (L x + L y) := E_congr (by omega)
  rw [e1] at hE
  clear e1
  generalize E (L x + L y) = p at *
  generalize L x = lx at *
  generalize L y = ly at *
  have xi : (x : Int) < 256 := by omega
  have yi : (y : Int) < 256 := by omega
  go_enter Try.func63, Try.ntmps63
  go_wp2_with (go_at_call 61; refine (built_any _ _ h1).mono ?_; rintro e w' ⟨rfl, rfl⟩)
  go_quiet ((go_at_call 67; exact Calls.quiet_of_same (hE _)))
  go_wp2
  go_ret
  exact ⟨rfl, nq, rfl⟩

/-- The quotient as the table reckons it. -/
def dv (x y : Nat) : Nat := if x = 0 ∨ y = 0 then 0 else E (L x + 255 - L y)
theorem dv_lt (x y : Nat) : dv x y < 256 := by unfold dv; split; omega; exact E_lt _

set_option maxRecDepth 100000 in
set_option maxHeartbeats 400000 in
theorem div_any (b x y : Nat) (w : World) (h : Tab w b) (hx : x < 256) (hy : y < 256) :
    Calls Try.prog 72 #[.pointer (some ⟨b, 0, none⟩), .int .u8 x, .int .u8 y] w fun e w' => e = .returned (.tuple #[.int .u8 (dv x y : Nat), .bool (decide (0 < y))]) ∧ ∃ n, w' = w.drewN n := by
  have h1 := h.one
  unfold dv
  by_cases z' : y = 0
  · subst z'
    rw [if_pos (.inr rfl), decide_eq_false (by omega)]
    go_enter Try.func72, Try.ntmps72
    go_wp2_with (go_at_call 61; refine (built_any _ _ h1).mono ?_; rintro e w' ⟨rfl, rfl⟩)
    go_ret2
    exact ⟨rfl, 0, rfl⟩
  have hd' : ((y : Int) == 0) = false := by simp; omega
  rw [decide_eq_true (show 0 < y by omega)]
  by_cases z : x = 0
  · subst z
    rw [if_pos (.inl rfl)]
    go_enter Try.func72, Try.ntmps72
    go_wp2_with (go_at_call 61; refine (built_any _ _ h1).mono ?_; rintro e w' ⟨rfl, rfl⟩)
    go_ret2
    exact ⟨rfl, 0, rfl⟩
  have hd : ((x : Int) == 0) = false := by simp; omega
  have cx := h.log x hx
  have cy := h.log y hy
  have lx := L_lt hx (by omega)
  have ly := L_lt hy (by omega)
  rw [if_neg (by omega)]
  have hE := fun n => (exp_any b ((L x : Int) - (L y : Int)) (w.drewN n) (h.drewN n) (by omega) (by omega)).mono fun _ _ q => And.intro q.1 q.2.symm
  have e1 : E (((L x : Int) - (L y : Int)) % 255).toNat = E (L x + 255 - L y) := E_congr (by omega)
  rw [e1] at hE
  clear e1
  generalize E (L x + 255 - L y) = p at *
  generalize L x = lx at *
  generalize L y = ly at *
  have xi : (x : Int) < 256 := by omega
  have yi : (y : Int) < 256 := by omega
  go_enter Try.func72, Try.ntmps72
  go_wp2_with (go_at_call 61; refine (built_any _ _ h1).mono ?_; rintro e w' ⟨rfl, rfl⟩)
  go_quiet ((go_at_call 67; exact Calls.quiet_of_same (hE _)))
  go_wp2
  go_ret2
  exact ⟨rfl, nq, rfl⟩

set_option maxRecDepth 100000 in
set_option maxHeartbeats 400000 in
theorem inv_any (b x : Nat) (w : World) (h : Tab w b) (hx : x < 256) :
    Calls Try.prog 70 #[.pointer (some ⟨b, 0, none⟩), .int .u8 x] w fun e w' => e = .returned (.tuple #[.int .u8 (dv 1 x : Nat), .bool (decide (0 < x))]) ∧ ∃ n, w' = w.drewN n := by
  have hD : Calls Try.prog 72 #[.pointer (some ⟨b, 0, none⟩), .int .u8 1, .int .u8 x] w fun e w' => e = .returned (.tuple #[.int .u8 (dv 1 x : Nat), .bool (decide (0 < x))]) ∧ ∃ n, w' = w.drewN n :=
    div_any b 1 x w h (by omega) hx
  generalize dv 1 x = p at *
  generalize decide (0 < x) = q at *
  go_enter Try.func70, Try.ntmps70
  go_wp2_with (go_at_call 72; refine hD.mono ?_; rintro e w' ⟨rfl, n, rfl⟩)
  go_ret2
  exact ⟨rfl, _, rfl⟩

/-- The power as the table reckons it. -/
def pw (a : Nat) (n : Int) : Nat := if n < 0 then 0 else if n = 0 then 1 else if a = 0 then 0 else E (L a * (n % 255).toNat)
theorem pw_lt (a : Nat) (n : Int) : pw a n < 256 := by unfold pw; split; omega; split; omega; split; omega; exact E_lt _

set_option maxRecDepth 100000 in
set_option maxHeartbeats 400000 in
theorem pow_any (b x : Nat) (n : Int) (w : World) (h : Tab w b) (hx : x < 256) (n1 : -9223372036854775808 ≤ n) (n2 : n ≤ 9223372036854775807) :
    Calls Try.prog 54 #[.pointer (some ⟨b, 0, none⟩), .int .u8 x, .int .i64 n] w fun e w' => e = .returned (.int .u8 (pw x n : Nat)) ∧ w = w' := by
  have h1 := h.one
  unfold pw
  by_cases hn : n < 0
  · rw [if_pos hn]
    go_enter Try.func54, Try.ntmps54
    go_wp2_with (go_at_call 61; refine (built_any _ _ h1).mono ?_; rintro e w' ⟨rfl, rfl⟩)
    go_ret
    exact ⟨rfl, rfl⟩
  rw [if_neg hn]
  by_cases hz : n = 0
  · subst hz
    rw [if_pos rfl]
    clear hn
    go_enter Try.func54, Try.ntmps54
    go_wp2_with (go_at_call 61; refine (built_any _ _ h1).mono ?_; rintro e w' ⟨rfl, rfl⟩)
    go_ret
    exact ⟨rfl, rfl⟩
  rw [if_neg hz]
  have hz' : (n == 0) = false := by simp; omega
  have hn' : 0 < n := by omega
  by_cases z : x = 0
  · subst z
    rw [if_pos rfl]
    go_enter Try.func54, Try.ntmps54
    go_wp2_with (go_at_call 61; refine (built_any _ _ h1).mono ?_; rintro e w' ⟨rfl, rfl⟩)
    go_ret
    exact ⟨rfl, rfl⟩
  have hd : ((x : Int) == 0) = false := by simp; omega
  rw [if_neg z]
  have cx := h.log x hx
  have lx := L_lt hx (by omega)
  have m1 : 0 ≤ (L x : Int) * (n % 255) := Int.mul_nonneg (by omega) (by omega)
  have m2 : (L x : Int) * (n % 255) ≤ 255 * 255 := Int.mul_le_mul (by omega) (by omega) (by omega) (by omega)
  have hE := exp_any b ((L x : Int) * (n % 255)) w h (by omega) (by omega)
  have e1 : E (((L x : Int) * (n % 255)) % 255).toNat = E (L x * (n % 255).toNat) := by
    apply E_congr
    have q : (L x : Int) * (n % 255) = ((L x * (n % 255).toNat : Nat) : Int) := by
      rw [Int.natCast_mul]; congr 1; omega
    rw [q]; omega
  rw [e1] at hE
  clear e1
  have xi : (x : Int) < 256 := by omega
  generalize E (L x * (n % 255).toNat) = p at *
  generalize L x = lx at *
  go_enter Try.func54, Try.ntmps54
  go_wp2_with (first | (go_at_call 61; refine (built_any _ _ h1).mono ?_; rintro e w' ⟨rfl, rfl⟩) | (go_at_call 67; refine hE.mono ?_; rintro e w' ⟨rfl, rfl⟩))
  go_ret
  exact ⟨rfl, rfl⟩

set_option maxHeartbeats 400000 in
theorem add_any (x y : Nat) (w : World) (hx : x < 256) (hy : y < 256) :
    Calls Try.prog 62 #[.int .u8 x, .int .u8 y] w fun e w' => e = .returned (.int .u8 (x ^^^ y : Nat)) ∧ w = w' := by
  go_enter Try.func62, Try.ntmps62
  go_wp2
  go_ret
  exact ⟨ret_int (u8_xor_nat x y hx hy), rfl⟩

end Go.Proofs.Ytbfhmdphhhjlnaa
