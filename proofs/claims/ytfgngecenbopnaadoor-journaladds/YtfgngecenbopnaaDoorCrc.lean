/-
  What crc.More, Sum, Bytes, Read do, and the document's More, Sum, little, Bytes.
-/
import Derived.Test.YtfgngecenbopnaaDoorByt
import Derived.Test.YtfgngecenbopnaaDoorCrcM
namespace Go.Proofs.YtfgngecenbopnaaDoor
open Go.RowKit Crc
attribute [local go_sem ↓] Go.wp_at_zero Go.wp_at_succ

theorem st_form (s : Nat) : st s = s / 2 ^^^ (if s % 2 = 1 then 2197175160 else 0) := by
  unfold st; split
  · rfl
  · rw [Nat.xor_zero]
theorem itn_low (n : Nat) : ∀ L, L / 2 ^ n ^^^ itn n (L % 2 ^ n) = itn n L := by
  induction n with
  | zero => intro L; show L / 1 ^^^ L % 1 = L; rw [Nat.div_one, Nat.mod_one, Nat.xor_zero]
  | succ n ih =>
    intro L
    show L / 2 ^ (n + 1) ^^^ itn n (st (L % 2 ^ (n + 1))) = itn n (st L)
    have hp : 0 < 2 ^ n := Nat.two_pow_pos n
    have e1 : L % 2 ^ (n + 1) % 2 = L % 2 := by rw [Nat.pow_succ]; exact Nat.mod_mul_left_mod _ _ _
    have e2 : L % 2 ^ (n + 1) / 2 = L / 2 % 2 ^ n := by rw [Nat.pow_succ, Nat.mul_comm, Nat.mod_mul_right_div_self]
    have e3 : L / 2 ^ (n + 1) = L / 2 / 2 ^ n := by rw [Nat.pow_succ, Nat.mul_comm, Nat.div_div_eq_div_mul]
    rw [st_form, st_form L, e1, e2, e3, itn_xor, itn_xor, ← ih (L / 2), Nat.xor_assoc]
theorem itn_add (a b : Nat) : ∀ s, itn (a + b) s = itn b (itn a s) := by
  induction a with
  | zero => intro s; rw [Nat.zero_add]; rfl
  | succ a ih => intro s; rw [show a + 1 + b = (a + b) + 1 by omega]; exact ih (st s)

/-- The table of four steps, where the program keeps it. -/
def HalfT (w : World) : Prop := ∀ i, i < 16 → w.cell? ⟨0, i, none⟩ = some (.int .u32 ((itn 4 i : Nat) : Int))
theorem HalfT.keep {w w' : World} (h : HalfT w) (hb : Below w.heap.size w w') : HalfT w' := fun i hi =>
  (hb.cell (p := ⟨0, i, none⟩) (block_lt_of_cell (h i hi))).trans (h i hi)

theorem ret_u32 {a b : Nat} (h : a = b) : Ending.returned (.int .u32 (a : Int)) = .returned (.int .u32 (b : Int)) := by rw [h]
theorem u32_eq {a b : Nat} (h : a = b) : Value.int .u32 (a : Int) = .int .u32 (b : Int) := by rw [h]
theorem full_sub {s : Nat} (h : s < 4294967296) : s ^^^ full = 4294967295 - s := by
  have := BitVec.toNat_not (x := BitVec.ofNat 32 s)
  rw [← BitVec.xor_allOnes, BitVec.toNat_xor, BitVec.toNat_allOnes, BitVec.toNat_ofNat, Nat.mod_eq_of_lt h] at this
  exact this

set_option maxRecDepth 100000 in
set_option maxHeartbeats 1000000 in
theorem more_any (s : Nat) (a : Option Addr) (n c : Nat) (f : Nat → Nat) (w : World) (T : HalfT w) (h : Row w a n f) (hs : s < 4294967296) (hn : n ≤ maxLen) :
    Calls Tryd.prog 27 #[.int .u32 s, .slice a n c] w fun e w' => e = .returned (.int .u32 (more s n f : Nat)) ∧ w = w' := by
  unfold maxLen at hn
  have sg : IntKind.u32.signed = false := rfl
  have l0 : s ^^^ full < 4294967296 := Nat.xor_lt_two_pow (n := 32) hs (by unfold full; omega)
  have x0 : bits .xor .u32 IntKind.u32.max (s : Int) = ((s ^^^ full : Nat) : Int) := by
    rw [Nat.xor_comm]; exact u32_xor full s (by unfold full; omega) hs
  have lr := fun k => rb_lt k (f := f) l0 h.lt
  have HM : Hid (more s n f = rb n (s ^^^ full) f ^^^ full) := rfl
  generalize more s n f = z at *
  generalize s ^^^ full = s1 at *
  go_enter Tryd.func27, Tryd.ntmps27
  go_wp2
  clear x0
  go_loop [5, 12] (fun p i => ∃ k : Nat, k ≤ n ∧ p = .int .u32 (rb k s1 f : Nat) ∧ i = .int .i64 k) (fun _ i => n - (intOf i).toNat)
  case atStart => exact ⟨0, by omega, rfl, rfl⟩
  case round =>
    obtain ⟨k, hk, rfl, rfl⟩ := hrel
    have lp := lr k
    by_cases hlt : k < n
    · obtain ⟨b, o, rfl, hc⟩ := h.lies (by omega)
      have c0 := hc k hlt
      have lx := h.lt k
      have HR : Hid (rb (k + 1) s1 f = itn 4 (itn 4 (rb k s1 f ^^^ f k))) := itn_add 4 4 _
      generalize rb k s1 f = p at *
      generalize f k = x at *
      have lq : p ^^^ x < 4294967296 := Nat.xor_lt_two_pow (n := 32) lp (by omega)
      have e1 : bits .xor .u32 (p : Int) (x : Int) = ((p ^^^ x : Nat) : Int) := u32_xor p x lp (by omega)
      generalize p ^^^ x = q at *
      have ik : (k : Int) < (n : Int) := by omega
      have m1 : bits .and .u32 (q : Int) 15 = ((q % 16 : Nat) : Int) := u32_mask q 4 lq (by omega)
      have t1 := T (q % 16) (by omega)
      have lt1 : itn 4 (q % 16) < 4294967296 := itn_lt 4 (by omega)
      have x1 : bits .xor .u32 ((q : Int) / 16) ((itn 4 (q % 16) : Nat) : Int) = ((itn 4 q : Nat) : Int) := by
        rw [show (q : Int) / 16 = ((q / 16 : Nat) : Int) by omega, u32_xor _ _ (by omega) lt1]
        exact congrArg _ (itn_low 4 q)
      have lq2 : itn 4 q < 4294967296 := itn_lt 4 lq
      have r1 : q % 16 < 16 := by omega
      generalize itn 4 (q % 16) = t at *
      generalize q % 16 = r at *
      generalize itn 4 q = q2 at *
      have m2 : bits .and .u32 (q2 : Int) 15 = ((q2 % 16 : Nat) : Int) := u32_mask q2 4 lq2 (by omega)
      have t2 := T (q2 % 16) (by omega)
      have lt2 : itn 4 (q2 % 16) < 4294967296 := itn_lt 4 (by omega)
      have x2 : bits .xor .u32 ((q2 : Int) / 16) ((itn 4 (q2 % 16) : Nat) : Int) = ((itn 4 q2 : Nat) : Int) := by
        rw [show (q2 : Int) / 16 = ((q2 / 16 : Nat) : Int) by omega, u32_xor _ _ (by omega) lt2]
        exact congrArg _ (itn_low 4 q2)
      have lq3 : itn 4 q2 < 4294967296 := itn_lt 4 lq2
      have r2 : q2 % 16 < 16 := by omega
      generalize itn 4 (q2 % 16) = u at *
      generalize q2 % 16 = r' at *
      generalize itn 4 q2 = q3 at *
      clear hc h lr T
      go_wp2
      go_round
      case rel => exact ⟨k + 1, by omega, u32_eq HR.out.symm, by go_num⟩
      case measure => simp [intOf]; omega
    · have : k = n := by omega
      subst this
      have x3 : bits .xor .u32 IntKind.u32.max ((rb k s1 f : Nat) : Int) = ((rb k s1 f ^^^ full : Nat) : Int) := by
        rw [Nat.xor_comm]; exact u32_xor full _ (by unfold full; omega) lp
      generalize rb k s1 f ^^^ full = z' at *
      generalize rb k s1 f = p at *
      clear h lr T
      go_wp2
      go_ret
      exact ⟨ret_u32 HM.out.symm, rfl⟩
set_option maxRecDepth 100000 in
theorem sum_any (a : Option Addr) (n c : Nat) (f : Nat → Nat) (w : World) (T : HalfT w) (h : Row w a n f) (hn : n ≤ maxLen) :
    Calls Tryd.prog 22 #[.slice a n c] w fun e w' => e = .returned (.int .u32 (sum n f : Nat)) ∧ w = w' := by
  have cM := more_any 0 a n c f w T h (by omega) hn
  have HS : Hid (more 0 n f = sum n f) := rfl
  generalize more 0 n f = z at *
  go_enter Tryd.func22, Tryd.ntmps22
  go_wp2_with fail
  go_at_call 27
  refine cM.mono ?_
  rintro e w' ⟨rfl, rfl⟩
  go_wp2
  go_ret
  exact ⟨ret_u32 HS.out, rfl⟩

/-- Four bytes that were just written out. -/
theorem lit4 (w : World) (x y z u : Nat) (f : Nat → Nat) (h0 : f 0 = x) (h1 : f 1 = y) (h2 : f 2 = z) (h3 : f 3 = u) :
    Made (w.alloc (.cells #[.int .u8 ((x : Nat) : Int), .int .u8 ((y : Nat) : Int), .int .u8 ((z : Nat) : Int), .int .u8 ((u : Nat) : Int)] 5)) w.heap.size 4 f :=
  ⟨fun i hi => by
    rw [World.cell?_alloc_new]
    match i, hi with
    | 0, _ => rw [h0]; rfl
    | 1, _ => rw [h1]; rfl
    | 2, _ => rw [h2]; rfl
    | 3, _ => rw [h3]; rfl, fun _ _ => World.frozen?_alloc_new _ _ _ _⟩

set_option maxRecDepth 100000 in
theorem bytes_any (s : Nat) (w : World) (hs : s < 4294967296) :
    Calls Tryd.prog 21 #[.int .u32 s] w fun e w' => e = .returned (.slice (some ⟨w.heap.size, 0, none⟩) 4 4) ∧ Made w' w.heap.size 4 (by4 s) ∧ Below w.heap.size w w' := by
  go_enter Tryd.func21, Tryd.ntmps21
  go_wp2
  go_ret
  have e0 : (s : Int) % 256 = ((by4 s 0 : Nat) : Int) := by unfold by4; simp
  have e1 : (s : Int) / 256 % 256 = ((by4 s 1 : Nat) : Int) := by unfold by4; simp
  have e2 : (s : Int) / 65536 % 256 = ((by4 s 2 : Nat) : Int) := by unfold by4; simp
  have e3 : (s : Int) / 16777216 = ((by4 s 3 : Nat) : Int) := by
    unfold by4
    rw [Nat.mod_eq_of_lt (by simp; omega)]
    simp
  rw [e0, e1, e2, e3]
  exact ⟨rfl, lit4 w _ _ _ _ (by4 s) rfl rfl rfl rfl, bal _ _⟩

theorem or_hi (a b i : Nat) (ha : a < 2 ^ i) (hb : b * 2 ^ i < 4294967296) (hi : a < 4294967296) : bits .or .u32 (a : Int) ((b : Int) * ((2 ^ i : Nat) : Int)) = ((a + b * 2 ^ i : Nat) : Int) := by
  rw [show (b : Int) * ((2 ^ i : Nat) : Int) = ((b * 2 ^ i : Nat) : Int) by simp, u32_or a _ hi hb, Nat.or_comm, Nat.mul_comm b, ← Nat.two_pow_add_eq_or_of_lt ha, Nat.add_comm]
theorem below_drewN {B : Nat} {w w' : World} (h : Below B w w') (n : Nat) : Below B w (w'.drewN n) := by
  induction n with
  | zero => exact h
  | succ n ih => exact ih.drew
theorem ret_t2 {a b : Nat} {p q : Bool} (h : a = b) (k : p = q) : Ending.returned (.tuple #[.int .u32 (a : Int), .bool p]) = .returned (.tuple #[.int .u32 (b : Int), .bool q]) := by rw [h, k]

set_option maxRecDepth 100000 in
theorem read_any (a : Option Addr) (c : Nat) (f : Nat → Nat) (w : World) (h : Row w a 4 f) :
    Calls Tryd.prog 23 #[.slice a 4 c] w fun e w' => e = .returned (.tuple #[.int .u32 (le4 f : Nat), .bool true]) ∧ Below w.heap.size w w' := by
  obtain ⟨b, o, rfl, hc⟩ := h.lies (by omega)
  have c0 := hc 0 (by omega)
  have c1 := hc 1 (by omega)
  have c2 := hc 2 (by omega)
  have c3 := hc 3 (by omega)
  simp only [Nat.add_zero] at c0
  have l0 := h.lt 0
  have l1 := h.lt 1
  have l2 := h.lt 2
  have l3 := h.lt 3
  have o1 : bits .or .u32 ((f 0 : Nat) : Int) (((f 1 : Nat) : Int) * 256) = ((f 0 + f 1 * 256 : Nat) : Int) := or_hi (f 0) (f 1) 8 (by omega) (by omega) (by omega)
  have o2 : bits .or .u32 ((f 0 + f 1 * 256 : Nat) : Int) (((f 2 : Nat) : Int) * 65536) = ((f 0 + f 1 * 256 + f 2 * 65536 : Nat) : Int) := or_hi _ (f 2) 16 (by omega) (by omega) (by omega)
  have o3 : bits .or .u32 ((f 0 + f 1 * 256 + f 2 * 65536 : Nat) : Int) (((f 3 : Nat) : Int) * 16777216) = ((f 0 + f 1 * 256 + f 2 * 65536 + f 3 * 16777216 : Nat) : Int) := or_hi _ (f 3) 24 (by omega) (by omega) (by omega)
  have HZ : Hid (f 0 + f 1 * 256 + f 2 * 65536 + f 3 * 16777216 = le4 f) := by unfold Hid le4; omega
  generalize f 0 + f 1 * 256 + f 2 * 65536 + f 3 * 16777216 = z3 at *
  generalize f 0 + f 1 * 256 + f 2 * 65536 = z2 at *
  generalize f 0 + f 1 * 256 = z1 at *
  clear hc h
  go_enter Tryd.func23, Tryd.ntmps23
  go_wp2
  go_quiet (fail)
  go_wp2
  go_ret2
  exact ⟨ret_t2 HZ.out rfl, below_drewN (Below.refl _ _) _⟩

set_option maxRecDepth 100000 in
theorem read_no (a : Option Addr) (n c : Nat) (w : World) (hn : n ≠ 4) :
    Calls Tryd.prog 23 #[.slice a n c] w fun e w' => e = .returned (.tuple #[.int .u32 0, .bool false]) ∧ w = w' := by
  have g : (n : Int) ≠ 4 := by omega
  go_enter Tryd.func23, Tryd.ntmps23
  go_wp2
  go_ret2
  exact ⟨rfl, rfl⟩
end Go.Proofs.YtfgngecenbopnaaDoor
