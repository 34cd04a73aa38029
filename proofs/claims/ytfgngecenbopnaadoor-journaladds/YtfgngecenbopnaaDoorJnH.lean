/-
  What journal.readJournal answers.
-/
import Derived.Test.YtfgngecenbopnaaDoorJnE
import Derived.Test.YtfgngecenbopnaaDoorJnG
namespace Go.Proofs.YtfgngecenbopnaaDoor
open Go.RowKit Crc
attribute [local go_sem ↓] Go.wp_at_zero Go.wp_at_succ
set_option linter.unusedVariables false

theorem row_some {w : World} {a : Option Addr} {n : Nat} {f : Nat → Nat} (h : Row w a n f) (hn : 0 < n) : a ≠ none := by
  obtain ⟨b, o, e, _⟩ := h.lies hn
  rw [e]; simp
theorem wraps_i64' (n : Int) (h₀ : 0 ≤ n) (h₁ : n < 2 ^ 40) : IntKind.i64.wrap n = n := by rw [IntKind.wrap_i64]; omega
theorem or64 (a b : Nat) (ha : a < 256) (hb : b < 256) : bits .or .i64 (a : Int) ((b : Int) * 256) = ((a + 256 * b : Nat) : Int) := by
  rw [show (b : Int) * 256 = ((b * 2 ^ 8 : Nat) : Int) by simp, (bits_nat .i64 40 (by decide) wraps_i64' a (b * 2 ^ 8) (by omega) (by omega)).2, Nat.or_comm, Nat.mul_comm b, ← Nat.two_pow_add_eq_or_of_lt ha]
  omega
theorem str_sbj (G : Nat → Nat) (h : magic G) : str G 4 = { data := #[83, 66, 74, 49] } := by
  rw [str_congr h]; rfl
theorem str_get {G : Nat → Nat} {n i : Nat} (hG : ∀ i, G i < 256) (hi : i < n) : sb (str G n) i = G i := by
  unfold sb str strOfNums
  have := hG i
  simp [hi]
  omega
theorem str_size (G : Nat → Nat) (n : Nat) : (str G n).size = n := by
  unfold str strOfNums
  show Array.size _ = _
  simp
theorem magic_of {G : Nat → Nat} (hG : ∀ i, G i < 256) (h : str G 4 = { data := #[83, 66, 74, 49] }) : magic G := fun i hi => by
  rw [← str_get hG hi, h]
  match i, hi with
  | 0, _ => rfl
  | 1, _ => rfl
  | 2, _ => rfl
  | 3, _ => rfl
theorem mks_shift (f : Nat → Nat) (p n : Nat) : mks (fun i => f (p + i)) 0 n = mks f p n := by
  induction n with
  | zero => rfl
  | succ n ih => unfold mks; rw [ih, Nat.zero_add, Nat.add_assoc p]
theorem rvs_shift (f : Nat → Nat) (p i : Nat) : rvs (fun i => f (p + i)) i = rv f (p + 13 * i) := by
  unfold rvs rv
  simp only [Nat.add_assoc]
theorem VB.other {w : World} {g p n : Nat} {F : Nat → Ver} (h : VB w g n F) (hp : g ≠ p) (j : Nat) (v : Value) : VB (w.setCell ⟨p, j, none⟩ v) g n F := by
  obtain ⟨cur, hh, e⟩ := h
  exact ⟨cur, by rw [Below.heap_setCell _ _ _ _ hp]; exact hh, e⟩
def noS : ByteArray := { data := #[] }
def nojn : Value := jv 0 noS (.slice none 0 0)
/-- A journal in a block of its own. -/
def JB (w : World) (p : Nat) (t : Int) (s : ByteArray) (x : Value) (ty : TypeId) : Prop := w.heap[p]? = some (.cells #[.int .i64 t, .string s, x] ty)
theorem JB.at {w : World} {p : Nat} {t : Int} {s : ByteArray} {x : Value} {ty : TypeId} (h : JB w p t s x ty) : JAt w p t s x :=
  ⟨cell_of_row w p 0 _ _ _ h, cell_of_row w p 1 _ _ _ h, cell_of_row w p 2 _ _ _ h⟩
theorem JB.keep {w w' : World} {p : Nat} {t : Int} {s : ByteArray} {x : Value} {ty : TypeId} (h : JB w p t s x ty) (hb : Below w.heap.size w w') : JB w' p t s x ty :=
  (hb.block p (Array.getElem?_eq_some_iff.1 h).1).trans h
theorem JB.soft {w : World} {p : Nat} {t : Int} {s : ByteArray} {x : Value} {ty : TypeId} (h : JB w p t s x ty) (j : Nat) : w.frozen? ⟨p, j, none⟩ = false := frozen_of_row w p j _ _ h
theorem below3 {w W : World} {p : Nat} (h : Below w.heap.size w W) (hp : w.heap.size ≤ p) (v0 v1 v2 : Value) : Below w.heap.size w (((W.setCell ⟨p, 0, none⟩ v0).setCell ⟨p, 1, none⟩ v1).setCell ⟨p, 2, none⟩ v2) :=
  ((h.setCell (p := ⟨_, 0, none⟩) hp _).setCell (p := ⟨_, 1, none⟩) hp _).setCell (p := ⟨_, 2, none⟩) hp _

set_option maxRecDepth 100000 in
set_option maxHeartbeats 1000000 in
theorem readJ_magic (a : Option Addr) (n c : Nat) (f : Nat → Nat) (w : World) (h : Row w a n f) (hn : 15 ≤ n) (hm2 : n ≤ 262144) (hc : n ≤ c) (hm : ¬ magic f) :
    Calls Tryd.prog 24 #[.slice a n c] w fun e w' => e = .returned (.tuple #[nojn, .bool false]) ∧ Below w.heap.size w w' := by
  obtain ⟨W, hbx⟩ : ∃ W, w.alloc (.cells #[.int .i64 0, .string noS, .slice none 0 0] 26) = W := ⟨_, rfl⟩
  have hb : Below w.heap.size w W := by rw [← hbx]; exact bal _ _
  have hd : JB W w.heap.size 0 noS (.slice none 0 0) 26 := by rw [← hbx]; exact heap_alloc_new _ _
  have hR := h.keep hb
  obtain ⟨A1, s1, r1⟩ := cut_h (c := c) hR 4 (by omega) hc
  have cv := conv_row (c := c) r1 (fun e => absurd e (row_some r1 (by omega)))
  have s1' : ∀ w', Sem.run Tryd.prog (Instr.slice 22 (.slice a n c) none (some (.int .i64 4)) none) w' = .ok (.slice A1 4 c) w' := s1
  obtain ⟨c0, c1, c2⟩ := hd.at
  have f0 : ∀ j, W.frozen? ⟨w.heap.size, j, none⟩ = false := hd.soft
  have HB : Hid (Below w.heap.size w W) := hb
  have hne : ((str f 4).toList == [83, 66, 74, 49]) = false := by
    rw [ByteArray.toList_eq, beq_eq_false_iff_ne]
    intro e
    exact hm (magic_of h.lt (ByteArray.ext (Array.toList_inj.1 (by simpa using e))))
  clear hb hd hR r1 h s1 hm
  generalize str f 4 = S at *
  unfold noS at *
  go_enter Tryd.func24, Tryd.ntmps24
  go_wp2_with fail
  exact bodyPost_ret (v := .tuple #[nojn, .bool false]) (by simp [results, Tryd.results24, go_sem, nojn, jv, noS, *]) rfl ⟨rfl, below3 HB.out (Nat.le_refl _) _ _ _⟩

set_option maxRecDepth 100000 in
set_option maxHeartbeats 1000000 in
theorem readJ_short (a : Option Addr) (n c : Nat) (f : Nat → Nat) (w : World) (h : Row w a n f) (hn : 15 ≤ n) (hm2 : n ≤ 262144) (hc : n ≤ c) (hm : magic f) (hk : n < 15 + rk f) :
    Calls Tryd.prog 24 #[.slice a n c] w fun e w' => e = .returned (.tuple #[nojn, .bool false]) ∧ Below w.heap.size w w' := by
  obtain ⟨W, hbx⟩ : ∃ W, w.alloc (.cells #[.int .i64 0, .string noS, .slice none 0 0] 26) = W := ⟨_, rfl⟩
  have hb : Below w.heap.size w W := by rw [← hbx]; exact bal _ _
  have hd : JB W w.heap.size 0 noS (.slice none 0 0) 26 := by rw [← hbx]; exact heap_alloc_new _ _
  have hR := h.keep hb
  obtain ⟨A1, s1, r1⟩ := cut_h (c := c) hR 4 (by omega) hc
  have cv := conv_row (c := c) r1 (fun e => absurd e (row_some r1 (by omega)))
  rw [str_sbj f hm] at cv
  have s1' : ∀ w', Sem.run Tryd.prog (Instr.slice 22 (.slice a n c) none (some (.int .i64 4)) none) w' = .ok (.slice A1 4 c) w' := s1
  obtain ⟨c0, c1, c2⟩ := hd.at
  have f0 : ∀ j, W.frozen? ⟨w.heap.size, j, none⟩ = false := hd.soft
  have HB : Hid (Below w.heap.size w W) := hb
  obtain ⟨b, o, rfl, hA⟩ := hR.lies (by omega)
  have c8 := hA 8 (by omega)
  have c9 := hA 9 (by omega)
  have l8 := h.lt 8
  have l9 := h.lt 9
  have j8 : (8 : Int) < (n : Int) := by omega
  have j9 : (9 : Int) < (n : Int) := by omega
  have eo := or64 (f 8) (f 9) l8 l9
  have hK : Hid (f 8 + 256 * f 9 = rk f) := rfl
  rw [hK.out] at eo
  have lk : rk f < 65536 := by rw [← hK.out]; omega
  have cF : ∀ q, Calls Tryd.prog 18 #[.int .i64 ((rk f : Nat) : Int), .int .i64 0] (W.drewN q) fun e w' => e = .returned (.int .i64 ((15 + rk f : Nat) : Int)) ∧ W.drewN q = w' := fun q => fileBytes_any (rk f) 0 (W.drewN q) (by omega) (by omega)
  have g1 : (n : Int) < ((15 + rk f : Nat) : Int) := by omega
  clear hb hd hR r1 h s1 hm hA hK hk
  generalize 15 + rk f = K1 at *
  generalize rk f = K at *
  generalize f 8 = x8 at *
  generalize f 9 = x9 at *
  unfold noS at *
  go_enter Tryd.func24, Tryd.ntmps24
  go_wp2_with fail
  go_quiet (fail)
  go_wp2_with fail
  go_at_call 18
  refine (cF _).mono ?_
  rintro e w' ⟨rfl, rfl⟩
  go_wp2_with fail
  exact bodyPost_ret (v := .tuple #[nojn, .bool false]) (by simp [results, Tryd.results24, go_sem, nojn, jv, noS, *]) rfl ⟨rfl, hop (below3 HB.out (Nat.le_refl _) _ _ _) (bdn _ _)⟩

set_option maxRecDepth 100000 in
set_option maxHeartbeats 1000000 in
theorem readJ_count (a : Option Addr) (n c : Nat) (f : Nat → Nat) (w : World) (h : Row w a n f) (hn : 15 ≤ n) (hm2 : n ≤ 262144) (hc : n ≤ c) (hm : magic f) (hk : 15 + rk f ≤ n) (hcn : n ≠ 15 + rk f + 13 * rc f) :
    Calls Tryd.prog 24 #[.slice a n c] w fun e w' => e = .returned (.tuple #[nojn, .bool false]) ∧ Below w.heap.size w w' := by
  obtain ⟨W, hbx⟩ : ∃ W, w.alloc (.cells #[.int .i64 0, .string noS, .slice none 0 0] 26) = W := ⟨_, rfl⟩
  have hb : Below w.heap.size w W := by rw [← hbx]; exact bal _ _
  have hd : JB W w.heap.size 0 noS (.slice none 0 0) 26 := by rw [← hbx]; exact heap_alloc_new _ _
  have hR := h.keep hb
  obtain ⟨A1, s1, r1⟩ := cut_h (c := c) hR 4 (by omega) hc
  have cv := conv_row (c := c) r1 (fun e => absurd e (row_some r1 (by omega)))
  rw [str_sbj f hm] at cv
  have s1' : ∀ w', Sem.run Tryd.prog (Instr.slice 22 (.slice a n c) none (some (.int .i64 4)) none) w' = .ok (.slice A1 4 c) w' := s1
  obtain ⟨c0, c1, c2⟩ := hd.at
  have f0 : ∀ j, W.frozen? ⟨w.heap.size, j, none⟩ = false := hd.soft
  have HB : Hid (Below w.heap.size w W) := hb
  obtain ⟨b, o, rfl, hA⟩ := hR.lies (by omega)
  have c8 := hA 8 (by omega)
  have c9 := hA 9 (by omega)
  have l8 := h.lt 8
  have l9 := h.lt 9
  have j8 : (8 : Int) < (n : Int) := by omega
  have j9 : (9 : Int) < (n : Int) := by omega
  have eo := or64 (f 8) (f 9) l8 l9
  have hK : Hid (f 8 + 256 * f 9 = rk f) := rfl
  rw [hK.out] at eo
  have lk : rk f < 65536 := by rw [← hK.out]; omega
  have cv0 := hA (10 + rk f) (by omega)
  have lc := h.lt (10 + rk f)
  have HC : Hid (f (10 + rk f) = rc f) := rfl
  rw [HC.out] at cv0 lc
  have cF : ∀ q, Calls Tryd.prog 18 #[.int .i64 ((rk f : Nat) : Int), .int .i64 0] (W.drewN q) fun e w' => e = .returned (.int .i64 ((15 + rk f : Nat) : Int)) ∧ W.drewN q = w' := fun q => fileBytes_any (rk f) 0 (W.drewN q) (by omega) (by omega)
  have cG : ∀ q, Calls Tryd.prog 18 #[.int .i64 ((rk f : Nat) : Int), .int .i64 ((rc f : Nat) : Int)] (W.drewN q) fun e w' => e = .returned (.int .i64 ((15 + rk f + 13 * rc f : Nat) : Int)) ∧ W.drewN q = w' := fun q => fileBytes_any (rk f) (rc f) (W.drewN q) (by omega) (by omega)
  have g1 : decide ((n : Int) < ((15 + rk f : Nat) : Int)) = false := decide_eq_false (by omega)
  have g1n : decide (n < 15 + rk f) = false := decide_eq_false (by omega)
  have g2 : ((n : Int) != ((15 + rk f + 13 * rc f : Nat) : Int)) = true := by simp; omega
  have g3 : (10 : Int) + ((rk f : Nat) : Int) = ((10 + rk f : Nat) : Int) := by omega
  have g4 : ((10 + rk f : Nat) : Int) < (n : Int) := by omega
  have g5 : 10 + rk f < n := by omega
  have g6 : (n != 15 + rk f + 13 * rc f) = true := by simp; omega
  clear hb hd hR r1 h s1 hm hA hK hk hcn HC
  generalize 15 + rk f + 13 * rc f = K2 at *
  generalize 15 + rk f = K1 at *
  generalize 10 + rk f = K3 at *
  generalize rk f = K at *
  generalize rc f = C at *
  generalize f 8 = x8 at *
  generalize f 9 = x9 at *
  unfold noS at *
  go_enter Tryd.func24, Tryd.ntmps24
  go_wp2_with fail
  go_quiet (fail)
  go_wp2_with fail
  go_at_call 18
  refine (cF _).mono ?_
  rintro e w' ⟨rfl, rfl⟩
  go_wp2_with fail
  go_at_call 18
  refine (cG _).mono ?_
  rintro e w' ⟨rfl, rfl⟩
  go_wp2_with fail
  exact bodyPost_ret (v := .tuple #[nojn, .bool false]) (by simp [results, Tryd.results24, go_sem, nojn, jv, noS, *]) rfl ⟨rfl, hop (below3 HB.out (Nat.le_refl _) _ _ _) (bdn _ _)⟩

set_option maxRecDepth 100000 in
set_option maxHeartbeats 4000000 in
theorem readJ_form (a : Option Addr) (n c : Nat) (f : Nat → Nat) (w : World) (h : Row w a n f) (hn : 15 ≤ n) (hm2 : n ≤ 262144) (hc : n ≤ c) (hfm : frm n f) :
    Calls Tryd.prog 24 #[.slice a n c] w fun e w' => Below w.heap.size w w' ∧
      ((mks f (11 + rk f) (rc f) = true ∧ ∃ g, e = .returned (.tuple #[jv ((rt f : Nat) : Int) (str (fun i => f (10 + i)) (rk f)) (.slice (some ⟨g, 0, none⟩) (rc f) (rc f)), .bool true]) ∧ VB w' g (rc f) (rF f)) ∨
       (mks f (11 + rk f) (rc f) = false ∧ e = .returned (.tuple #[nojn, .bool false]))) := by
  obtain ⟨hm, hk, hcn⟩ := hfm
  obtain ⟨W, hbx⟩ : ∃ W, w.alloc (.cells #[.int .i64 0, .string noS, .slice none 0 0] 26) = W := ⟨_, rfl⟩
  have hb : Below w.heap.size w W := by rw [← hbx]; exact bal _ _
  have hd : JB W w.heap.size 0 noS (.slice none 0 0) 26 := by rw [← hbx]; exact heap_alloc_new _ _
  have hR := h.keep hb
  obtain ⟨A1, s1, r1⟩ := cut_h (c := c) hR 4 (by omega) hc
  have cv := conv_row (c := c) r1 (fun e => absurd e (row_some r1 (by omega)))
  rw [str_sbj f hm] at cv
  have s1' : ∀ w', Sem.run Tryd.prog (Instr.slice 22 (.slice a n c) none (some (.int .i64 4)) none) w' = .ok (.slice A1 4 c) w' := s1
  obtain ⟨c0, c1, c2⟩ := hd.at
  have f0 : ∀ j, W.frozen? ⟨w.heap.size, j, none⟩ = false := hd.soft
  have HB : Hid (Below w.heap.size w W) := hb
  obtain ⟨b, o, rfl, hA⟩ := hR.lies (by omega)
  have c8 := hA 8 (by omega)
  have c9 := hA 9 (by omega)
  have l8 := h.lt 8
  have l9 := h.lt 9
  have j8 : (8 : Int) < (n : Int) := by omega
  have j9 : (9 : Int) < (n : Int) := by omega
  have eo := or64 (f 8) (f 9) l8 l9
  have hK : Hid (f 8 + 256 * f 9 = rk f) := rfl
  rw [hK.out] at eo
  have lk : rk f < 65536 := by rw [← hK.out]; omega
  have cv0 := hA (10 + rk f) (by omega)
  have lc := h.lt (10 + rk f)
  have HC : Hid (f (10 + rk f) = rc f) := rfl
  rw [HC.out] at cv0 lc
  have cF : ∀ q, Calls Tryd.prog 18 #[.int .i64 ((rk f : Nat) : Int), .int .i64 0] (W.drewN q) fun e w' => e = .returned (.int .i64 ((15 + rk f : Nat) : Int)) ∧ W.drewN q = w' := fun q => fileBytes_any (rk f) 0 (W.drewN q) (by omega) (by omega)
  have cG : ∀ q, Calls Tryd.prog 18 #[.int .i64 ((rk f : Nat) : Int), .int .i64 ((rc f : Nat) : Int)] (W.drewN q) fun e w' => e = .returned (.int .i64 ((n : Nat) : Int)) ∧ W.drewN q = w' := fun q => by
    have := fileBytes_any (rk f) (rc f) (W.drewN q) (by omega) (by omega)
    rw [← hcn] at this
    exact this
  have g1 : decide ((n : Int) < ((15 + rk f : Nat) : Int)) = false := decide_eq_false (by omega)
  have g1n : decide (n < 15 + rk f) = false := decide_eq_false (by omega)
  have g3 : (10 : Int) + ((rk f : Nat) : Int) = ((10 + rk f : Nat) : Int) := by omega
  have g4 : ((10 + rk f : Nat) : Int) < (n : Int) := by omega
  have g5 : 10 + rk f < n := by omega
  obtain ⟨A2, s2, r2⟩ := cut_l (c := c) hR (11 + rk f) (by omega) hc
  have g7 : ((10 + rk f : Nat) : Int) + 1 = ((11 + rk f : Nat) : Int) := by omega
  have cV : ∀ q, Calls Tryd.prog 28 #[.slice A2 (n - (11 + rk f)) (c - (11 + rk f)), .int .i64 ((rc f : Nat) : Int)] (W.drewN q) fun e w' => Below W.heap.size W w' ∧
      ((mks f (11 + rk f) (rc f) = true ∧ e = .returned (.tuple #[.slice (some ⟨W.heap.size, 0, none⟩) (rc f) (rc f), .bool true]) ∧ VB w' W.heap.size (rc f) (rF f)) ∨
       (mks f (11 + rk f) (rc f) = false ∧ e = .returned (.tuple #[.slice none 0 0, .bool false]))) := fun q => by
    refine (readVers_any A2 _ (c - (11 + rk f)) (rc f) _ (W.drewN q) (r2.keep (bdn W q)) (by omega) (by omega) (by omega)).mono ?_
    rintro e w' ⟨hb', hh⟩
    refine ⟨hop (bdn W q) hb', ?_⟩
    rw [mks_shift] at hh
    rcases hh with ⟨h1, h2, h3⟩ | hh
    · exact .inl ⟨h1, h2, h3.congr fun i hi => by rw [rvs_shift]; rfl⟩
    · exact .inr hh
  have HD : Hid (JB W w.heap.size 0 noS (.slice none 0 0) 26) := hd
  have hwl : w.heap.size < W.heap.size := block_lt_of_cell c0
  obtain ⟨A4, s4, r4⟩ := cut_l (c := c) hR 4 (by omega) hc
  obtain ⟨A5, s5, r5⟩ := cut_lh (c := c) hR 10 (rk f) (by omega) hc
  have s4' : ∀ w', Sem.run Tryd.prog (Instr.slice 22 (.slice (some ⟨b, o, none⟩) n c) (some (.int .i64 4)) none none) w' = .ok (.slice A4 (n - 4) (c - 4)) w' := s4
  have s5' : ∀ w', Sem.run Tryd.prog (Instr.slice 22 (.slice (some ⟨b, o, none⟩) n c) (some (.int .i64 10)) (some (.int .i64 ((10 + rk f : Nat) : Int))) none) w' = .ok (.slice A5 (rk f) (c - 10)) w' := fun w' => by rw [← s5 w', ← g3]; rfl
  have cT : Hid (∀ X, Below W.heap.size W X → ∀ q, Calls Tryd.prog 29 #[.slice A4 (n - 4) (c - 4)] (X.drewN q) fun e w' => e = .returned (.int .u32 ((rt f : Nat) : Int)) ∧ ∃ z, w' = X.drewN z) := fun X hX q => Calls.quiet_of (readNum_q _ _ _ _ _ (r4.keep (hop hX (bdn X q))) (by omega) (by unfold maxLen; omega))
  have cN : Hid (∀ X, Below W.heap.size W X → ∀ q, Sem.run Tryd.prog (convert 22 9 (.slice A5 (rk f) (c - 10))) (X.drewN q) = .ok (.string (str (fun i => f (10 + i)) (rk f))) (X.drewN q)) := fun X hX q => conv_row (r5.keep (hop hX (bdn X q))) (fun e => Nat.eq_zero_of_not_pos fun hp => row_some r5 hp e)
  have lt4 : rt f < 4294967296 := le4_lt (fun i => h.lt _)
  have s2' : ∀ w', Sem.run Tryd.prog (Instr.slice 22 (.slice (some ⟨b, o, none⟩) n c) (some (.int .i64 ((11 + rk f : Nat) : Int))) none none) w' = .ok (.slice A2 (n - (11 + rk f)) (c - (11 + rk f))) w' := s2
  clear hb hd r1 s1 hm hA hK HC r2 hcn hR h hk s2 s4 s5 r4 r5
  generalize str (fun i => f (10 + i)) (rk f) = nmS at *
  generalize rF f = FF at *
  generalize mks f (11 + rk f) (rc f) = mM at *
  generalize 15 + rk f = K1 at *
  generalize 10 + rk f = K3 at *
  generalize 11 + rk f = K4 at *
  generalize rk f = K at *
  generalize rc f = C at *
  generalize rt f = TT at *
  generalize f 8 = x8 at *
  generalize f 9 = x9 at *
  go_enter Tryd.func24, Tryd.ntmps24
  unfold noS at *
  go_wp2_with fail
  go_quiet (fail)
  go_wp2_with fail
  go_at_call 18
  refine (cF _).mono ?_
  rintro e w' ⟨rfl, rfl⟩
  clear cF
  go_wp2_with fail
  go_at_call 18
  refine (cG _).mono ?_
  rintro e w' ⟨rfl, rfl⟩
  clear cG
  go_wp2_with fail
  go_at_call 28
  refine (cV _).mono ?_
  rintro e w2 ⟨b2, hh⟩
  clear cV
  have hd2 := HD.out.keep b2
  obtain ⟨d0, d1, d2⟩ := hd2.at
  have f2 : ∀ j, w2.frozen? ⟨w.heap.size, j, none⟩ = false := hd2.soft
  have HB2 : Hid (Below w.heap.size w w2) := hop HB.out b2
  unfold noS at *
  rcases hh with ⟨hM, rfl, hV⟩ | ⟨hM, rfl⟩
  · have HV : Hid (VB w2 W.heap.size C FF) := hV
    have cT' := cT.out w2 b2
    have cN' := cN.out w2 b2
    have ne : Nonempty Nat := ⟨0⟩
    have HMM : Hid (mM = true) := hM
    clear s2' hd2 b2 hV cT cN c8 c9 cv0 cv s1' c0 c1 c2 f0 HD hM
    go_wp2_with fail
    refine region_head (C := fun w' => ∃ q, w' = w2.drewN q) 10 (by kernel_rfl) (by kernel_rfl) ⟨1, rfl⟩ ?_
    simp only [List.take_succ_cons, List.take_zero, List.drop_succ_cons, List.drop_zero]
    repeat (go_big_quiet_step ((go_at_call 29; exact cT' _)))
    refine wpQuiet_nil ?_
    rintro _ ⟨q, rfl⟩
    go_wp2
    refine bodyPost_ret (v := .tuple #[jv TT nmS (.slice (some ⟨W.heap.size, 0, none⟩) C C), .bool true]) (by simp [results, Tryd.results24, go_sem, jv, *]) rfl ⟨hop (below3 HB2.out (Nat.le_refl _) _ _ _) (bdn _ _), .inl ⟨HMM.out, W.heap.size, rfl, ?_⟩⟩
    exact VB.keep (((HV.out.other (by omega) _ _).other (by omega) _ _).other (by omega) _ _) (bdn _ _)
  · clear s2' hd2 b2
    go_wp2_with fail
    exact bodyPost_ret (v := .tuple #[nojn, .bool false]) (by simp [results, Tryd.results24, go_sem, nojn, jv, noS, *]) rfl ⟨below3 HB2.out (Nat.le_refl _) _ _ _, .inr ⟨hM, rfl⟩⟩
end Go.Proofs.YtfgngecenbopnaaDoor
