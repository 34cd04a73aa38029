/-
  Plain mathematics of journals: which may be, their bytes, what is read out of bytes.
-/
import Derived.Test.YtfgngecenbopnaaDoorCrcM
namespace Go.Proofs.YtfgngecenbopnaaDoor
namespace Crc

/-- A version: its id, whether it is a marker, its size, its sum. -/
structure Ver where
  id : Int
  mr : Bool
  sz : Int
  sm : Nat
theorem Ver.same {a b : Ver} (h1 : a.id = b.id) (h2 : a.mr = b.mr) (h3 : a.sz = b.sz) (h4 : a.sm = b.sm) : a = b := by
  cases a; cases b; simp_all
/-- Numbers that Go's types hold. -/
structure Ver.fits (v : Ver) : Prop where
  i0 : -9223372036854775808 ≤ v.id
  i1 : v.id ≤ 9223372036854775807
  z0 : -9223372036854775808 ≤ v.sz
  z1 : v.sz ≤ 9223372036854775807
  s1 : v.sm < 4294967296
/-- A version may be. -/
def mayV (v : Ver) : Bool := decide (0 ≤ v.id ∧ v.id ≤ 2147483647 ∧ 0 ≤ v.sz ∧ v.sz ≤ 65536 ∧ (v.mr = true → v.sz = 0 ∧ v.sm = 0))
/-- The id ahead of the k-th version. -/
def lastId (F : Nat → Ver) (k : Nat) : Int := if k = 0 then -1 else (F (k - 1)).id
/-- The first n versions may be, in their order. -/
def mayR (F : Nat → Ver) : Nat → Bool
  | 0 => true
  | n + 1 => mayR F n && decide (lastId F n < (F n).id ∧ mayV (F n) = true)
/-- A journal may be. -/
def mayJ (t : Int) (N n : Nat) (F : Nat → Ver) : Bool := decide (0 ≤ t ∧ t ≤ 2147483647 ∧ N ≤ 600 ∧ n ≤ 64 ∧ mayR F n = true)
theorem mayR_down {F : Nat → Ver} {k n : Nat} (h : k ≤ n) (hn : mayR F n = true) : mayR F k = true := by
  induction n with
  | zero => have : k = 0 := by omega
            subst this; rfl
  | succ n ih =>
    by_cases e : k = n + 1
    · subst e; exact hn
    · unfold mayR at hn
      rw [Bool.and_eq_true] at hn
      exact ih (by omega) hn.1
theorem mayR_false {F : Nat → Ver} {k n : Nat} (h : k ≤ n) (hk : mayR F k = false) : mayR F n = false := by
  cases e : mayR F n with
  | false => rfl
  | true => rw [mayR_down h e] at hk; cases hk
theorem mayR_at {F : Nat → Ver} {k n : Nat} (h : k < n) (hn : mayR F n = true) : lastId F k < (F k).id ∧ mayV (F k) = true := by
  have := mayR_down (k := k + 1) h hn
  unfold mayR at this
  rw [Bool.and_eq_true] at this
  exact of_decide_eq_true this.2
theorem mayR_succ {F : Nat → Ver} {k : Nat} (h : mayR F k = true) (h1 : lastId F k < (F k).id) (h2 : mayV (F k) = true) : mayR F (k + 1) = true := by
  unfold mayR; rw [h, Bool.true_and]; exact decide_eq_true ⟨h1, h2⟩
theorem mayR_stop {F : Nat → Ver} {k : Nat} (h : ¬ (lastId F k < (F k).id ∧ mayV (F k) = true)) : mayR F (k + 1) = false := by
  unfold mayR; rw [decide_eq_false h, Bool.and_false]
theorem mayR_congr {F G : Nat → Ver} {n : Nat} (h : ∀ i, i < n → F i = G i) : mayR F n = mayR G n := by
  induction n with
  | zero => rfl
  | succ n ih =>
    have e : lastId F n = lastId G n := by
      unfold lastId; split
      · rfl
      · rw [h (n - 1) (by omega)]
    unfold mayR
    rw [ih (fun i hi => h i (by omega)), h n (by omega), e]
theorem mayV_iff {v : Ver} : mayV v = true ↔ 0 ≤ v.id ∧ v.id ≤ 2147483647 ∧ 0 ≤ v.sz ∧ v.sz ≤ 65536 ∧ (v.mr = true → v.sz = 0 ∧ v.sm = 0) := by
  unfold mayV; exact decide_eq_true_iff
theorem mayJ_iff {t : Int} {N n : Nat} {F : Nat → Ver} : mayJ t N n F = true ↔ 0 ≤ t ∧ t ≤ 2147483647 ∧ N ≤ 600 ∧ n ≤ 64 ∧ mayR F n = true := by
  unfold mayJ; exact decide_eq_true_iff
theorem mayJ_congr {t : Int} {N n : Nat} {F G : Nat → Ver} (h : ∀ i, i < n → F i = G i) : mayJ t N n F = mayJ t N n G := by
  unfold mayJ; rw [mayR_congr h]

/-- A version's thirteen bytes. -/
def vb (v : Ver) : Nat → Nat := fun r => if r < 4 then by4 v.id.toNat r else if r < 5 then (if v.mr then 1 else 0) else if r < 9 then by4 v.sz.toNat (r - 5) else by4 v.sm (r - 9)
theorem vb_lt (v : Ver) (r : Nat) : vb v r < 256 := by
  unfold vb
  split
  · exact by4_lt _ _
  · split
    · split <;> omega
    · split
      · exact by4_lt _ _
      · exact by4_lt _ _
def sbj : Nat → Nat := fun p => if p = 0 then 83 else if p = 1 then 66 else if p = 2 then 74 else 49
theorem sbj_lt (p : Nat) : sbj p < 256 := by unfold sbj; (repeat' split) <;> omega
/-- A journal's bytes ahead of the sum. -/
def jb (t N : Nat) (nm : Nat → Nat) (n : Nat) (F : Nat → Ver) : Nat → Nat := fun i =>
  if i < 4 then sbj i else if i < 8 then by4 t (i - 4) else if i < 10 then by4 N (i - 8) else if i < 10 + N then nm (i - 10) else if i < 11 + N then n % 256 else vb (F ((i - (11 + N)) / 13)) ((i - (11 + N)) % 13)
theorem jb_lt {t N : Nat} {nm : Nat → Nat} {n : Nat} {F : Nat → Ver} (hn : ∀ i, nm i < 256) (i : Nat) : jb t N nm n F i < 256 := by
  unfold jb
  split
  · exact sbj_lt _
  · split
    · exact by4_lt _ _
    · split
      · exact by4_lt _ _
      · split
        · exact hn _
        · split
          · omega
          · exact vb_lt _ _
/-- How many there are. -/
def jl (N n : Nat) : Nat := 11 + N + 13 * n
/-- A journal's bytes. -/
def jf (t N : Nat) (nm : Nat → Nat) (n : Nat) (F : Nat → Ver) : Nat → Nat := fun i =>
  if i < jl N n then jb t N nm n F i else by4 (sum (jl N n) (jb t N nm n F)) (i - jl N n)
theorem jf_lt {t N : Nat} {nm : Nat → Nat} {n : Nat} {F : Nat → Ver} (hn : ∀ i, nm i < 256) (i : Nat) : jf t N nm n F i < 256 := by
  unfold jf; split
  · exact jb_lt hn _
  · exact by4_lt _ _

/-- What is read: the name's length, the versions' number, a version, whether the marks' bytes are marks. -/
def rk (f : Nat → Nat) : Nat := f 8 + 256 * f 9
def rc (f : Nat → Nat) : Nat := f (10 + rk f)
def rv (f : Nat → Nat) (p : Nat) : Ver := ⟨((le4 (fun i => f (p + i)) : Nat) : Int), decide (f (p + 4) = 1), ((le4 (fun i => f (p + 5 + i)) : Nat) : Int), le4 (fun i => f (p + 9 + i))⟩
def rF (f : Nat → Nat) : Nat → Ver := fun i => rv f (11 + rk f + 13 * i)
def rt (f : Nat → Nat) : Nat := le4 (fun i => f (4 + i))
def mks (f : Nat → Nat) (p : Nat) : Nat → Bool
  | 0 => true
  | n + 1 => mks f p n && decide (f (p + 13 * n + 4) ≤ 1)
theorem mks_down {f : Nat → Nat} {p k n : Nat} (h : k ≤ n) (hn : mks f p n = true) : mks f p k = true := by
  induction n with
  | zero => have : k = 0 := by omega
            subst this; rfl
  | succ n ih =>
    by_cases e : k = n + 1
    · subst e; exact hn
    · unfold mks at hn
      rw [Bool.and_eq_true] at hn
      exact ih (by omega) hn.1
theorem mks_at {f : Nat → Nat} {p k n : Nat} (h : k < n) (hn : mks f p n = true) : f (p + 13 * k + 4) ≤ 1 := by
  have := mks_down (k := k + 1) h hn
  unfold mks at this
  rw [Bool.and_eq_true] at this
  exact of_decide_eq_true this.2
theorem mks_succ {f : Nat → Nat} {p k : Nat} (h : mks f p k = true) (h1 : f (p + 13 * k + 4) ≤ 1) : mks f p (k + 1) = true := by
  unfold mks; rw [h, Bool.true_and]; exact decide_eq_true h1
theorem mks_stop {f : Nat → Nat} {p k n : Nat} (hk : k < n) (h1 : 1 < f (p + 13 * k + 4)) : mks f p n = false := by
  cases e : mks f p n with
  | false => rfl
  | true => have := mks_at hk e; omega
def magic (f : Nat → Nat) : Prop := ∀ i, i < 4 → f i = sbj i
/-- The form of a journal's bytes. -/
def frm (n : Nat) (f : Nat → Nat) : Prop := magic f ∧ 15 + rk f ≤ n ∧ n = 15 + rk f + 13 * rc f
/-- The last four bytes are the sum of the others. -/
def fit (n : Nat) (f : Nat → Nat) : Prop := le4 (fun i => f (n - 4 + i)) = sum (n - 4) f
/-- A journal is read. -/
structure JGood (n : Nat) (f : Nat → Nat) : Prop where
  lo : 15 ≤ n
  hi : n ≤ 262144
  ft : fit n f
  fm : frm n f
  ms : mks f (11 + rk f) (rc f) = true
  may : mayJ (rt f) (rk f) (rc f) (rF f) = true
/-- None is read, and why. -/
def JBad (n : Nat) (f : Nat → Nat) (c : Int) : Prop :=
  (c = 3 ∧ 262144 < n) ∨ (c = 2 ∧ n < 15) ∨ (c = 5 ∧ 15 ≤ n ∧ n ≤ 262144 ∧ ¬ fit n f) ∨
  (c = 4 ∧ 15 ≤ n ∧ n ≤ 262144 ∧ fit n f ∧ ¬ frm n f) ∨
  (c = 4 ∧ 15 ≤ n ∧ n ≤ 262144 ∧ fit n f ∧ frm n f ∧ mks f (11 + rk f) (rc f) = false) ∨
  (c = 4 ∧ 15 ≤ n ∧ n ≤ 262144 ∧ fit n f ∧ frm n f ∧ mks f (11 + rk f) (rc f) = true ∧ mayJ (rt f) (rk f) (rc f) (rF f) = false)
theorem good_or (n : Nat) (f : Nat → Nat) : JGood n f ∨ ∃ c, JBad n f c := by
  by_cases h1 : 262144 < n
  · exact .inr ⟨3, .inl ⟨rfl, h1⟩⟩
  by_cases h2 : n < 15
  · exact .inr ⟨2, .inr (.inl ⟨rfl, h2⟩)⟩
  by_cases h3 : fit n f
  rotate_left
  · exact .inr ⟨5, .inr (.inr (.inl ⟨rfl, by omega, by omega, h3⟩))⟩
  by_cases h4 : frm n f
  rotate_left
  · exact .inr ⟨4, .inr (.inr (.inr (.inl ⟨rfl, by omega, by omega, h3, h4⟩)))⟩
  cases h5 : mks f (11 + rk f) (rc f) with
  | false => exact .inr ⟨4, .inr (.inr (.inr (.inr (.inl ⟨rfl, by omega, by omega, h3, h4, h5⟩))))⟩
  | true =>
    cases h6 : mayJ (rt f) (rk f) (rc f) (rF f) with
    | false => exact .inr ⟨4, .inr (.inr (.inr (.inr (.inr ⟨rfl, by omega, by omega, h3, h4, h5, h6⟩))))⟩
    | true => exact .inl ⟨by omega, by omega, h3, h4, h5, h6⟩
theorem JBad.ne {n : Nat} {f : Nat → Nat} {c : Int} (h : JBad n f c) : c ≠ 0 := by
  rcases h with ⟨rfl, _⟩ | ⟨rfl, _⟩ | ⟨rfl, _⟩ | ⟨rfl, _⟩ | ⟨rfl, _⟩ | ⟨rfl, _⟩ <;> decide
theorem JGood.not_bad {n : Nat} {f : Nat → Nat} {c : Int} (g : JGood n f) (h : JBad n f c) : False := by
  rcases h with ⟨_, h⟩ | ⟨_, h⟩ | ⟨_, _, _, h⟩ | ⟨_, _, _, _, h⟩ | ⟨_, _, _, _, _, h⟩ | ⟨_, _, _, _, _, _, h⟩
  · have := g.hi; omega
  · have := g.lo; omega
  · exact h g.ft
  · exact h g.fm
  · rw [g.ms] at h; cases h
  · rw [g.may] at h; cases h

theorem by4_le4 {g : Nat → Nat} (hg : ∀ i, g i < 256) (i : Nat) (hi : i < 4) : by4 (le4 g) i = g i := by
  have h0 := hg 0
  have h1 := hg 1
  have h2 := hg 2
  have h3 := hg 3
  unfold by4 le4
  rcases (by omega : i = 0 ∨ i = 1 ∨ i = 2 ∨ i = 3) with rfl | rfl | rfl | rfl
  · simp; omega
  · simp; omega
  · rw [show 256 ^ 2 = 65536 from rfl]; omega
  · rw [show 256 ^ 3 = 16777216 from rfl]; omega
theorem le4_cg {g h : Nat → Nat} (e : ∀ i, i < 4 → g i = h i) : le4 g = le4 h := by
  unfold le4; rw [e 0 (by omega), e 1 (by omega), e 2 (by omega), e 3 (by omega)]
theorem le4_of {g : Nat → Nat} {s : Nat} (hs : s < 4294967296) (e : ∀ i, i < 4 → g i = by4 s i) : le4 g = s := by
  rw [le4_cg e]; exact le4_by4 hs

/-- The bytes of a version, read as that version. -/
theorem rv_vb {f : Nat → Nat} {p : Nat} {v : Ver} (h : ∀ r, r < 13 → f (p + r) = vb v r) (hm : mayV v = true) (hs : v.sm < 4294967296) : rv f p = v := by
  obtain ⟨a, b, c, d, _⟩ := mayV_iff.1 hm
  apply Ver.same
  · show ((le4 (fun i => f (p + i)) : Nat) : Int) = v.id
    rw [le4_of (s := v.id.toNat) (by omega) (fun i hi => by rw [h i (by omega)]; unfold vb; rw [if_pos hi])]
    omega
  · show decide (f (p + 4) = 1) = v.mr
    rw [h 4 (by omega)]; unfold vb
    rw [if_neg (by omega), if_pos (by omega)]
    cases v.mr <;> rfl
  · show ((le4 (fun i => f (p + 5 + i)) : Nat) : Int) = v.sz
    rw [le4_of (s := v.sz.toNat) (by omega) (fun i hi => by
      rw [Nat.add_assoc, h (5 + i) (by omega)]; unfold vb
      rw [if_neg (by omega), if_neg (by omega), if_pos (by omega), Nat.add_sub_cancel_left])]
    omega
  · show le4 (fun i => f (p + 9 + i)) = v.sm
    rw [le4_of (s := v.sm) hs (fun i hi => by
      rw [Nat.add_assoc, h (9 + i) (by omega)]; unfold vb
      rw [if_neg (by omega), if_neg (by omega), if_neg (by omega), Nat.add_sub_cancel_left])]
/-- The bytes at p are those of the version that is read there. -/
theorem vb_rv {f : Nat → Nat} {p : Nat} (hf : ∀ i, f i < 256) (hm : f (p + 4) ≤ 1) (r : Nat) (hr : r < 13) : vb (rv f p) r = f (p + r) := by
  unfold vb rv
  by_cases h1 : r < 4
  · rw [if_pos h1]
    show by4 ((le4 (fun i => f (p + i)) : Nat) : Int).toNat r = _
    rw [Int.toNat_natCast]; exact by4_le4 (fun i => hf _) r h1
  · rw [if_neg h1]
    by_cases h2 : r < 5
    · rw [if_pos h2]
      obtain rfl : r = 4 := by omega
      by_cases e : f (p + 4) = 1
      · simp [e]
      · simp [e]; omega
    · rw [if_neg h2]
      by_cases h3 : r < 9
      · rw [if_pos h3]
        show by4 ((le4 (fun i => f (p + 5 + i)) : Nat) : Int).toNat (r - 5) = _
        rw [Int.toNat_natCast, by4_le4 (fun i => hf _) (r - 5) (by omega)]
        congr 1; omega
      · rw [if_neg h3]
        show by4 (le4 (fun i => f (p + 9 + i))) (r - 9) = _
        rw [by4_le4 (fun i => hf _) (r - 9) (by omega)]
        congr 1; omega
theorem jb_ver {t N : Nat} {nm : Nat → Nat} {n : Nat} {F : Nat → Ver} (k r : Nat) (hr : r < 13) : jb t N nm n F (11 + N + 13 * k + r) = vb (F k) r := by
  unfold jb
  rw [if_neg (by omega), if_neg (by omega), if_neg (by omega), if_neg (by omega), if_neg (by omega)]
  rw [show (11 + N + 13 * k + r - (11 + N)) / 13 = k by omega, show (11 + N + 13 * k + r - (11 + N)) % 13 = r by omega]

/-- What was written is read as it was. -/
structure ReadBack (t N : Nat) (nm : Nat → Nat) (n : Nat) (F : Nat → Ver) (f : Nat → Nat) : Prop where
  good : JGood (jl N n + 4) f
  k : rk f = N
  c : rc f = n
  t : rt f = t
  v : ∀ i, i < n → rF f i = F i
  nm : ∀ i, i < N → f (10 + i) = nm i
theorem read_back {t N : Nat} {nm : Nat → Nat} {n : Nat} {F : Nat → Ver} {f : Nat → Nat} (hnm : ∀ i, nm i < 256) (hF : ∀ i, (F i).sm < 4294967296) (hm : mayJ t N n F = true) (hf : ∀ i, i < jl N n + 4 → f i = jf t N nm n F i) : ReadBack t N nm n F f := by
  obtain ⟨h1, h2, h3, h4, h5⟩ := mayJ_iff.1 hm
  have hb : ∀ i, i < jl N n → f i = jb t N nm n F i := fun i hi => by
    rw [hf i (by omega)]; unfold jf; rw [if_pos hi]
  have hl : jl N n = 11 + N + 13 * n := rfl
  have e8 : f 8 = by4 N 0 := by rw [hb 8 (by omega)]; unfold jb; rfl
  have e9 : f 9 = by4 N 1 := by rw [hb 9 (by omega)]; unfold jb; rfl
  have ek : rk f = N := by unfold rk; rw [e8, e9]; unfold by4; simp; omega
  have ec : rc f = n := by
    unfold rc; rw [ek, hb (10 + N) (by omega)]; unfold jb
    rw [if_neg (by omega), if_neg (by omega), if_neg (by omega), if_neg (by omega), if_pos (by omega)]; omega
  have et : rt f = t := le4_of (by omega) (fun i hi => by
    rw [hb (4 + i) (by omega)]; unfold jb
    rw [if_neg (by omega), if_pos (by omega), Nat.add_sub_cancel_left])
  have ev : ∀ i, i < n → rF f i = F i := fun i hi => by
    unfold rF; rw [ek]
    exact rv_vb (fun r hr => by rw [hb _ (by omega)]; exact jb_ver i r hr) (mayR_at hi h5).2 (hF i)
  refine ⟨⟨by omega, by omega, ?_, ?_, ?_, ?_⟩, ek, ec, et, ev, ?_⟩
  · unfold fit
    rw [Nat.add_sub_cancel]
    have hs : sum (jl N n) f = sum (jl N n) (jb t N nm n F) := more_congr hb
    rw [hs]
    exact le4_of (more_lt (by omega) (jb_lt hnm)) (fun i hi => by
      rw [hf _ (by omega)]; unfold jf; rw [if_neg (by omega), Nat.add_sub_cancel_left])
  · unfold frm
    rw [ek, ec]
    refine ⟨fun i hi => ?_, by omega, by omega⟩
    rw [hb i (by omega)]; unfold jb; rw [if_pos hi]
  · rw [ek, ec]
    have : ∀ k, k ≤ n → mks f (11 + N) k = true := by
      intro k
      induction k with
      | zero => intro _; rfl
      | succ k ih =>
        intro hk
        refine mks_succ (ih (by omega)) ?_
        rw [hb _ (by omega), jb_ver k 4 (by omega)]
        unfold vb
        rw [if_neg (by omega), if_pos (by omega)]
        split <;> omega
    exact this n (Nat.le_refl _)
  · rw [et, ek, ec, mayJ_congr ev]; exact hm
  · intro i hi
    rw [hb _ (by omega)]; unfold jb
    rw [if_neg (by omega), if_neg (by omega), if_neg (by omega), if_pos (by omega), Nat.add_sub_cancel_left]
/-- What is read, written again, is the bytes. -/
theorem write_back {n : Nat} {f : Nat → Nat} (hf : ∀ i, f i < 256) (g : JGood n f) : n = jl (rk f) (rc f) + 4 ∧ ∀ i, i < n → jf (rt f) (rk f) (fun i => f (10 + i)) (rc f) (rF f) i = f i := by
  obtain ⟨hm, hle, hn⟩ := g.fm
  have hl : jl (rk f) (rc f) = 11 + rk f + 13 * rc f := rfl
  have hb : ∀ i, i < jl (rk f) (rc f) → jb (rt f) (rk f) (fun i => f (10 + i)) (rc f) (rF f) i = f i := by
    intro i hi
    unfold jb
    by_cases h1 : i < 4
    · rw [if_pos h1]; exact (hm i h1).symm
    rw [if_neg h1]
    by_cases h2 : i < 8
    · rw [if_pos h2]
      unfold rt
      rw [by4_le4 (fun i => hf _) (i - 4) (by omega)]
      congr 1; omega
    rw [if_neg h2]
    by_cases h3 : i < 10
    · rw [if_pos h3]
      have a := hf 8
      have b := hf 9
      unfold by4 rk
      rcases (by omega : i = 8 ∨ i = 9) with rfl | rfl
      · simp; omega
      · simp; omega
    rw [if_neg h3]
    by_cases h4 : i < 10 + rk f
    · rw [if_pos h4]
      show f (10 + (i - 10)) = _
      congr 1; omega
    rw [if_neg h4]
    by_cases h5 : i < 11 + rk f
    · rw [if_pos h5]
      have e : i = 10 + rk f := by omega
      rw [e]
      exact Nat.mod_eq_of_lt (hf _)
    rw [if_neg h5]
    have hq : (i - (11 + rk f)) / 13 < rc f := by omega
    have := mks_at hq g.ms
    unfold rF
    rw [vb_rv hf this _ (by omega)]
    congr 1; omega
  refine ⟨by omega, fun i hi => ?_⟩
  unfold jf
  by_cases h : i < jl (rk f) (rc f)
  · rw [if_pos h]; exact hb i h
  · rw [if_neg h]
    have ft := g.ft
    unfold fit at ft
    rw [show sum (jl (rk f) (rc f)) (jb (rt f) (rk f) (fun i => f (10 + i)) (rc f) (rF f)) = sum (n - 4) f by rw [show n - 4 = jl (rk f) (rc f) by omega]; exact more_congr hb, ← ft,
      by4_le4 (fun i => hf _) (i - jl (rk f) (rc f)) (by omega)]
    congr 1; omega
end Crc
end Go.Proofs.YtfgngecenbopnaaDoor
