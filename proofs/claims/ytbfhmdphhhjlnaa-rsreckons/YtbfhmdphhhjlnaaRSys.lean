/-
  What the document's own Systematic does, and 'has'; a number that is not among some.
-/
import Derived.Test.YtbfhmdphhhjlnaaRInv
namespace Go.Proofs.Ytbfhmdphhhjlnaa
open Go.RowKit Gf
attribute [local go_sem ↓] Go.wp_at_zero Go.wp_at_succ

theorem Bld.form2 {w : World} {base k : Nat} {v : Value} {A : Nat → Option Addr} {L C : Nat → Nat} {F : Nat → Nat → Nat} (b : Bld w base v k A L C F) (hk : 1 ≤ k) : ∃ a c, v = .slice (some a) k c ∧ k ≤ c := by
  rcases b.own.2 with ⟨_, e⟩ | ⟨g, cap, cur, rfl, _, _, hc, _⟩
  · omega
  · exact ⟨_, cap, rfl, hc⟩

set_option maxRecDepth 100000 in
set_option maxHeartbeats 2000000 in
theorem rsystematic_yes (k m : Nat) (w : World) (k1 : 1 ≤ k) (m1 : 1 ≤ m) (hkm : k + m ≤ 255) :
    Calls Try.prog 36 #[.int .i64 k, .int .i64 m] w fun e w' => ∃ v X base, e = .returned (.tuple #[v, .bool true]) ∧ IsInv k V X ∧ B X ∧ Built w' base v (k + m) (fun _ => k) (mm k V X) ∧ Below w.heap.size w w' := by
  have cV := rvander_any (k + m) k w (by omega) (by omega) k1 (by omega)
  have q : ((k + m : Nat) : Int) = (k : Int) + (m : Int) := by omega
  rw [q] at cV
  clear q
  have g1 : (m : Int) ≤ 255 - (k : Int) := by omega
  go_enter Try.func36, Try.ntmps36
  go_wp2_with fail
  go_at_call 47
  refine cV.mono ?_
  rintro e w1 ⟨v1, rfl, ⟨A1, C1, bl1⟩, b1⟩
  obtain ⟨a1, c1, rfl, hc1⟩ := bl1.form2 (by omega)
  have m1' := bl1.mat (fun _ => by omega) V_B
  have HM : Hid (Mat w1 (some a1) (k + m) A1 (fun _ => k) C1 V) := m1'
  have cI := rinvert_any (some a1) k c1 A1 C1 V w1 (m1'.take (by omega)) k1 (by omega) (V_inj (by omega))
  clear bl1 m1' cV
  have ic : (k : Int) ≤ (c1 : Int) := by omega
  go_wp2_with fail
  go_at_call 39
  refine cI.mono ?_
  rintro e w2 ⟨hy, cy, Gy, Cy, X, lo, top, rfl, sq, lX, iv, b2⟩
  clear cI
  have b02 : Below w.heap.size w w2 := b1.trans (b2.mono b1.size)
  have cM := rmulMat_any (some a1) (some ⟨hy, 0, none⟩) (k + m) k k c1 cy A1 _ C1 Cy V X w2 (HM.out.keep b2) (sq.mat (by omega) lX) (by omega) hkm k1 (by omega) k1 (by omega)
  have HI : Hid (IsInv k V X) := iv
  have HX : Hid (B X) := lX
  clear sq lX iv HM
  go_wp2_with fail
  go_at_call 48
  refine cM.mono ?_
  rintro e w3 ⟨v3, rfl, bl3, b3⟩
  clear cM
  have HB : Hid (Built w3 w2.heap.size v3 (k + m) (fun _ => k) (mm k V X)) := bl3
  have b03 : Below w.heap.size w w3 := b02.trans (b3.mono b02.size)
  clear bl3
  go_wp2
  go_ret2
  exact ⟨v3, X, _, rfl, HI.out, HX.out, HB.out, b03⟩

/-- So many numbers, all unlike, below q: they are at most q. -/
theorem pigeon : ∀ (q N : Nat) (f : Nat → Nat), (∀ x, x < N → f x < q) → (∀ x, x < N → ∀ y, y < N → f x = f y → x = y) → N ≤ q
  | 0, N, f, h, _ => by
    rcases Nat.eq_zero_or_pos N with z | z
    · omega
    · have := h 0 z; omega
  | q + 1, 0, _, _, _ => by omega
  | q + 1, N + 1, f, h, hi => by
    have := pigeon q N (fun x => if f x = q then f N else f x) (fun x hx => by
      have h1 := h x (by omega)
      have h2 := h N (by omega)
      split
      · rename_i e
        rcases Nat.lt_or_ge (f N) q with z | z
        · exact z
        · have := hi x (by omega) N (by omega) (by omega); omega
      · omega) (fun x hx y hy e => by
      by_cases ex : f x = q
      · by_cases ey : f y = q
        · exact hi x (by omega) y (by omega) (by omega)
        · rw [if_pos ex, if_neg ey] at e
          have := hi N (by omega) y (by omega) e; omega
      · by_cases ey : f y = q
        · rw [if_neg ex, if_pos ey] at e
          have := hi x (by omega) N (by omega) e; omega
        · rw [if_neg ex, if_neg ey] at e
          exact hi x (by omega) y (by omega) e)
    omega

/-- Fewer than N numbers leave one below N out. -/
theorem left_out {q N : Nat} {g : Nat → Int} (hq : q < N) : ∃ x, x < N ∧ ∀ i, i < q → g i ≠ (x : Int) := by
  apply Classical.byContradiction
  intro hno
  have all : ∀ x, x < N → ∃ i, i < q ∧ g i = (x : Int) := fun x hx => by
    apply Classical.byContradiction
    intro h
    exact hno ⟨x, hx, fun i hi e => h ⟨i, hi, e⟩⟩
  have := pigeon q N (fun x => if h : x < N then Classical.choose (all x h) else 0) (fun x hx => by
    rw [dif_pos hx]; exact (Classical.choose_spec (all x hx)).1) (fun x hx y hy e => by
    rw [dif_pos hx, dif_pos hy] at e
    have h1 := (Classical.choose_spec (all x hx)).2
    have h2 := (Classical.choose_spec (all y hy)).2
    rw [e] at h1
    omega)
  omega

/-- How far it is, going round, from x to one that is left out. -/
def far (N : Nat) (free : Nat → Bool) (x : Nat) : Nat := (List.range N).findIdx fun d => free ((x + d) % N)
theorem far_step {N x : Nat} {free : Nat → Bool} (hN : 0 < N) (hx : x < N) (hno : free x = false) (hex : ∃ y, y < N ∧ free y = true) : far N free ((x + 1) % N) < far N free x := by
  obtain ⟨y, hy, hf⟩ := hex
  have hd : far N free x < N := by
    unfold far
    have : (List.range N).findIdx (fun d => free ((x + d) % N)) < (List.range N).length := by
      apply List.findIdx_lt_length_of_exists
      refine ⟨(y + N - x) % N, List.mem_range.2 (Nat.mod_lt _ hN), ?_⟩
      have e : (x + (y + N - x) % N) % N = y := by
        rw [Nat.add_mod_mod, show x + (y + N - x) = y + N by omega, Nat.add_mod_right, Nat.mod_eq_of_lt hy]
      rw [e]; exact hf
    simpa using this
  have hfree : free ((x + far N free x) % N) = true := by
    have h1 : (List.range N).findIdx (fun d => free ((x + d) % N)) < (List.range N).length := by simpa [far] using hd
    have := List.findIdx_getElem (w := h1)
    simpa [far] using this
  have hpos : 0 < far N free x := by
    rcases Nat.eq_zero_or_pos (far N free x) with z | z
    · rw [z, Nat.add_zero, Nat.mod_eq_of_lt hx, hno] at hfree; cases hfree
    · exact z
  have e : ((x + 1) % N + (far N free x - 1)) % N = (x + far N free x) % N := by
    rw [Nat.mod_add_mod]; congr 1; omega
  have : far N free ((x + 1) % N) ≤ far N free x - 1 := by
    show (List.range N).findIdx (fun d => free (((x + 1) % N + d) % N)) ≤ far N free x - 1
    apply Classical.byContradiction
    intro hgt
    have h2 := List.not_of_lt_findIdx (p := fun d => free (((x + 1) % N + d) % N)) (xs := List.range N) (i := far N free x - 1) (by omega)
    simp at h2
    rw [show x + 1 + (far N free x - 1) = x + far N free x by omega, hfree] at h2
    cases h2
  omega
end Go.Proofs.Ytbfhmdphhhjlnaa
