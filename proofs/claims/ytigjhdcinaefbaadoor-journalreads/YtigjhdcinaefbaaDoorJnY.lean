/-
  What the document's Decode answers.
-/
import Derived.Test.YtigjhdcinaefbaaDoorJnW
import Derived.Test.YtigjhdcinaefbaaDoorJnC
import Derived.Test.YtigjhdcinaefbaaDoorJnI
import Derived.Test.YtigjhdcinaefbaaDoorCrcRef
namespace Go.Proofs.YtigjhdcinaefbaaDoor
open Go.RowKit Crc
attribute [local go_sem ↓] Go.wp_at_zero Go.wp_at_succ
set_option linter.unusedVariables false

/-- What the document's Decode of n bytes ends in. -/
def RDecEnd (n : Nat) (f : Nat → Nat) (w : World) (e : Ending) (w' : World) : Prop := Below w.heap.size w w' ∧
  ((JGood n f ∧ ∃ v, e = .returned (.tuple #[v, .int .i64 0]) ∧ Jn w' v ((rt f : Nat) : Int) (str (fun i => f (10 + i)) (rk f)) (rc f) (rF f)) ∨
   (∃ c, JBad n f c ∧ e = .returned (.tuple #[nojn, .int .i64 c])))
theorem rv_fits {f : Nat → Nat} (hf : ∀ i, f i < 256) (p : Nat) : (rv f p).fits := by
  have h1 := le4_lt (g := fun j => f (p + j)) (fun j => hf _)
  have h2 := le4_lt (g := fun j => f (p + 5 + j)) (fun j => hf _)
  have h3 := le4_lt (g := fun j => f (p + 9 + j)) (fun j => hf _)
  exact ⟨by show _ ≤ ((le4 _ : Nat) : Int); omega, by show ((le4 _ : Nat) : Int) ≤ _; omega, by show _ ≤ ((le4 _ : Nat) : Int); omega, by show ((le4 _ : Nat) : Int) ≤ _; omega, h3⟩

set_option maxRecDepth 100000 in
set_option maxHeartbeats 4000000 in
theorem rdecode_early (a : Option Addr) (n c : Nat) (f : Nat → Nat) (w : World) (h : Row w a n f) (hn : n ≤ maxLen) (hc : n ≤ c) (hx : 262144 < n ∨ n < 15 ∨ ¬ fit n f) :
    Calls Tryd.prog 17 #[.slice a n c] w (RDecEnd n f w) := by
  unfold maxLen at hn
  obtain ⟨W, hbx⟩ : ∃ W, w.alloc (.cells #[.int .i64 0, .string noS, .slice none 0 0] 24) = W := ⟨_, rfl⟩
  have hb : Below w.heap.size w W := by rw [← hbx]; exact bal _ _
  have hd : JB W w.heap.size 0 noS (.slice none 0 0) 24 := by rw [← hbx]; exact heap_alloc_new _ _
  obtain ⟨c0, c1, c2⟩ := hd.at
  have f0 : ∀ j, W.frozen? ⟨w.heap.size, j, none⟩ = false := hd.soft
  have HB : Hid (Below w.heap.size w W) := hb
  have hR := h.keep hb
  clear hb hd
  unfold noS at *
  by_cases h1 : 262144 < n
  · have g1 : (262144 : Int) < (n : Int) := by omega
    have HBad : Hid (JBad n f 3) := .inl ⟨rfl, h1⟩
    clear h hR h1 hx
    go_enter Tryd.func17, Tryd.ntmps17
    go_wp2_with fail
    exact bodyPost_ret (v := .tuple #[nojn, .int .i64 3]) (by simp [results, Tryd.results17, go_sem, nojn, jv, noS, *]) rfl ⟨below3 HB.out (Nat.le_refl _) _ _ _, .inr ⟨3, HBad.out, rfl⟩⟩
  have g1 : decide ((262144 : Int) < (n : Int)) = false := decide_eq_false (by omega)
  by_cases h2 : n < 15
  · have g2 : (n : Int) < 15 := by omega
    have HBad : Hid (JBad n f 2) := .inr (.inl ⟨rfl, h2⟩)
    clear h hR h1 h2 hx
    go_enter Tryd.func17, Tryd.ntmps17
    go_wp2_with fail
    exact bodyPost_ret (v := .tuple #[nojn, .int .i64 2]) (by simp [results, Tryd.results17, go_sem, nojn, jv, noS, *]) rfl ⟨below3 HB.out (Nat.le_refl _) _ _ _, .inr ⟨2, HBad.out, rfl⟩⟩
  have g2 : decide ((n : Int) < 15) = false := decide_eq_false (by omega)
  have h3 : ¬ fit n f := by rcases hx with q | q | q; omega; omega; exact q
  have e1 : (n : Int) - 4 = ((n - 4 : Nat) : Int) := by omega
  obtain ⟨A2, s2, r2⟩ := cut_h (c := c) hR (n - 4) (by omega) hc
  have cG : ∀ q, Calls Tryd.prog 42 #[.slice a n c, .int .i64 ((n - 4 : Nat) : Int), .int .i64 4] (W.drewN q) fun e w' => e = .returned (.int .i64 ((le4 (fun i => f (n - 4 + i)) : Nat) : Int)) ∧ w' = W.drewN q := fun q => by
    have := get_any a n c (n - 4) 4 f (W.drewN q) (hR.keep (bdn W q)) (by omega) (by omega) (by omega)
    rw [gvr_four] at this
    exact this.mono fun e w' ⟨h1, h2⟩ => ⟨h1, h2.symm⟩
  have cS : ∀ q, Calls Tryd.prog 36 #[.slice A2 (n - 4) c] (W.drewN q) fun e w' => e = .returned (.int .u32 ((sum (n - 4) f : Nat) : Int)) ∧ w' = W.drewN q := fun q =>
    (rsum_any A2 (n - 4) c f (W.drewN q) (r2.keep (bdn W q)) (by unfold maxLen; omega)).mono fun e w' ⟨h1, h2⟩ => ⟨h1, h2.symm⟩
  have HBad : Hid (JBad n f 5) := .inr (.inr (.inl ⟨rfl, by omega, by omega, h3⟩))
  have g3 : (((le4 (fun i => f (n - 4 + i)) : Nat) : Int) != ((sum (n - 4) f : Nat) : Int)) = true := by
    rw [bne_iff_ne]; exact fun q => h3 (show le4 _ = sum _ _ by omega)
  have g3' : (le4 (fun i => f (n - 4 + i)) != sum (n - 4) f) = true := by
    rw [bne_iff_ne]; exact fun q => h3 q
  have lx : le4 (fun i => f (n - 4 + i)) < 4294967296 := le4_lt (fun i => h.lt _)
  have lx' : ((le4 (fun i => f (n - 4 + i)) : Nat) : Int) < 4294967296 := by omega
  clear h hR h1 h2 h3 r2 hx
  generalize le4 (fun i => f (n - 4 + i)) = x at *
  generalize sum (n - 4) f = y at *
  generalize n - 4 = N4 at *
  go_enter Tryd.func17, Tryd.ntmps17
  go_wp2_with fail
  go_quiet (first | (go_at_call 42; refine Calls.quiet_of_same (cG _)) | (go_at_call 36; refine Calls.quiet_of_same (cS _)))
  go_wp2_with fail
  exact bodyPost_ret (v := .tuple #[nojn, .int .i64 5]) (by simp [results, Tryd.results17, go_sem, nojn, jv, noS, *]) rfl ⟨hop (below3 HB.out (Nat.le_refl _) _ _ _) (bdn _ _), .inr ⟨5, HBad.out, rfl⟩⟩
end Go.Proofs.YtigjhdcinaefbaaDoor
