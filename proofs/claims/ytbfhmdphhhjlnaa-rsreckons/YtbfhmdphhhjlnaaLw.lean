/-
  What several laws of layer 3 share.
-/
import Derived.Test.YtbfhmdphhhjlnaaAwk
import Derived.StillTailTactics
namespace Go.Proofs.Ytbfhmdphhhjlnaa
open Go.RowKit Gf
attribute [local go_sem ↓] Go.wp_at_zero Go.wp_at_succ

theorem rsame_bel (a a' : Option Addr) (n c c' : Nat) (A A' : Nat → Option Addr) (L L' C C' : Nat → Nat) (F F' : Nat → Nat → Nat) (w : World) (h : Mat w a n A L C F) (h' : Mat w a' n A' L' C' F') (hn : n ≤ maxLen) (hq : Alike n L L' F F') :
    Calls Try.prog 19 #[.slice a n c, .slice a' n c'] w fun e w' => e = .returned (.bool true) ∧ Below w.heap.size w w' := by
  refine (rsame_yes a a' n c c' A A' L L' C C' F F' w h h' hn hq).mono ?_
  rintro e w' ⟨rfl, m, rfl⟩
  exact ⟨rfl, below_drewN (Below.refl _ _) m⟩

theorem Rws.form2 {w : World} {base k : Nat} {v : Value} {L : Nat → Nat} {F : Nat → Nat → Nat} (b : Rws w base v k L F) (hle : ∀ i, L i ≤ 9223372036854775807) (hF : B F) :
    ∃ a c A C, v = .slice a k c ∧ Mat w a k A L C F ∧ (∀ ad, a = some ad → base ≤ ad.block ∧ ad.block < w.heap.size) ∧ k ≤ c := by
  obtain ⟨a, c, A, C, rfl, m, hb⟩ := b.form hle hF
  refine ⟨a, c, A, C, rfl, m, hb, ?_⟩
  obtain ⟨A', C', b'⟩ := b
  rcases b'.own.2 with ⟨q, rfl⟩ | ⟨g, cap, cur, q, _, _, hc, _⟩
  · omega
  · injection q with _ _ q; omega

/-- Rows that were built are held. -/
theorem Built.hold {w : World} {base k : Nat} {v : Value} {L : Nat → Nat} {F : Nat → Nat → Nat} (b : Built w base v k L F) (k1 : 1 ≤ k) (hle : ∀ i, L i ≤ 9223372036854775807) (hF : B F) :
    ∃ h c A C, v = .slice (some ⟨h, 0, none⟩) k c ∧ Hold w h k A L C F ∧ base ≤ h ∧ k ≤ c ∧ (∀ i, i < k → 0 < L i → ∃ g, A i = some ⟨g, 0, none⟩ ∧ base ≤ g ∧ g ≠ h ∧ ∀ j, j < L i → w.frozen? ⟨g, j, none⟩ = false) ∧ ∀ i j, i < k → j < k → 0 < L i → 0 < L j → A i = A j → i = j := by
  obtain ⟨A, C, b⟩ := b
  have b0 := b
  rcases b.own.2 with ⟨_, e0⟩ | ⟨h, cap, cur, e, hb, hh, hc, _⟩
  · omega
  · subst e
    refine ⟨h, cap, A, C, rfl, ⟨b0.mat hle hF, fun i hi => b0.own.frozenAt i⟩, hb, hc, fun i hi hl => ?_, fun i j hi hj li lj e => ?_⟩
    · obtain ⟨bb, o, e, _⟩ := (b0.row i hi).lies hl
      have q := b0.blk i hi _ e
      refine ⟨bb, by rw [e, q.1], q.2.2.1, fun z => q.2.1 (by rw [z]; rfl), fun j hj => b0.soft i hi _ e j hj⟩
    · obtain ⟨bb, o, e1, _⟩ := (b0.row i hi).lies li
      exact b0.inj i j hi hj _ _ e1 (by rw [← e]; exact e1) rfl

theorem Hold.drewN {w : World} {h n : Nat} {A : Nat → Option Addr} {L C : Nat → Nat} {F : Nat → Nat → Nat} (o : Hold w h n A L C F) (k : Nat) : Hold (w.drewN k) h n A L C F := ⟨o.mat.drewN k, o.soft⟩

theorem th_upd {p : Nat → Bool} {x n : Nat} (hx : x < n) (h : p x = false) : (th (upd p x true) n).length = (th p n).length + 1 := by
  induction n with
  | zero => omega
  | succ n ih =>
    by_cases e : x = n
    · subst e
      rw [th_yes (upd_at _ _ _), th_no h, List.length_append, List.length_singleton, th_congr (q := p) (fun i hi => upd_ne _ _ (by omega))]
    · have q : upd p x true n = p n := upd_ne _ _ (fun z => e z.symm)
      cases hn : p n with
      | true => rw [th_yes (q.trans hn), th_yes hn, List.length_append, List.length_append, ih (by omega)]; omega
      | false => rw [th_no (q.trans hn), th_no hn, ih (by omega)]

theorem th_all (n : Nat) : (th (fun _ => true) n).length = n := by
  induction n with
  | zero => rfl
  | succ n ih => rw [th_yes rfl, List.length_append, ih, List.length_singleton]

/-- Made again of what was made it is the same. -/
theorem enc_enc {k : Nat} {S F : Nat → Nat → Nat} (h : IsSys k S) (hF : B F) (i j : Nat) : mm k S (mm k S F) i j = mm k S F i j :=
  mm_rows fun _ ht => enc_top h hF ht
end Go.Proofs.Ytbfhmdphhhjlnaa
