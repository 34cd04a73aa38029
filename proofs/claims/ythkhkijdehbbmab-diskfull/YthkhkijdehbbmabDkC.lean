/-
  What a disk of the document asks, with or without a fuse; Read.
-/
import Derived.Test.YthkhkijdehbbmabDkB
set_option maxRecDepth 100000
namespace Go.Proofs.Ythkhkijdehbbmab
open Go.RowKit Dk Nm
attribute [local go_sem ↓] Go.wp_at_zero Go.wp_at_succ
set_option linter.unusedVariables false

theorem bdn' (w : World) (n : Nat) : Below w.heap.size w (w.drewN n) := ⟨rfl, rfl, rfl, Nat.le_refl _, fun _ _ => rfl⟩
/-- The fuse's count is far from its end. -/
def Zb (z : Option Fz) : Prop := ∀ y, z = some y → 0 ≤ y.done ∧ y.done ≤ 4611686018427387904
theorem lit_str (w : World) (x : ByteArray) : Strs (w.alloc (.cells #[.string x] 9)) (some ⟨w.heap.size, 0, none⟩) [x] := fun _ => ⟨_, 0, rfl, fun i hi => by
  have : i = 0 := by simp at hi; omega
  subst this
  rw [World.cell?_alloc_new]; rfl⟩
/-- What a file holds, and nothing where it is not. -/
def dataAt (x : ByteArray) (l : List Fl) : ByteArray := match l[place x l]? with
  | some f => f.b
  | none => ⟨#[]⟩
theorem own_slice {w : World} {base n c : Nat} {a : Option Addr} {f : Nat → Nat} (h : Own w base (.slice a n c) n f) (hf : ∀ i, f i < 256) : Row w a n f ∧ (a = none → n = 0 ∧ c = 0) := by
  by_cases h0 : n = 0
  · subst h0
    refine ⟨Row.zero w a hf, fun e => ?_⟩
    rcases h.2 with ⟨e2, _⟩ | ⟨g, cap, cur, e2, _⟩
    · injection e2 with e3 e4 e5; exact ⟨rfl, e5⟩
    · rw [e] at e2; injection e2 with e3; cases e3
  · obtain ⟨g, cap, e2, _, _, _, hr⟩ := h.row (by omega) hf
    injection e2 with e3 e4 e5
    subst e3
    exact ⟨hr, fun e => by cases e⟩
theorem own_mono {w : World} {b b' n : Nat} {v : Value} {f : Nat → Nat} (h : Own w b v n f) (hb : b' ≤ b) : Own w b' v n f := by
  rcases h with ⟨hl, e | ⟨g, cap, cur, e, hg, hh, hr⟩⟩
  · exact ⟨hl, .inl e⟩
  · exact ⟨hl, .inr ⟨g, cap, cur, e, by omega, hh, hr⟩⟩
/-- What Read answers. -/
def readZ (z : Option Fz) (s : St) (x : ByteArray) : ByteArray × Int := if (askZ z s [x]).1 ≠ 0 then (⟨#[]⟩, (askZ z s [x]).1) else if there x s.fs = true then (dataAt x s.fs, 0) else (⟨#[]⟩, 6)
theorem askD_fs (s : St) (ps : List ByteArray) : (askD s ps).2.fs = s.fs := by
  unfold askD
  split
  · rfl
  · split
    · rfl
    · split <;> rfl
theorem askZ_fs (z : Option Fz) (s : St) (ps : List ByteArray) : (askZ z s ps).2.2.fs = s.fs := by
  unfold askZ
  cases z with
  | none => exact askD_fs s ps
  | some y =>
    dsimp only
    split
    · rfl
    · exact askD_fs s ps
/-- A row of bytes of one's own that holds x. -/
def Bts (w : World) (base : Nat) (v : Value) (x : ByteArray) : Prop := ∃ f : Nat → Nat, (∀ i, f i < 256) ∧ Own w base v x.size f ∧ str f x.size = x
theorem Bts.none (w : World) (base : Nat) : Bts w base (.slice none 0 0) ⟨#[]⟩ := ⟨fun _ => 0, fun _ => (by decide : (0 : Nat) < 256), Own.start _ _ _, rfl⟩
end Go.Proofs.Ythkhkijdehbbmab
