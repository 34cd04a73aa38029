/-
  What the laws of layer 5 share: files that are cut, longer, turned.
-/
import Derived.Test.YtjbdncgmpccedaaDoorShO
namespace Go.Proofs.YtjbdncgmpccedaaDoor
open Go.RowKit Crc

theorem fit_congr {G H : Nat → Nat} {B S k : Nat} (h : ∀ i, i < plen S B (k + 1) → G i = H i) (hk : k * B ≤ S) : Fit G B S k ↔ Fit H B S k := by
  have e := plen_next hk
  unfold Fit
  rw [le4_cong (g := fun i => G (plen S B k + blen S B k + i)) (h := fun i => H (plen S B k + blen S B k + i)) (fun i hi => h _ (by omega)),
    show sum (blen S B k) (fun i => G (plen S B k + i)) = sum (blen S B k) (fun i => H (plen S B k + i)) from more_congr fun i hi => h _ (by omega)]
theorem wl_plen {S B : Nat} (hB : 0 < B) : wl S B S = plen S B (nb S B) := by
  rcases wl_end (S := S) (B := B) with e | e
  · exact e
  · omega
/-- A file that is cut. -/
theorem cut_bad {K M I B S D n : Nat} {f : Nat → Nat} {y : Int} (hB : 0 < B) (hf : ∀ i, f i < 256) (hn : n < wl S B S) (h : Bad n (file K M I B S D f) B S y) : y = 2 := by
  rw [wl_plen hB] at hn
  rcases h with ⟨e, _⟩ | ⟨_, k, hk, _, hx⟩ | ⟨_, hx⟩
  · exact e
  · exact absurd (file_fit hB hf hk) hx
  · omega
/-- A file with a byte behind. -/
theorem more_bad {K M I B S D : Nat} {f G : Nat → Nat} {y : Int} (hB : 0 < B) (hf : ∀ i, f i < 256) (hG : ∀ i, i < wl S B S → G i = file K M I B S D f i) (h : Bad (wl S B S + 1) G B S y) : y = 4 := by
  rw [wl_plen hB] at h hG
  rcases h with ⟨_, k, hk, hx⟩ | ⟨_, k, hk, _, hx⟩ | ⟨e, _⟩
  · have := plen_mono (S := S) (B := B) (i := k + 1) (j := nb S B) (by omega)
    omega
  · have hkS := nb_up hB hk
    have := plen_mono (S := S) (B := B) (i := k + 1) (j := nb S B) (by omega)
    exact absurd ((fit_congr (fun i hi => hG i (by omega)) (by omega)).2 (file_fit hB hf hk)) hx
  · exact e
theorem wl_24 (S B t : Nat) : 24 ≤ wl S B t := wl_pos S B t
end Go.Proofs.YtjbdncgmpccedaaDoor
