/-
  Plain mathematics: bits turned within 32 in a row of a shard file are told by the head's sum, or by a block's.
-/
import Derived.Test.YtjbdncgmpccedaaDoorShK
namespace Go.Proofs.YtjbdncgmpccedaaDoor
namespace Crc

theorem in_block {S B q : Nat} (N : Nat) (h1 : 24 ≤ q) (h2 : q < plen S B N) : ∃ k, k < N ∧ plen S B k ≤ q ∧ q < plen S B (k + 1) := by
  induction N with
  | zero => unfold plen at h2; rw [Nat.zero_mul, Nat.zero_min] at h2; omega
  | succ N ih =>
    by_cases h : q < plen S B N
    · obtain ⟨k, hk, h3, h4⟩ := ih h
      exact ⟨k, by omega, h3, h4⟩
    · exact ⟨N, by omega, by omega, h2⟩
theorem head_told {K M I B S D fr mask : Nat} {f : Nat → Nat} (hx : ∃ p, p < 192 ∧ bt fr mask 32 p ≠ 0) :
    le4 (fun i => file K M I B S D f (20 + i) ^^^ bd fr mask 32 (20 + i)) ≠ sum 20 (fun j => file K M I B S D f j ^^^ bd fr mask 32 j) := by
  obtain ⟨p, hp, hb⟩ := hx
  have hr := part_told (n := 24) (s := 0) (fr := fr) (mask := mask) (by omega) ⟨p, by omega, by rw [Nat.mul_zero, Nat.zero_add]; exact hb⟩
  have e0 : (fun i => bd fr mask 32 (0 + i)) = bd fr mask 32 := funext fun i => by rw [Nat.zero_add]
  rw [e0] at hr
  have ht := tail_gen (n := 20) (f := hd20 K M I B S D) (d := bd fr mask 32) (hd20_lt _ _ _ _ _ _) (fun i => bd_lt _ _ _ _) hr
  rw [le4_cong (h := fun i => by4 (sum 20 (hd20 K M I B S D)) i ^^^ bd fr mask 32 (20 + i)) (fun i hi => by
      have e : file K M I B S D f (20 + i) = by4 (sum 20 (hd20 K M I B S D)) i := by unfold file; rw [if_neg (by omega), if_pos (by omega), Nat.add_sub_cancel_left]
      rw [e]),
    show sum 20 (fun j => file K M I B S D f j ^^^ bd fr mask 32 j) = sum 20 (fun j => hd20 K M I B S D j ^^^ bd fr mask 32 j) from more_congr fun j hj => by
      have e : file K M I B S D f j = hd20 K M I B S D j := by unfold file; rw [if_pos hj]
      rw [e]]
  exact ht
theorem block_told {K M I B S D fr mask : Nat} {f : Nat → Nat} (hB : 0 < B) (hf : ∀ i, f i < 256) {k : Nat} (hk : k < nb S B) (hx : ∃ p, p < 8 * (blen S B k + 4) ∧ bt fr mask 32 (8 * plen S B k + p) ≠ 0) :
    ¬ Fit (fun i => file K M I B S D f i ^^^ bd fr mask 32 i) B S k := fun hfit => by
  have hkS := nb_up hB hk
  have hr := part_told (n := blen S B k + 4) (s := plen S B k) (fr := fr) (mask := mask) (by omega) hx
  have ht := tail_gen (n := blen S B k) (f := fun i => f (k * B + i)) (d := fun i => bd fr mask 32 (plen S B k + i)) (fun i => hf _) (fun i => bd_lt _ _ _ _) hr
  refine ht ?_
  unfold Fit at hfit
  rw [le4_cong (h := fun i => by4 (sum (blen S B k) (fun i => f (k * B + i))) i ^^^ bd fr mask 32 (plen S B k + (blen S B k + i))) (fun i hi => by
      dsimp only
      rw [file_sum (by omega) hi, Nat.add_assoc]),
    show sum (blen S B k) (fun i => file K M I B S D f (plen S B k + i) ^^^ bd fr mask 32 (plen S B k + i)) = sum (blen S B k) (fun j => f (k * B + j) ^^^ bd fr mask 32 (plen S B k + j)) from more_congr fun j hj => by
      rw [file_data (by omega) hj]] at hfit
  exact hfit
/-- A file that was turned is told, by its head or by a block. -/
theorem burst_told {K M I B S D fr mask : Nat} {f : Nat → Nat} (hB : 0 < B) (hf : ∀ i, f i < 256) (hn : fr + 32 ≤ 8 * plen S B (nb S B)) (hm : mask < 4294967296) (h0 : mask ≠ 0) :
    (∃ p, p < 192 ∧ bt fr mask 32 p ≠ 0) ∨ ((∀ i, i < 24 → bd fr mask 32 i = 0) ∧ ∃ k, k < nb S B ∧ ¬ Fit (fun i => file K M I B S D f i ^^^ bd fr mask 32 i) B S k) := by
  by_cases hh : ∃ p, p < 192 ∧ bt fr mask 32 p ≠ 0
  · exact .inl hh
  · right
    have hz : ∀ p, p < 8 * 24 → bt fr mask 32 (8 * 0 + p) = 0 := fun p hp => Classical.byContradiction fun q => hh ⟨p, by omega, by rw [Nat.mul_zero, Nat.zero_add] at q; exact q⟩
    refine ⟨fun i hi => by have := part_same hz i hi; rw [Nat.zero_add] at this; exact this, ?_⟩
    obtain ⟨p, hp, hb⟩ := bt_some hn hm h0
    have hp24 : 192 ≤ p := Classical.byContradiction fun q => hh ⟨p, by omega, hb⟩
    obtain ⟨k, hk, h1, h2⟩ := in_block (S := S) (B := B) (q := p / 8) (nb S B) (by omega) (by omega)
    have hkS := nb_up hB hk
    rw [plen_next (by omega)] at h2
    exact ⟨k, hk, block_told hB hf hk ⟨p - 8 * plen S B k, by omega, by rw [show 8 * plen S B k + (p - 8 * plen S B k) = p by omega]; exact hb⟩⟩
end Crc
end Go.Proofs.YtjbdncgmpccedaaDoor
