/-
  Plain mathematics of a shard file: where each byte stands; bits that are turned within 32 in a row, over several parts with a sum each, are told by the first part that they touch.
-/
import Derived.Test.YtjbdncgmpccedaaDoorCrcM
namespace Go.Proofs.YtjbdncgmpccedaaDoor
namespace Crc

theorem told {n : Nat} {d : Nat → Nat} (hd : ∀ i, d i < 256) (fr : Nat) (hn : fr + 32 ≤ 8 * n) (h0 : ∀ p, p < 8 * n → p < fr ∨ fr + 32 ≤ p → bit d p = 0) (hx : ∃ p, p < 8 * n ∧ bit d p ≠ 0) : rb n 0 d ≠ 0 := by
  rw [rb_runs n hd]
  refine burst (bit_lt d) hn h0 (fun e => ?_)
  obtain ⟨p, hp, hb⟩ := hx
  have hw : ¬ (p < fr ∨ fr + 32 ≤ p) := fun q => hb (h0 p hp q)
  have t := val_testBit 32 (fun i => bit d (fr + i)) (p - fr) (fun i => bit_lt d _)
  rw [e] at t
  have h1 : bit d (fr + (p - fr)) = 1 := by
    rw [show fr + (p - fr) = p by omega]
    have := bit_lt d p
    omega
  have : (0 : Nat).testBit (p - fr) = true := by rw [t]; exact decide_eq_true ⟨by omega, h1⟩
  simp at this

/-- A row with its sum behind it, turned somewhere, in a way that leaves no nought. -/
theorem tail_gen {n : Nat} {f d : Nat → Nat} (hf : ∀ i, f i < 256) (hd : ∀ i, d i < 256) (hr : rb (n + 4) 0 d ≠ 0) :
    le4 (fun i => by4 (sum n f) i ^^^ d (n + i)) ≠ sum n (fun j => f j ^^^ d j) := fun e => by
  have hs : sum n f < 4294967296 := more_lt (by omega) hf
  rw [le4_xor (by4_lt _) (fun i => hd _), le4_by4 hs] at e
  have h := sum_xor n f (fun j => f j ^^^ d j)
  rw [rb_congr n (g := d) (fun i _ => by rw [← Nat.xor_assoc, Nat.xor_self, Nat.zero_xor]), ← e, ← Nat.xor_assoc, Nat.xor_self, Nat.zero_xor] at h
  refine hr ?_
  rw [rb_add, rb_runs 4 (f := fun i => d (n + i)) (fun i => hd _), runs_val 32 _ _ (fun i => bit_lt _ _), le4_val (fun i => hd _), ← h, Nat.xor_self, itn_zero]

theorem bit_bd (s fr mask p : Nat) : bit (fun i => bd fr mask 32 (s + i)) p = bt fr mask 32 (8 * s + p) := by
  have h := bit_val (bt fr mask 32) (bt_lt fr mask 32) (8 * s + p)
  have e : bit (fun i => bd fr mask 32 (s + i)) p = bit (bd fr mask 32) (8 * s + p) := by
    unfold bit
    rw [show (8 * s + p) / 8 = s + p / 8 by omega, show (8 * s + p) % 8 = p % 8 by omega]
  rw [e]; exact h
/-- A part of a file that the turned bits touch. -/
theorem part_told {n s fr mask : Nat} (hn : 4 ≤ n) (hx : ∃ p, p < 8 * n ∧ bt fr mask 32 (8 * s + p) ≠ 0) : rb n 0 (fun i => bd fr mask 32 (s + i)) ≠ 0 := by
  have hz : ∀ p, 8 * s + p < fr ∨ fr + 32 ≤ 8 * s + p → bt fr mask 32 (8 * s + p) = 0 := fun p h => by unfold bt; rw [if_neg (by omega)]
  refine told (fun i => bd_lt _ _ _ _) (if fr < 8 * s then 0 else min (fr - 8 * s) (8 * n - 32)) (by split <;> omega) (fun p hp h => ?_) ?_
  · rw [bit_bd]
    refine hz p ?_
    split at h <;> omega
  · obtain ⟨p, hp, hb⟩ := hx
    exact ⟨p, hp, by rw [bit_bd]; exact hb⟩
/-- A part that they do not touch is as it was. -/
theorem part_same {n s fr mask : Nat} (hx : ∀ p, p < 8 * n → bt fr mask 32 (8 * s + p) = 0) (i : Nat) (hi : i < n) : bd fr mask 32 (s + i) = 0 :=
  val_zero 8 _ (fun b hb => by rw [show 8 * (s + i) + b = 8 * s + (8 * i + b) by omega]; exact hx _ (by omega))
/-- They touch some bit. -/
theorem bt_some {n fr mask : Nat} (hn : fr + 32 ≤ 8 * n) (hm : mask < 4294967296) (h0 : mask ≠ 0) : ∃ p, p < 8 * n ∧ bt fr mask 32 p ≠ 0 := Classical.byContradiction fun h => h0 <| by
  have hz : ∀ i, i < 32 → mask / 2 ^ i % 2 = 0 := fun i hi => Classical.byContradiction fun q => h ⟨fr + i, by omega, by unfold bt; rw [if_pos (by omega), show fr + i - fr = i by omega]; exact q⟩
  rw [← val_self 32 mask hm]
  exact val_zero 32 _ hz

/-- The twenty bytes ahead. -/
def hd20 (K M I B n D : Nat) : Nat → Nat := fun p =>
  if p < 4 then (if p = 0 then 83 else if p = 1 then 66 else if p = 2 then 88 else 49)
  else if p < 8 then (if p = 4 then K % 256 else if p = 5 then M % 256 else if p = 6 then I % 256 else 0)
  else if p < 12 then by4 B (p - 8) else if p < 16 then by4 n (p - 12) else if p < 20 then by4 D (p - 16) else 0
theorem hd20_lt (K M I B n D p : Nat) : hd20 K M I B n D p < 256 := by
  unfold hd20
  have h1 := by4_lt B (p - 8); have h2 := by4_lt n (p - 12); have h3 := by4_lt D (p - 16)
  repeat' split
  all_goals omega
/-- How long block i is. -/
def blen (n B i : Nat) : Nat := min B (n - i * B)
/-- The file. -/
def file (K M I B n D : Nat) (f : Nat → Nat) : Nat → Nat := fun p =>
  if p < 20 then hd20 K M I B n D p else if p < 24 then by4 (sum 20 (hd20 K M I B n D)) (p - 20)
  else if (p - 24) % (B + 4) < blen n B ((p - 24) / (B + 4)) then f ((p - 24) / (B + 4) * B + (p - 24) % (B + 4))
  else by4 (sum (blen n B ((p - 24) / (B + 4))) (fun j => f ((p - 24) / (B + 4) * B + j))) ((p - 24) % (B + 4) - blen n B ((p - 24) / (B + 4)))
theorem file_lt {K M I B n D : Nat} {f : Nat → Nat} (hf : ∀ i, f i < 256) (p : Nat) : file K M I B n D f p < 256 := by
  unfold file
  split
  · exact hd20_lt _ _ _ _ _ _ _
  · split
    · exact by4_lt _ _
    · split
      · exact hf _
      · exact by4_lt _ _
/-- With k blocks it is so long. -/
def plen (n B k : Nat) : Nat := 24 + min (k * B) n + 4 * k
theorem file_at {K M I B n D : Nat} {f : Nat → Nat} (k r : Nat) (hr : r < B + 4) : file K M I B n D f (24 + k * (B + 4) + r) = if r < blen n B k then f (k * B + r) else by4 (sum (blen n B k) (fun j => f (k * B + j))) (r - blen n B k) := by
  have e1 : (24 + k * (B + 4) + r - 24) / (B + 4) = k := by
    rw [show 24 + k * (B + 4) + r - 24 = r + k * (B + 4) by omega, Nat.add_mul_div_right _ _ (by omega), Nat.div_eq_of_lt hr, Nat.zero_add]
  have e2 : (24 + k * (B + 4) + r - 24) % (B + 4) = r := by
    rw [show 24 + k * (B + 4) + r - 24 = r + k * (B + 4) by omega, Nat.add_mul_mod_self_right, Nat.mod_eq_of_lt hr]
  unfold file
  rw [if_neg (by omega), if_neg (by omega), e1, e2]
theorem plen_full {n B k : Nat} (h : k * B ≤ n) : plen n B k = 24 + k * (B + 4) := by
  unfold plen; rw [Nat.min_eq_left h, Nat.mul_add]; omega
theorem plen_next {n B k : Nat} (h : k * B ≤ n) : plen n B (k + 1) = plen n B k + blen n B k + 4 := by
  unfold plen blen
  rw [show (k + 1) * B = k * B + B by rw [Nat.add_mul, Nat.one_mul]]
  omega
/-- The file, block by block. -/
theorem file_data {K M I B n D k : Nat} {f : Nat → Nat} (h : k * B ≤ n) {j : Nat} (hj : j < blen n B k) : file K M I B n D f (plen n B k + j) = f (k * B + j) := by
  have hb : blen n B k ≤ B := Nat.min_le_left _ _
  rw [plen_full h, file_at k j (by omega), if_pos hj]
theorem file_sum {K M I B n D k : Nat} {f : Nat → Nat} (h : k * B ≤ n) {j : Nat} (hj : j < 4) : file K M I B n D f (plen n B k + blen n B k + j) = by4 (sum (blen n B k) (fun i => f (k * B + i))) j := by
  have hb : blen n B k ≤ B := Nat.min_le_left _ _
  rw [plen_full h, Nat.add_assoc, file_at k (blen n B k + j) (by omega), if_neg (by omega), Nat.add_sub_cancel_left]
end Crc
end Go.Proofs.YtjbdncgmpccedaaDoor
