/-
  What gf.New does: it answers a pointer to a new table that holds every power of two and every logarithm, and changes nothing that was there.
-/
import Derived.Test.YtbfhmdphhhjlnaaRows
import Derived.Test.YtbfhmdphhhjlnaaMath
import Derived.WalkKit
import Derived.WalkSpells
import Derived.WalkLawsBesides
namespace Go.Proofs.Ytbfhmdphhhjlnaa
open Go.RowKit Gf

theorem ret_u8 {a b : Nat} (h : a = b) : Ending.returned (.int .u8 (a : Int)) = .returned (.int .u8 (b : Int)) := by rw [h]
theorem ret_int {k : IntKind} {a b : Int} (h : a = b) : Ending.returned (.int k a) = .returned (.int k b) := by rw [h]

theorem top_all : ∀ a, a < 256 → ((a &&& 128 = 0) ↔ a < 128) := by decide +kernel
theorem top_bit (a : Nat) (h : a < 256) : (bits .and .u8 (a : Int) 128 == 0) = decide (a < 128) := by
  rw [show (128 : Int) = ((128 : Nat) : Int) from rfl, u8_and_nat a 128 h (by omega)]
  have := top_all a h
  by_cases e : a < 128
  · have k : a &&& 128 = 0 := this.2 e
    simp [e, k]
  · have k : ¬ a &&& 128 = 0 := fun x => e (this.1 x)
    simp only [e, decide_false, beq_eq_false_iff_ne, ne_eq]
    omega

theorem dbl_hi (a : Nat) (h : a < 256) (e : ¬ a < 128) : bits .xor .u8 ((a : Int) * 2 % 256) 29 = ((dbl a : Nat) : Int) := by
  have q : (a : Int) * 2 % 256 = ((a * 2 - 256 : Nat) : Int) := by omega
  rw [q, show (29 : Int) = ((29 : Nat) : Int) from rfl, u8_xor_nat _ 29 (by omega) (by omega)]
  unfold dbl; rw [if_neg e]

set_option maxHeartbeats 400000 in
theorem double_any (a : Nat) (h : a < 256) (w : World) :
    Calls Try.prog 44 #[.int .u8 a] w fun e w' => e = .returned (.int .u8 (dbl a : Nat)) ∧ w = w' := by
  have ht := top_bit a h
  by_cases e : a < 128
  · have hb : (bits .and .u8 (a : Int) 128 == 0) = true := by rw [ht]; simp [e]
    clear ht
    go_enter Try.func44, Try.ntmps44
    go_wp2
    go_ret
    exact ⟨ret_int (by unfold dbl; rw [if_pos e]; omega), rfl⟩
  · have hb : (bits .and .u8 (a : Int) 128 == 0) = false := by rw [ht]; simp [e]
    clear ht
    go_enter Try.func44, Try.ntmps44
    go_wp2
    go_ret
    exact ⟨ret_int (dbl_hi a h e), rfl⟩

/-- Table b holds in w the powers below k and their logarithms. -/
structure Upto (w : World) (b k : Nat) : Prop where
  exp : ∀ i, i < 255 → w.cell? ⟨b, i, none⟩ = some (.int .u8 ((if i < k then E i else 0 : Nat) : Int))
  log : ∀ j, j < 256 → w.cell? ⟨b, 255 + j, none⟩ = some (.int .u8 ((if 0 < j ∧ L j < k then L j else 0 : Nat) : Int))
  soft : ∀ i, i < 511 → w.frozen? ⟨b, i, none⟩ = false

theorem ne_off {b i j : Nat} (h : i ≠ j) : (⟨b, i, none⟩ : Addr) ≠ ⟨b, j, none⟩ := fun e => h (by injection e)

theorem cell_other {w : World} {b i j : Nat} {v : Value} (h : i ≠ j) : (w.setCell ⟨b, i, none⟩ v).cell? ⟨b, j, none⟩ = w.cell? ⟨b, j, none⟩ := by apply World.cell?_setCell_other; exact ne_off h
theorem cell_same {w : World} {b i : Nat} {u v : Value} (h : w.cell? ⟨b, i, none⟩ = some u) : (w.setCell ⟨b, i, none⟩ v).cell? ⟨b, i, none⟩ = some v := by apply World.cell?_setCell_same; exact h
theorem Upto.step {w : World} {b k : Nat} (h : Upto w b k) (hk : k < 255) :
    Upto ((w.setCell ⟨b, k, none⟩ (.int .u8 ((E k : Nat) : Int))).setCell ⟨b, 255 + E k, none⟩ (.int .u8 ((k : Nat) : Int))) b (k + 1) := by
  refine ⟨fun i hi => ?_, fun j hj => ?_, fun i hi => ?_⟩
  · rw [cell_other (by omega)]
    by_cases e : i = k
    · subst e; rw [cell_same (h.exp i hi), if_pos (by omega)]
    · rw [cell_other (by omega), h.exp i hi]
      by_cases l : i < k
      · rw [if_pos l, if_pos (by omega)]
      · rw [if_neg l, if_neg (by omega)]
  · have hE := E_pos k
    by_cases e : j = E k
    · subst e
      have l : L (E k) = k := by rw [L_E]; omega
      rw [cell_same (u := .int .u8 ((if 0 < E k ∧ L (E k) < k then L (E k) else 0 : Nat) : Int)) (by rw [cell_other (by omega), h.log _ hj]), l, if_pos ⟨hE, by omega⟩]
    · rw [cell_other (by omega), cell_other (by omega), h.log j hj]
      by_cases z : 0 < j
      · have l : L j ≠ k := fun q => e (by rw [← q, E_L hj z])
        by_cases m : L j < k
        · rw [if_pos ⟨z, m⟩, if_pos ⟨z, by omega⟩]
        · rw [if_neg (fun q => m q.2), if_neg (fun q => m (by have := q.2; omega))]
      · rw [if_neg (fun q => z q.1), if_neg (fun q => z q.1)]
  · rw [World.frozen?_setCell, World.frozen?_setCell]; exact h.soft i hi

def zeros : Array Value := Array.replicate 511 (.int .u8 0)
theorem zero45 (w : World) : Sem.run Try.prog (zeroValue 83) w = .ok (.agg zeros) w := by kernel_rfl

theorem zeros_at (i : Nat) (h : i < 511) : zeros[i]? = some (.int .u8 0) := by
  unfold zeros; rw [Array.getElem?_replicate, if_pos h]
theorem Upto.start (w : World) : Upto (w.alloc (.cells zeros 83)) w.heap.size 0 :=
  ⟨fun i hi => by rw [World.cell?_alloc_new, zeros_at i (by omega)]; rfl, fun j hj => by rw [World.cell?_alloc_new, zeros_at _ (by omega), if_neg (by omega)]; rfl, fun i _ => World.frozen?_alloc_new _ _ _ _⟩

set_option maxRecDepth 100000 in
set_option maxHeartbeats 400000 in
theorem new_any (w : World) :
    Calls Try.prog 25 #[] w fun e w' => e = .returned (.pointer (some ⟨w.heap.size, 0, none⟩)) ∧ Upto w' w.heap.size 255 ∧ Below w.heap.size w w' := by
  have hz := zero45
  go_enter Try.func25, Try.ntmps25
  go_wp2
  go_loopw [2, 6] (fun p n wr => ∃ k : Nat, k ≤ 255 ∧ n = .int .i64 k ∧ p = .int .u8 (E k : Nat) ∧ Upto wr w.heap.size k ∧ Below w.heap.size w wr) (fun _ n _ => 255 - (intOf n).toNat)
  case atStart => exact ⟨0, by omega, rfl, by rw [E_zero]; rfl, Upto.start w, (Below.refl _ _).alloc (Nat.le_refl _) _⟩
  case round =>
    obtain ⟨k, hk, rfl, rfl, hu, hb⟩ := hrel
    by_cases hlt : k < 255
    · have hE := E_lt k
      have f1 := hu.soft k (by omega)
      have f2 := hu.soft (255 + E k) (by omega)
      have C1 := hu.exp k hlt
      have c1 := C1
      have c2 := hu.log (E k) hE
      have HU : Hid (Upto ((wr.setCell ⟨w.heap.size, k, none⟩ (.int .u8 ((E k : Nat) : Int))).setCell ⟨w.heap.size, 255 + E k, none⟩ (.int .u8 ((k : Nat) : Int))) w.heap.size (k + 1)) := hu.step hlt
      clear hu
      clear hz
      have hdl := dbl_lt hE
      obtain ⟨d, hd⟩ : ∃ d, dbl (E k) = d := ⟨_, rfl⟩
      have hdc := fun w => double_any (E k) hE w
      rw [hd] at hdc hdl
      obtain ⟨p, hp⟩ : ∃ p, E k = p := ⟨_, rfl⟩
      rw [hp] at hE f2 c2 hdc hd HU ⊢
      have HP : Hid (E k = p) := hp
      clear hp c1
      obtain ⟨v1, c1⟩ : ∃ v, wr.cell? ⟨w.heap.size, k, none⟩ = some v := ⟨_, C1⟩
      obtain ⟨v2, c2⟩ : ∃ v, wr.cell? ⟨w.heap.size, 255 + p, none⟩ = some v := ⟨_, c2⟩
      clear C1
      have HD : Hid (dbl p = d) := hd
      clear hd
      go_wp2_with (go_at_call 44; refine (hdc _).mono ?_; rintro e w' ⟨rfl, rfl⟩)
      go_round
      case rel => exact ⟨k + 1, by omega, by go_num, by rw [E_succ, HP.out, HD.out], HU.out, (hb.setCell (Nat.le_refl _) _).setCell (Nat.le_refl _) _⟩
      case measure => simp [intOf]; omega
    · have e : k = 255 := by omega
      subst e
      clear hz hlt hk
      go_wp2
      go_ret
      exact ⟨rfl, hu, hb⟩
end Go.Proofs.Ytbfhmdphhhjlnaa
