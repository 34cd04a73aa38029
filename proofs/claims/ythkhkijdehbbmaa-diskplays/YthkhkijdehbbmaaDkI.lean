/-
  A new disk of the document; its fuse is set.
-/
import Derived.Test.YthkhkijdehbbmaaDkE
set_option maxRecDepth 100000
namespace Go.Proofs.Ythkhkijdehbbmaa
open Go.RowKit Dk Nm
attribute [local go_sem ↓] Go.wp_at_zero Go.wp_at_succ
set_option linter.unusedVariables false

def newSt (m : Int) : St := ⟨[], if m < 0 ∨ 4194304 < m then 0 else m, false, 0⟩
theorem new_dx (w : World) (q : Option Nat) (m : Int) : DX (w.alloc (.cells #[.slice none 0 0, .int .i64 (newSt m).most, .pointer (q.map fun k => ⟨k, 0, none⟩), .bool false, .int .i64 0] 84)) w.heap.size none 0 [] q (newSt m) :=
  ⟨heap_alloc_new _ _, FOwn.start _ _, fun x hx => absurd hx (List.not_mem_nil), rfl, ⟨Nat.zero_le _, fun f hf => absurd hf (List.not_mem_nil), fun f hf => absurd hf (List.not_mem_nil), by unfold newSt; dsimp only; split <;> omega, by unfold newSt; dsimp only; split <;> omega, Int.le_refl _, (by show (0 : Int) ≤ 9223372036854775807; decide)⟩⟩
set_option maxRecDepth 100000 in
set_option maxHeartbeats 2000000 in
theorem newdisk_any (m : Int) (q : Option Nat) (w : World) (h1 : -9223372036854775808 ≤ m) (h2 : m ≤ 9223372036854775807) :
    Calls Try.prog 25 #[.int .i64 m, .pointer (q.map fun k => ⟨k, 0, none⟩)] w fun e w' => e = .returned (.pointer (some ⟨w.heap.size, 0, none⟩)) ∧ DX w' w.heap.size none 0 [] q (newSt m) ∧ Below w.heap.size w w' := by
  have HD := new_dx w q m
  obtain ⟨P, hP⟩ : ∃ P : Option Addr, (q.map fun k => (⟨k, 0, none⟩ : Addr)) = P := ⟨_, rfl⟩
  rw [hP] at HD ⊢
  by_cases a1 : m < 0
  · have hm : (newSt m).most = 0 := by unfold newSt; dsimp only; rw [if_pos (.inl a1)]
    rw [hm] at HD
    have HDD : Hid (DX (w.alloc (.cells #[.slice none 0 0, .int .i64 0, .pointer P, .bool false, .int .i64 0] 84)) w.heap.size none 0 [] q (newSt m)) := HD
    clear HD hP hm
    go_enter Try.func25, Try.ntmps25
    go_wp2
    first | exact ⟨rfl, HDD.out, (Below.refl _ _).alloc (Nat.le_refl _) _⟩ | (go_ret; exact ⟨rfl, HDD.out, (Below.refl _ _).alloc (Nat.le_refl _) _⟩)
  · have b1 : decide (m < 0) = false := decide_eq_false a1
    by_cases a2 : 4194304 < m
    · have hm : (newSt m).most = 0 := by unfold newSt; dsimp only; rw [if_pos (.inr a2)]
      rw [hm] at HD
      have HDD : Hid (DX (w.alloc (.cells #[.slice none 0 0, .int .i64 0, .pointer P, .bool false, .int .i64 0] 84)) w.heap.size none 0 [] q (newSt m)) := HD
      clear HD hP hm a1
      go_enter Try.func25, Try.ntmps25
      go_wp2
      first | exact ⟨rfl, HDD.out, (Below.refl _ _).alloc (Nat.le_refl _) _⟩ | (go_ret; exact ⟨rfl, HDD.out, (Below.refl _ _).alloc (Nat.le_refl _) _⟩)
    · have hm : (newSt m).most = m := by unfold newSt; dsimp only; rw [if_neg (by omega)]
      have b2 : decide (4194304 < m) = false := decide_eq_false a2
      rw [hm] at HD
      have HDD : Hid (DX (w.alloc (.cells #[.slice none 0 0, .int .i64 m, .pointer P, .bool false, .int .i64 0] 84)) w.heap.size none 0 [] q (newSt m)) := HD
      clear HD hP hm a1 a2
      go_enter Try.func25, Try.ntmps25
      go_wp2
      first | exact ⟨rfl, HDD.out, (Below.refl _ _).alloc (Nat.le_refl _) _⟩ | (go_ret; exact ⟨rfl, HDD.out, (Below.refl _ _).alloc (Nat.le_refl _) _⟩)
set_option maxRecDepth 100000 in
set_option maxHeartbeats 2000000 in
theorem set_any (k : Nat) (z : Fz) (n : Int) (w : World) (hz : Zs w (some k) (some z)) :
    Calls Try.prog 49 #[.pointer (some ⟨k, 0, none⟩), .int .i64 n] w fun e w' => e = .returned (.tuple #[]) ∧ Zs w' (some k) (some ⟨n, 0, false⟩) ∧ Upd (fun i => i = k) w w' := by
  have hz' : w.heap[k]? = some (.cells #[.int .i64 z.n, .int .i64 z.done, .bool z.blown] 49) := hz
  have k0 := heap_setCell_same w k 0 _ _ (.int .i64 n) hz'
  have k1 := heap_setCell_same _ k 1 _ _ (.int .i64 0) k0
  have k2 := heap_setCell_same _ k 2 _ _ (.bool false) k1
  have HK : Hid (Zs (((w.setCell ⟨k, 0, none⟩ (.int .i64 n)).setCell ⟨k, 1, none⟩ (.int .i64 0)).setCell ⟨k, 2, none⟩ (.bool false)) (some k) (some ⟨n, 0, false⟩) ∧ Upd (fun i => i = k) w (((w.setCell ⟨k, 0, none⟩ (.int .i64 n)).setCell ⟨k, 1, none⟩ (.int .i64 0)).setCell ⟨k, 2, none⟩ (.bool false))) :=
    ⟨k2, Upd.put (M := fun i => i = k) (Upd.put (M := fun i => i = k) (Upd.put (M := fun i => i = k) (Upd.refl _ w) (p := ⟨k, 0, none⟩) (.inl rfl) _) (p := ⟨k, 1, none⟩) (.inl rfl) _) (p := ⟨k, 2, none⟩) (.inl rfl) _⟩
  have z0 := cell_of_row w k 0 _ _ _ hz'
  have z1 := cell_of_row w k 1 _ _ _ hz'
  have z2 := cell_of_row w k 2 _ _ _ hz'
  have fz : ∀ j, w.frozen? ⟨k, j, none⟩ = false := fun j => frozen_of_row w k j _ _ hz'
  simp only [List.getElem?_toArray, List.getElem?_cons_zero, List.getElem?_cons_succ] at z0 z1 z2
  generalize hPP : (fun (e : Ending) (w' : World) => e = .returned (.tuple #[]) ∧ Zs w' (some k) (some ⟨n, 0, false⟩) ∧ Upd (fun i => i = k) w w') = PP at *
  have HP : Hid (∀ e w', e = .returned (.tuple #[]) → Zs w' (some k) (some ⟨n, 0, false⟩) ∧ Upd (fun i => i = k) w w' → PP e w') := fun e w' h1 h2 => by rw [← hPP]; exact ⟨h1, h2⟩
  clear hPP hz hz' k0 k1 k2
  go_enter Try.func49, Try.ntmps49
  go_wp2
  exact bodyPost_end (v := .tuple #[]) (by simp [results, Try.results49, go_sem]) rfl (HP.out _ _ rfl HK.out)
end Go.Proofs.Ythkhkijdehbbmaa
