/-
  Bits of bytes that are turned in place, one after the other.
-/
import Derived.Test.YtigjhdcinaefbaaDoorByt
import Derived.Test.YtigjhdcinaefbaaDoorCrcM
import Derived.Laws.BitsAllLaws
namespace Go.Proofs.YtigjhdcinaefbaaDoor
open Go.RowKit Crc

theorem pow_bit {r : Nat} (h : r < 8) : 2 ^ r < 256 := by
  have : 2 ^ r ≤ 2 ^ 7 := Nat.pow_le_pow_right (by omega) (by omega)
  omega
theorem xor_bit {u r : Nat} (hu : u < 256) (hr : r < 8) : bits .xor .u8 (u : Int) (2 ^ r % 256) = ((u ^^^ 2 ^ r : Nat) : Int) := by
  have h := pow_bit hr
  have e : (2 : Int) ^ r % 256 = ((2 ^ r : Nat) : Int) := by
    rw [show (2 : Int) ^ r = ((2 ^ r : Nat) : Int) by simp]
    generalize 2 ^ r = p at *
    omega
  rw [e]; exact u8_xor_nat u _ hu h
theorem Made.other {w : World} {g g' n k : Nat} {f : Nat → Nat} {v : Value} (m : Made w g n f) (hg : g ≠ g') : Made (w.setCell ⟨g', k, none⟩ v) g n f :=
  ⟨fun j hj => by
    rw [World.cell?_setCell_other _ _ _ _ (fun e => hg (by injection e with e; exact e.symm))]; exact m.cell j hj, fun j hj => by rw [World.frozen?_setCell]; exact m.soft j hj⟩
theorem xor_lt8 {a b : Nat} (ha : a < 256) (hb : b < 256) : a ^^^ b < 256 := Nat.xor_lt_two_pow (n := 8) ha hb
/-- One bit more is turned. -/
theorem Made.turn {w : World} {g n fr mask t : Nat} {f : Nat → Nat} (m : Made w g n (fun j => f j ^^^ bd fr mask t j)) (hq : (fr + t) / 8 < n) (od : mask / 2 ^ t % 2 = 1) :
    Made (w.setCell ⟨g, (fr + t) / 8, none⟩ (.int .u8 (((f ((fr + t) / 8) ^^^ bd fr mask t ((fr + t) / 8)) ^^^ 2 ^ ((fr + t) % 8) : Nat) : Int))) g n (fun j => f j ^^^ bd fr mask (t + 1) j) :=
  (m.put hq).congr fun j hj => by
    rw [bd_yes od]
    by_cases e : j = (fr + t) / 8
    · subst e; rw [upd_at, if_pos rfl, Nat.xor_assoc]
    · rw [upd_ne _ _ e, if_neg e]
theorem Made.same {w : World} {g n fr mask t : Nat} {f : Nat → Nat} (m : Made w g n (fun j => f j ^^^ bd fr mask t j)) (od : mask / 2 ^ t % 2 = 0) : Made w g n (fun j => f j ^^^ bd fr mask (t + 1) j) :=
  m.congr fun j _ => by rw [bd_no od]
end Go.Proofs.YtigjhdcinaefbaaDoor
