/-
  How much room a disk says it has.
-/
import Derived.Test.YtebngmgdciahiaaDoorArT
import Derived.Stop.Asserts
set_option maxRecDepth 100000
namespace Go.Proofs.YtebngmgdciahiaaDoor
open Go.RowKit Crc
open _root_.Go.Proofs.YtebngmgdciahiaaDoor.Nm _root_.Go.Proofs.YtebngmgdciahiaaDoor.Dk
set_option linter.unusedVariables false
attribute [local go_sem ↓] Go.wp_at_zero Go.wp_at_succ

theorem isRoomy (a : Addr) (w : World) : (Instr.typeAssert (.iface 29 (.pointer (some a))) 37 109 true).run Tryd.prog w = .ok (.tuple #[.iface 29 (.pointer (some a)), .bool true]) w :=
  run_typeAssert_hasB Tryd.underlying109 (by kernel_rfl) _ _ w
theorem noRoomy (w : World) : (Instr.typeAssert .nilIface 37 109 true).run Tryd.prog w = .ok (.tuple #[.nilIface, .bool false]) w := by
  kernel_rfl
theorem mth_roo (a : Addr) (w : World) : Sem.run Tryd.prog (method 287 29 (.pointer (some a)) "Room") w = .ok (40, .pointer (some a)) w := by kernel_rfl
theorem room1_any {p m : Nat} {V : List Fv} {q : Option Nat} {s : St} {F : Int} {w : World} (hp : PX w p m V q s F) :
    Calls Tryd.prog 32 #[.iface 29 (.pointer (some ⟨p, 0, none⟩))] w fun e w' => e = .returned (.tuple #[.int .i64 (s.most - ((used s.fs : Nat) : Int)), .bool true]) ∧ ∃ n, w' = w.drewN n := by
  have cR := room_pany p m V q s F w hp
  have hT := fun w => isRoomy ⟨p, 0, none⟩ w
  have hM := fun w => mth_roo ⟨p, 0, none⟩ w
  go_enter Tryd.func32, Tryd.ntmps32
  clear hp
  go_wp2_with fail
  go_at_call 40
  refine cR.mono ?_
  rintro e w9 ⟨rfl, n9, rfl⟩
  go_wp2
  go_ret2
  exact ⟨rfl, n9, rfl⟩
theorem room1_nil (w : World) :
    Calls Tryd.prog 32 #[.nilIface] w fun e w' => e = .returned (.tuple #[.int .i64 0, .bool false]) ∧ w' = w := by
  have hT := fun w => noRoomy w
  go_enter Tryd.func32, Tryd.ntmps32
  go_wp2
  go_ret2
  exact ⟨rfl, rfl⟩
theorem room_has {p m : Nat} {V : List Fv} {q : Option Nat} {s : St} {F : Int} {w : World} (hp : PX w p m V q s F) :
    Calls Tryd.prog 10 #[.iface 29 (.pointer (some ⟨p, 0, none⟩))] w fun e w' => e = .returned (.tuple #[.int .i64 (s.most - ((used s.fs : Nat) : Int)), .bool true]) ∧ ∃ n, w' = w.drewN n := by
  have cR := room1_any hp
  clear hp
  go_enter Tryd.func10, Tryd.ntmps10
  go_wp2_with fail
  go_at_call 32
  refine cR.mono ?_
  rintro e w9 ⟨rfl, n9, rfl⟩
  go_wp2
  go_ret2
  exact ⟨rfl, n9, rfl⟩
theorem room_nil (w : World) :
    Calls Tryd.prog 10 #[.nilIface] w fun e w' => e = .returned (.tuple #[.int .i64 0, .bool false]) ∧ w' = w := by
  have cR := room1_nil w
  go_enter Tryd.func10, Tryd.ntmps10
  go_wp2_with fail
  go_at_call 32
  refine cR.mono ?_
  rintro e w9 ⟨rfl, rfl⟩
  go_wp2
  go_ret2
  exact ⟨rfl, rfl⟩
end Go.Proofs.YtebngmgdciahiaaDoor
