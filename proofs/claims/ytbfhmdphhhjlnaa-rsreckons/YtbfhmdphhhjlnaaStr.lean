/-
  A row of bytes as a string: what the conversion answers.
-/
import Derived.Test.YtbfhmdphhhjlnaaRefAdd
import Derived.Laws.BytesArg
namespace Go.Proofs.Ytbfhmdphhhjlnaa
open Go.RowKit Gf

/-- The bytes f 0 .. f (n - 1) as a string. -/
def str (f : Nat → Nat) (n : Nat) : ByteArray := strOfNums ((List.range n).map fun i => ((f i : Nat) : Int))
theorem str_congr {f g : Nat → Nat} {n : Nat} (h : ∀ i, i < n → f i = g i) : str f n = str g n := by
  unfold str; congr 1
  apply List.map_congr_left
  intro i hi
  rw [h i (List.mem_range.1 hi)]

theorem conv_row {w : World} {a : Option Addr} {n c : Nat} {f : Nat → Nat} (h : Row w a n f) (hnil : a = none → n = 0) :
    Sem.run Try.prog (convert 30 9 (.slice a n c)) w = .ok (.string (str f n)) w := by
  by_cases hn : n = 0
  · subst hn
    cases a with
    | none => exact run_convert_bytes_nil (P := Try.prog) w 30 5 Try.underlying30 Try.underlying5 0 c 9 Try.underlying9
    | some x =>
      have hl : (loadCells x 0).run Try.prog w = .ok (([] : List Int).map (Value.int .u8)).toArray w := by
        simpa using run_loadCells_list (P := Try.prog) w x [] (by simp)
      have := run_bytesToString (P := Try.prog) w x 0 c [] hl
      rw [run_convert_bytes_string (P := Try.prog) w 30 9 5 (some x) 0 c Try.underlying30 Try.underlying5 Try.underlying9, this]
      rfl
  · obtain ⟨b, o, rfl, hc⟩ := h.lies (by omega)
    exact run_convert_bytes_arg (P := Try.prog) w 30 5 Try.underlying30 Try.underlying5 b o n c _ (by simp) (fun i hi => by rw [hc i hi]; simp [hi]) 9 Try.underlying9
end Go.Proofs.Ytbfhmdphhhjlnaa
