/-
  Two entries compared.
-/
import Derived.Test.YtahnkkifegdjeaaEnQ
namespace Go.Proofs.Ytahnkkifegdjeaa
open Go.RowKit Go.Shelf Go.Sort Nq
attribute [local go_sem ↓] Go.wp_at_zero Go.wp_at_succ
set_option linter.unusedVariables false

theorem run_eqE (x y : En) (w : World) : Sem.run Try.prog (Op.equalIn 10000 48 (ev x) (ev y)) w = .ok (decide (x = y)) w := by
  obtain ⟨xk, xi, xm, xz, xs, xl⟩ := x
  obtain ⟨yk, yi, ym, yz, ys, yl⟩ := y
  unfold ev
  dsimp only
  have hk := key_beq xk yk
  by_cases k0 : xk = yk
  · by_cases k1 : xi = yi
    · by_cases k2 : xm = ym
      · by_cases k3 : xz = yz
        · by_cases k4 : xs = ys
          · by_cases k5 : xl = yl
            · subst k0; subst k1; subst k2; subst k3; subst k4; subst k5
              simp [go_sem]
            · subst k0; subst k1; subst k2; subst k3; subst k4
              simp [go_sem, k5]
          · subst k0; subst k1; subst k2; subst k3
            have : ¬ (xs : Int) = (ys : Int) := by omega
            simp [go_sem, k4, this]
        · subst k0; subst k1; subst k2
          simp [go_sem, k3]
      · subst k0; subst k1
        simp [go_sem, k2]
    · subst k0
      simp [go_sem, k1]
  · rw [decide_eq_false k0] at hk
    simp [go_sem, k0, hk]
theorem run_neE (x y : En) (w : World) : Sem.run Try.prog (binOp .neq 48 (ev x) (ev y)) w = .ok (.bool (!decide (x = y))) w := by
  have := run_eqE x y w
  unfold ev at *
  rw [run_neq_struct, this]; rfl
theorem run_eqlE (x y : En) (w : World) : Sem.run Try.prog (binOp .eql 48 (ev x) (ev y)) w = .ok (.bool (decide (x = y))) w := by
  have := run_eqE x y w
  unfold ev at *
  rw [run_eql_struct, this]; rfl
end Go.Proofs.Ytahnkkifegdjeaa
