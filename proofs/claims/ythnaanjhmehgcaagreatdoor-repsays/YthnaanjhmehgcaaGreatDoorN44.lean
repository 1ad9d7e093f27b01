/-
  THE DOCUMENT's WORD ON WHETHER A TIME IS RIGHT. No condition.
-/
import Derived.Test.YthnaanjhmehgcaaGreatDoorN05
namespace Go.Proofs.YthnaanjhmehgcaaGreatDoor
open Go.ChangeShapes Go.WideShapes Go.ChangeAt Go.RowKit Go.Lib
set_option linter.unusedVariables false
set_option linter.unusedSimpArgs false
set_option maxRecDepth 20000

theorem drright_ok (a b : Int) (w : World) :
    Calls Tryz.prog 71 #[.agg #[.int .i64 a, .int .i64 b]] w fun e w' => e = .returned (.bool (decide (0 ≤ b ∧ b < 1000000000))) ∧ Below w.heap.size w w' := by
  by_cases h0 : 0 ≤ b
  · by_cases h1 : b < 1000000000
    · have hd : decide (0 ≤ b ∧ b < 1000000000) = true := decide_eq_true ⟨h0, h1⟩
      rw [hd]
      have h1' : b ≤ 999999999 := by omega
      clear h1 hd
      go_enter Tryz.func71, Tryz.ntmps71
      go_wp2
      go_ret
      exact ⟨rfl, below_alloc _ _⟩
    · have hd : decide (0 ≤ b ∧ b < 1000000000) = false := decide_eq_false fun h => h1 h.2
      rw [hd]
      have h1' : ¬ b ≤ 999999999 := by omega
      clear h1 hd
      go_enter Tryz.func71, Tryz.ntmps71
      go_wp2
      go_ret
      exact ⟨rfl, below_alloc _ _⟩
  · have hd : decide (0 ≤ b ∧ b < 1000000000) = false := decide_eq_false fun h => h0 h.1
    rw [hd]
    clear hd
    go_enter Tryz.func71, Tryz.ntmps71
    go_wp2
    go_ret
    exact ⟨rfl, below_alloc _ _⟩


end Go.Proofs.YthnaanjhmehgcaaGreatDoor
