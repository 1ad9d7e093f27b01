/-
  WHETHER A TIME IS RIGHT: dec.Right. No condition.
-/
import Derived.Test.YtlehomcodkbpmaaDoorTim
namespace Go.Proofs.YtlehomcodkbpmaaDoor
open Go.ChangeShapes Go.WideShapes Go.ChangeAt Go.RowKit Go.Lib
set_option linter.unusedVariables false
set_option linter.unusedSimpArgs false
set_option maxRecDepth 20000

theorem dright_ok (a b : Int) (w : World) :
    Calls Tryd.prog 27 #[.agg #[.int .i64 a, .int .i64 b]] w fun e w' => e = .returned (.bool (decide (0 ≤ b ∧ b < 1000000000))) ∧ Below w.heap.size w w' := by
  by_cases h0 : 0 ≤ b
  · by_cases h1 : b < 1000000000
    · have hd : decide (0 ≤ b ∧ b < 1000000000) = true := decide_eq_true ⟨h0, h1⟩
      rw [hd]
      go_enter Tryd.func27, Tryd.ntmps27
      go_wp2
      go_ret
      refine ⟨rfl, ?_⟩
      first | exact (Below.refl _ _).alloc (Nat.le_refl _) _ | exact ((Below.refl _ _).alloc (Nat.le_refl _) _).drew
    · have hd : decide (0 ≤ b ∧ b < 1000000000) = false := decide_eq_false fun h => h1 h.2
      rw [hd]
      go_enter Tryd.func27, Tryd.ntmps27
      go_wp2
      go_ret
      refine ⟨rfl, ?_⟩
      first | exact (Below.refl _ _).alloc (Nat.le_refl _) _ | exact ((Below.refl _ _).alloc (Nat.le_refl _) _).drew
  · have hd : decide (0 ≤ b ∧ b < 1000000000) = false := decide_eq_false fun h => h0 h.1
    rw [hd]
    go_enter Tryd.func27, Tryd.ntmps27
    go_wp2
    go_ret
    refine ⟨rfl, ?_⟩
    first | exact (Below.refl _ _).alloc (Nat.le_refl _) _ | exact ((Below.refl _ _).alloc (Nat.le_refl _) _).drew


end Go.Proofs.YtlehomcodkbpmaaDoor
