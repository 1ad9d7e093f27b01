/-
  WHETHER THE PAIRS ARE FEW. Conditions: how many bytes their texts may have together.
-/
import Derived.Test.YtlehomcodkbpmaaGreatDoorPrt
namespace Go.Proofs.YtlehomcodkbpmaaGreatDoor
open Go.ChangeShapes Go.WideShapes Go.ChangeAt Go.RowKit Go.Lib
set_option linter.unusedVariables false
set_option linter.unusedSimpArgs false
set_option maxRecDepth 20000

/-- the bytes of all texts -/
def totN : List (ByteArray × ByteArray) → Nat
  | [] => 0
  | p :: t => p.1.size + p.2.size + totN t

theorem tot_drop (l : List (ByteArray × ByteArray)) : ∀ i, totN (l.drop i) ≤ totN l := by
  induction l with
  | nil => intro i; simp
  | cons p t ih =>
    intro i
    cases i with
    | zero => simp
    | succ i => have := ih i; rw [List.drop_succ_cons, totN]; omega

end Go.Proofs.YtlehomcodkbpmaaGreatDoor
