/-
  A PAIR's RECORD. Conditions: how many bytes its texts may have; what the listed variables hold.
-/
import Derived.Test.YtlehomcodkbpmaaGreatDoorRgt
import Derived.Lib.ItoaLen
import Derived.Deep.RegionHeld3
namespace Go.Proofs.YtlehomcodkbpmaaGreatDoor
open Go.ChangeShapes Go.WideShapes Go.ChangeAt Go.RowKit Go.Lib
set_option linter.unusedVariables false
set_option maxRecDepth 20000

theorem new_two (w : World) (a b : Value) (t : TypeId) : (w.alloc (.cells #[a, b] t)).cell? ⟨w.heap.size, 0, none⟩ = some a ∧ (w.alloc (.cells #[a, b] t)).cell? ⟨w.heap.size, 1, none⟩ = some b := two_cells (Below.refl _ _)

end Go.Proofs.YtlehomcodkbpmaaGreatDoor
