/-
  WHETHER A KEY IS KNOWN. Conditions: none.
-/
import Derived.Test.YthnaanjhmehgcaaGreatDoorN09
namespace Go.Proofs.YthnaanjhmehgcaaGreatDoor
open Go.ChangeShapes Go.WideShapes Go.ChangeAt Go.RowKit Go.Lib
set_option linter.unusedVariables false
set_option maxRecDepth 20000

theorem known_ok (s : ByteArray) (w : World) : Calls Tryz.prog 116 #[.string s] w fun e w' => w' = w ∧ e = .returned (.bool ((kindK (bs s) : Int) != 0)) := by
  have h := kind_ok s w
  generalize kindK (bs s) = q at *
  go_enter Tryz.func116, Tryz.ntmps116
  go_wp2_with (go_at_call 93; refine h.mono ?_; rintro e w1 ⟨hw, rfl⟩; obtain rfl := hw.symm)
  all_goals go_ret
  all_goals first | exact ⟨rfl, rfl⟩ | simp_all

end Go.Proofs.YthnaanjhmehgcaaGreatDoor
