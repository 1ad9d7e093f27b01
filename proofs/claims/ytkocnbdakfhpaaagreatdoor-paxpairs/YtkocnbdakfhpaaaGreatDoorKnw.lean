/-
  WHETHER A KEY IS KNOWN. Conditions: none.
-/
import Derived.Test.YtkocnbdakfhpaaaGreatDoorKnd
namespace Go.Proofs.YtkocnbdakfhpaaaGreatDoor
open Go.ChangeShapes Go.WideShapes Go.ChangeAt Go.RowKit Go.Lib
set_option linter.unusedVariables false
set_option maxRecDepth 20000

theorem known_ok (s : ByteArray) (w : World) : Calls Tryz.prog 11 #[.string s] w fun e w' => w' = w ∧ e = .returned (.bool ((kindK (bs s) : Int) != 0)) := by
  have h := kind_ok s w
  generalize kindK (bs s) = q at *
  go_enter Tryz.func11, Tryz.ntmps11
  go_wp2_with (go_at_call 33; refine h.mono ?_; rintro e w1 ⟨hw, rfl⟩; obtain rfl := hw.symm)
  all_goals go_ret
  all_goals first | exact ⟨rfl, rfl⟩ | simp_all

end Go.Proofs.YtkocnbdakfhpaaaGreatDoor
