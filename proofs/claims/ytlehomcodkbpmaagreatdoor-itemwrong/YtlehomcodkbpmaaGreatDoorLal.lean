/-
  PAIRS LAID OVER AN OVERLAY, ONE BEHIND THE OTHER (layAll), AND Lay. Conditions: how many pairs there are.
-/
import Derived.Test.YtlehomcodkbpmaaGreatDoorOpl
import Derived.Test.YtlehomcodkbpmaaGreatDoorSmp
import Derived.Test.YtlehomcodkbpmaaGreatDoorDel
import Derived.Test.YtlehomcodkbpmaaGreatDoorFst
import Derived.Lib.Overlaps
import Derived.Laws.Externs
import Derived.Test.YtlehomcodkbpmaaGreatDoorFgo
namespace Go.Proofs.YtlehomcodkbpmaaGreatDoor
open Go.ChangeShapes Go.WideShapes Go.ChangeAt Go.RowKit Go.Lib
set_option linter.unusedVariables false
set_option linter.unusedSimpArgs false
set_option maxRecDepth 20000

theorem layP_len : ∀ (l : PL) (p : ByteArray × ByteArray), (layP l p).length ≤ l.length + 1
  | [], p => by rw [layP]; split <;> simp
  | a :: t, p => by
    have ih := layP_len t p
    rw [layP]
    repeat' split
    all_goals simp
    all_goals omega
theorem layL_len : ∀ (ps l : PL), (layL l ps).length ≤ l.length + ps.length
  | [], l => Nat.le_refl _
  | p :: t, l => by
    have := layL_len t (layP l p)
    have h2 := layP_len l p
    show (layL (layP l p) t).length ≤ _
    rw [List.length_cons]; omega

end Go.Proofs.YtlehomcodkbpmaaGreatDoor
