/-
  THE RECORD AT THE BEGINNING OF BYTES, where its length is told. Conditions: how many bytes there are; what the listed variables hold.
-/
import Derived.Test.YtlehomcodkbpmaaGreatDoorFst
namespace Go.Proofs.YtlehomcodkbpmaaGreatDoor
open Go.ChangeShapes Go.WideShapes Go.ChangeAt Go.RowKit Go.Lib
set_option linter.unusedVariables false
set_option maxRecDepth 20000

theorem Blk.set {w : World} {g i : Nat} {cs : Array Value} {t : TypeId} (h : Blk w g cs t) (v : Value) : Blk (w.setCell ⟨g, i, none⟩ v) g (cs.setIfInBounds i v) t := Joins.block_setCell h v

end Go.Proofs.YtlehomcodkbpmaaGreatDoor
