/-
  WHAT IS PRINTED IS PARSED; WHAT IS PARSED IS PRINTED WITH NO MORE BYTES: on lists. Conditions: how many bytes a pair's texts have.
-/
import Derived.Test.YtlehomcodkbpmaaGreatDoorPrs
namespace Go.Proofs.YtlehomcodkbpmaaGreatDoor
open Go.ChangeShapes Go.WideShapes Go.ChangeAt Go.RowKit Go.Lib
set_option linter.unusedVariables false
set_option linter.unusedSimpArgs false
set_option maxRecDepth 20000

def Rgt (l : List (ByteArray × ByteArray)) : Prop := ∀ p ∈ l, rightP (bs p.1) (bs p.2) = true
def Sml (l : List (ByteArray × ByteArray)) : Prop := ∀ p ∈ l, p.1.size ≤ 1000000 ∧ p.2.size ≤ 1000000
theorem Rgt.tail {p : ByteArray × ByteArray} {l : List (ByteArray × ByteArray)} (h : Rgt (p :: l)) : Rgt l := fun q hq => h q (List.mem_cons_of_mem _ hq)
theorem Sml.tail {p : ByteArray × ByteArray} {l : List (ByteArray × ByteArray)} (h : Sml (p :: l)) : Sml l := fun q hq => h q (List.mem_cons_of_mem _ hq)

end Go.Proofs.YtlehomcodkbpmaaGreatDoor
