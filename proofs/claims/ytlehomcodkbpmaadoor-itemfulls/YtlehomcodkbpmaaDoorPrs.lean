/-
  THE PAIRS WHOSE RECORDS BYTES ARE. Conditions: how many bytes there are; what the listed variables hold.
-/
import Derived.Test.YtlehomcodkbpmaaDoorFgo
namespace Go.Proofs.YtlehomcodkbpmaaDoor
open Go.ChangeShapes Go.WideShapes Go.ChangeAt Go.RowKit Go.Lib
set_option linter.unusedVariables false
set_option maxRecDepth 20000

/-- the cells of pairs -/
def pcs2 (l : List (ByteArray × ByteArray)) : List Value := l.flatMap fun p => [.string p.1, .string p.2]
theorem pcs2_len (l : List (ByteArray × ByteArray)) : (pcs2 l).length = l.length * 2 := by
  unfold pcs2
  induction l with
  | nil => rfl
  | cons p t ih => rw [List.flatMap_cons, List.length_append, ih, List.length_cons]; simp; omega
end Go.Proofs.YtlehomcodkbpmaaDoor
