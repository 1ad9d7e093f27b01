/-
  OVERLAYS, on lists of pairs: keys in order, what is laid over them, what a key's value is. No condition.
-/
import Derived.Test.YtlehomcodkbpmaaDoorPrt
import Derived.Lib.Bytealg
namespace Go.Proofs.YtlehomcodkbpmaaDoor
open Go.ChangeShapes Go.WideShapes Go.ChangeAt Go.RowKit Go.Lib
set_option linter.unusedVariables false
set_option linter.unusedSimpArgs false
set_option maxRecDepth 20000

/-- two keys, compared -/
def kc (a b : ByteArray) : Int := compareBytes (bs a) (bs b)
/-- pairs -/
abbrev PL := List (ByteArray × ByteArray)
/-- keys that rise -/
def Srt (l : PL) : Prop := l.Pairwise fun p q => kc p.1 q.1 < 0
theorem Srt.tail {p : ByteArray × ByteArray} {l : PL} (h : Srt (p :: l)) : Srt l := (List.pairwise_cons.1 h).2
end Go.Proofs.YtlehomcodkbpmaaDoor
