/-
  HEADS, THEIR CELLS; LISTS OF TEXTS IN MEMORY. Nothing of the program. No condition.
-/
import Derived.Test.YtbkgbnjiibhmhaaTol
namespace Go.Proofs.Ytbkgbnjiibhmhaa
open Go.ChangeShapes Go.WideShapes Go.ChangeAt Go.RowKit Go.Lib
set_option linter.unusedVariables false
set_option maxRecDepth 20000

/-- a head, its list aside -/
structure Hd where
  kind : Int
  name : ByteArray
  link : ByteArray
  mode : Int
  uid : Int
  gid : Int
  size : Int
  sec : Int
  nano : Int
  user : ByteArray
  group : ByteArray
  major : Int
  minor : Int

/-- its cells -/
def Hd.cs (h : Hd) (x : Value) : Array Value := #[.int .i64 h.kind, .string h.name, .string h.link, .int .i64 h.mode, .int .i64 h.uid, .int .i64 h.gid, .int .i64 h.size, .int .i64 h.sec, .int .i64 h.nano, .string h.user, .string h.group, .int .i64 h.major, .int .i64 h.minor, x]

/-- the full names that tell a head's kind and name -/
def fulls (k : Int) (s : ByteArray) : List ByteArray := if k = 6 then (if s ≠ ⟨#[47]⟩ ∧ endsS s = true then [s ++ ⟨#[47]⟩] else [s, s ++ ⟨#[47]⟩]) else [s]

/-- texts, in a block of their own -/
def Sts (w : World) (g : Nat) (l : List ByteArray) : Prop := w.heap[g]? = some (.cells (l.map Value.string).toArray 9)
theorem Sts.below {w w' : World} {g : Nat} {l : List ByteArray} (h : Sts w g l) (hb : Below w.heap.size w w') : Sts w' g l := by
  have hg : g < w.heap.size := (Array.getElem?_eq_some_iff.1 h).1
  unfold Sts
  rw [hb.block g hg]
  exact h

end Go.Proofs.Ytbkgbnjiibhmhaa
