/-
  A PAIR PUT INTO A ROW OF PAIRS THAT THE CALL OWNS (slices.Insert of one pair). Conditions: how many pairs there are.
-/
import Derived.Test.YthnaanjhmehgcaaGreatDoorN31
import Derived.Test.YthnaanjhmehgcaaGreatDoorN11
import Derived.Lib.Overlaps
import Derived.Laws.Externs
namespace Go.Proofs.YthnaanjhmehgcaaGreatDoor
open Go.ChangeShapes Go.WideShapes Go.ChangeAt Go.RowKit Go.Lib
set_option linter.unusedVariables false
set_option linter.unusedSimpArgs false
set_option maxRecDepth 20000

theorem pair_src {w : World} {vb : Nat} {k v : ByteArray} (h : Blk w vb #[.string k, .string v] 50) : ∀ j u, ([.string k, .string v] : List Value)[j]? = some u → w.cell? ((⟨vb, 0, none⟩ : Addr).add j) = some u := by
  intro j u hj
  rw [Addr.add_lit, h.cell]
  match j, hj with
  | 0, hj => simpa using hj
  | 1, hj => simpa using hj
theorem pair_one (k v : ByteArray) : ∀ u ∈ ([.string k, .string v] : List Value), u.oneCell' = true := by
  intro u hu; simp at hu; rcases hu with rfl | rfl <;> rfl

end Go.Proofs.YthnaanjhmehgcaaGreatDoor
