/-
  TWO COPIES OF ONE ITEM IN ONE STATEMENT, in whatever order: the frame. Nothing of the program. No condition.
-/
import Derived.Test.YtbkgbnjiibhmhaaAny2
import Derived.Test.YtbkgbnjiibhmhaaIsp
namespace Go.Proofs.Ytbkgbnjiibhmhaa
open Go.ChangeShapes Go.WideShapes Go.ChangeAt Go.RowKit Go.Lib
set_option linter.unusedVariables false
set_option linter.unusedSimpArgs false
set_option maxRecDepth 20000

/-- a frame, six of its slots set -/
def Fr (tm : Array Value) (v42 v43 v44 v45 v5 v6 : Value) : Act := { tmps := (((((tm.setIfInBounds 42 v42).setIfInBounds 43 v43).setIfInBounds 44 v44).setIfInBounds 45 v45).setIfInBounds 5 v5).setIfInBounds 6 v6, defers := [] }

theorem set_comm (x : Array Value) (i j : Nat) (h : i ≠ j) (u v : Value) : (x.setIfInBounds i u).setIfInBounds j v = (x.setIfInBounds j v).setIfInBounds i u := by
  apply Array.ext_getElem?
  intro k
  rw [Array.getElem?_setIfInBounds, Array.getElem?_setIfInBounds, Array.getElem?_setIfInBounds, Array.getElem?_setIfInBounds]
  by_cases h1 : j = k
  · subst h1
    simp [h]
  · by_cases h2 : i = k
    · subst h2
      simp [h1]
    · simp [h1, h2]
theorem set_again (x : Array Value) (i : Nat) (u v : Value) : (x.setIfInBounds i u).setIfInBounds i v = x.setIfInBounds i v := by
  apply Array.ext_getElem?
  intro k
  rw [Array.getElem?_setIfInBounds, Array.getElem?_setIfInBounds, Array.getElem?_setIfInBounds]
  by_cases h1 : i = k
  · subst h1; simp
  · simp [h1]

theorem fr_put42 (tm : Array Value) (v42 v43 v44 v45 v5 v6 v : Value) : (Fr tm v42 v43 v44 v45 v5 v6).put (some 42) v = Fr tm v v43 v44 v45 v5 v6 := by
  unfold Fr Act.put
  simp only
  rw [set_comm _ 6 42 (by decide), set_comm _ 5 42 (by decide), set_comm _ 45 42 (by decide), set_comm _ 44 42 (by decide), set_comm _ 43 42 (by decide), set_again]
theorem fr_put43 (tm : Array Value) (v42 v43 v44 v45 v5 v6 v : Value) : (Fr tm v42 v43 v44 v45 v5 v6).put (some 43) v = Fr tm v42 v v44 v45 v5 v6 := by
  unfold Fr Act.put
  simp only
  rw [set_comm _ 6 43 (by decide), set_comm _ 5 43 (by decide), set_comm _ 45 43 (by decide), set_comm _ 44 43 (by decide), set_again]
theorem fr_put44 (tm : Array Value) (v42 v43 v44 v45 v5 v6 v : Value) : (Fr tm v42 v43 v44 v45 v5 v6).put (some 44) v = Fr tm v42 v43 v v45 v5 v6 := by
  unfold Fr Act.put
  simp only
  rw [set_comm _ 6 44 (by decide), set_comm _ 5 44 (by decide), set_comm _ 45 44 (by decide), set_again]
theorem fr_put45 (tm : Array Value) (v42 v43 v44 v45 v5 v6 v : Value) : (Fr tm v42 v43 v44 v45 v5 v6).put (some 45) v = Fr tm v42 v43 v44 v v5 v6 := by
  unfold Fr Act.put
  simp only
  rw [set_comm _ 6 45 (by decide), set_comm _ 5 45 (by decide), set_again]
theorem fr_put5 (tm : Array Value) (v42 v43 v44 v45 v5 v6 v : Value) : (Fr tm v42 v43 v44 v45 v5 v6).put (some 5) v = Fr tm v42 v43 v44 v45 v v6 := by
  unfold Fr Act.put
  simp only
  rw [set_comm _ 6 5 (by decide), set_again]
theorem fr_put6 (tm : Array Value) (v42 v43 v44 v45 v5 v6 v : Value) : (Fr tm v42 v43 v44 v45 v5 v6).put (some 6) v = Fr tm v42 v43 v44 v45 v5 v := by
  unfold Fr Act.put
  simp only
  rw [set_again]
theorem fr_eval42 {tm : Array Value} (hz : tm.size = 103) (v42 v43 v44 v45 v5 v6 : Value) : (Fr tm v42 v43 v44 v45 v5 v6).eval (.tmp 42) = v42 := by
  simp [Fr, Act.eval, hz]
theorem fr_eval43 {tm : Array Value} (hz : tm.size = 103) (v42 v43 v44 v45 v5 v6 : Value) : (Fr tm v42 v43 v44 v45 v5 v6).eval (.tmp 43) = v43 := by
  simp [Fr, Act.eval, hz]
theorem fr_eval44 {tm : Array Value} (hz : tm.size = 103) (v42 v43 v44 v45 v5 v6 : Value) : (Fr tm v42 v43 v44 v45 v5 v6).eval (.tmp 44) = v44 := by
  simp [Fr, Act.eval, hz]
theorem fr_eval45 {tm : Array Value} (hz : tm.size = 103) (v42 v43 v44 v45 v5 v6 : Value) : (Fr tm v42 v43 v44 v45 v5 v6).eval (.tmp 45) = v45 := by
  simp [Fr, Act.eval, hz]
theorem fr_eval5 {tm : Array Value} (hz : tm.size = 103) (v42 v43 v44 v45 v5 v6 : Value) : (Fr tm v42 v43 v44 v45 v5 v6).eval (.tmp 5) = v5 := by
  simp [Fr, Act.eval, hz]
theorem fr_eval6 {tm : Array Value} (hz : tm.size = 103) (v42 v43 v44 v45 v5 v6 : Value) : (Fr tm v42 v43 v44 v45 v5 v6).eval (.tmp 6) = v6 := by
  simp [Fr, Act.eval, hz]
theorem fr_eval2 {tm : Array Value} (hz : tm.size = 103) (v42 v43 v44 v45 v5 v6 : Value) : (Fr tm v42 v43 v44 v45 v5 v6).eval (.tmp 2) = tm.getD 2 undef := by
  simp [Fr, Act.eval, hz]

end Go.Proofs.Ytbkgbnjiibhmhaa
