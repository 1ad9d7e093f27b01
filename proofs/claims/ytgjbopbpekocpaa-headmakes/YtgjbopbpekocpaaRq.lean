/-
  THE DOCUMENT's Make OF A HEADER: all of it. Conditions: that the numbers are 64 bits wide, a flag is a byte, and the texts have at most 3000 bytes each.
-/
import Derived.Test.YtgjbopbpekocpaaRq0
import Derived.Test.YtgjbopbpekocpaaRq1t
import Derived.Test.YtgjbopbpekocpaaRq1f
import Derived.Test.YtgjbopbpekocpaaRq2t
import Derived.Test.YtgjbopbpekocpaaRq2f
namespace Go.Proofs.Ytgjbopbpekocpaa
open Go.ChangeShapes Go.WideShapes Go.ChangeAt Go.RowKit
set_option linter.unusedVariables false
set_option maxRecDepth 20000

theorem rmake_any (w : World) (R : RawV) (hR : R.ok) (wide dev : Bool) :
    Calls Try.prog 19 #[.agg R.rarr, .bool wide, .bool dev] w fun e w' => ∃ a m c, e = .returned (.tuple #[.slice a m c, .int .i64 (makeC R wide dev)]) ∧ Bys w' a m c (makeL R wide dev) ∧ Below w.heap.size w w' := by
  by_cases h : 0 ≤ R.m ∧ R.m ≤ 2
  · cases hf : flagB R.x
    · have hc : makeC R wide dev = 9 := by unfold makeC; rw [if_neg (by simpa using h), if_pos hf]
      have hl : makeL R wide dev = [] := by unfold makeL; rw [hc, if_neg (by omega)]
      rw [hc, hl]
      refine (rmake_flag w R hR wide dev h hf).mono ?_
      rintro e w' ⟨rfl, hb⟩
      exact ⟨none, 0, 0, rfl, Bys.mk0 (by omega), hb⟩
    · obtain ⟨hc, hl⟩ := make_doc hR wide dev h hf
      rw [hc, hl]
      have hM : R.m = 0 ∨ R.m = 1 ∨ R.m = 2 := by omega
      rcases hM with hM | hM | hM
      · exact rmake_rest0 w R hR wide dev hM hf
      · cases dev
        · exact rmake_rest1f w R hR wide hM hf
        · exact rmake_rest1t w R hR wide hM hf
      · cases dev
        · exact rmake_rest2f w R hR wide hM hf
        · exact rmake_rest2t w R hR wide hM hf
  · have hc : makeC R wide dev = 2 := by unfold makeC; rw [if_pos h]
    have hl : makeL R wide dev = [] := by unfold makeL; rw [hc, if_neg (by omega)]
    rw [hc, hl]
    refine (rmake_arg w R wide dev h).mono ?_
    rintro e w' ⟨rfl, hb⟩
    exact ⟨none, 0, 0, rfl, Bys.mk0 (by omega), hb⟩
end Go.Proofs.Ytgjbopbpekocpaa
