/-
  What the rows' list of package variables gives to the walks; the world that lays it.
  Conditions: none.
-/
import Derived.Test.YtjpbkonlakpkiaaDoorRows
import Derived.Test.YtjpbkonlakpkiaaDoorLibs
import Derived.Lay
import Derived.Stop.LaidErr
import Derived.MakeChecks
namespace Go.Proofs.YtjpbkonlakpkiaaDoor
open Go.ChangeShapes Go.WideShapes Go.ChangeAt Go.RowKit

/-- The list that all rows of this program bear. -/
def lst : List (String × DataW Unit) := Rows.decReadsRow.laid

theorem star : "*" ++ "errors.errorString" = "*errors.errorString" := by decide
theorem row105 (u : TypeId) (h : Tryd.prog.typeName? 3 u = some "*errors.errorString") : u = 105 :=
  typeName_ptr_named (nm := "errors.errorString") (by rw [star]; kernel_rfl) (by kernel_rfl) (by decide) u (by rw [star]; exact h)
theorem gPowType : (Tryd.prog.globals[0]?).map (·.type) = some 88 := by kernel_rfl
theorem gSynType : (Tryd.prog.globals[1]?).map (·.type) = some 57 := by kernel_rfl
theorem gRanType : (Tryd.prog.globals[2]?).map (·.type) = some 57 := by kernel_rfl
theorem cells44 : Tryd.prog.cellsOf 44 = 1 := by kernel_rfl
theorem cells88 : Tryd.prog.cellsOf 88 = 20 := by kernel_rfl
theorem cells107 : Tryd.prog.cellsOf 107 = 1 := by kernel_rfl
theorem cells9 : Tryd.prog.cellsOf 9 = 1 := by kernel_rfl
theorem pow_is : (Rows.laid_internal_strconv_uint64pow10 : DataW Unit) = Lib.tabData .u64 Lib.pow10Tab := by kernel_rfl

theorem laid_of {W : World} (h : laidMetH Tryd.prog lst W) : Laid W := by
  have hL : laidMet Tryd.prog lst W := by rw [← MakeChecks.laidMetH_plain _ _ _ (by kernel_rfl)]; exact h
  have h2 := hL.tail.tail
  have h4 := h2.tail.tail
  refine ⟨?_, ?_, ?_⟩
  · refine Lib.tabIs_of_head (rest := [("unicode/utf8.acceptRanges", Rows.laid_unicode_utf8_acceptRanges), ("strconv.ErrRange", Rows.laid_strconv_ErrRange), ("strconv.ErrSyntax", Rows.laid_strconv_ErrSyntax), ("unicode/utf8.first", Rows.laid_unicode_utf8_first)]) gPow gPowType Tryd.underlying88 Tryd.underlying44 cells44 cells88 ?_
    rw [← pow_is]
    exact h2
  · obtain ⟨a, _, hv, _⟩ := laid_sentinel h4.tail gSyn gSynType Tryd.underlying57 row105 Tryd.underlying105 Tryd.underlying107 rfl rfl Tryd.underlying9 cells107 cells9
    exact ⟨105, _, hv⟩
  · obtain ⟨a, _, hv, _⟩ := laid_sentinel h4 gRan gRanType Tryd.underlying57 row105 Tryd.underlying105 Tryd.underlying107 rfl rfl Tryd.underlying9 cells107 cells9
    exact ⟨105, _, hv⟩

theorem own : ownKnob Tryd.prog.godebug = none := by kernel_rfl
end Go.Proofs.YtjpbkonlakpkiaaDoor
