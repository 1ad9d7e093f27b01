/-
  What the rows' list of package variables gives to the walks; the world that lays it.
  Conditions: none.
-/
import Derived.Test.YthnaanjhmehgcaaGreatDoorRows
import Derived.Test.YthnaanjhmehgcaaGreatDoorN05
import Derived.Lay
import Derived.Stop.LaidErr
import Derived.MakeChecks
namespace Go.Proofs.YthnaanjhmehgcaaGreatDoor
open Go.ChangeShapes Go.WideShapes Go.ChangeAt Go.RowKit

/-- The list that all rows of this program bear. -/
def lst : List (String × DataW Unit) := [("math/bits.deBruijn32tab", Rows.laid_math_bits_deBruijn32tab), ("math/bits.deBruijn64tab", Rows.laid_math_bits_deBruijn64tab), ("internal/strconv.uint64pow10", Rows.laid_internal_strconv_uint64pow10), ("unicode/utf8.acceptRanges", Rows.laid_unicode_utf8_acceptRanges), ("strconv.ErrRange", Rows.laid_strconv_ErrRange), ("strconv.ErrSyntax", Rows.laid_strconv_ErrSyntax), ("unicode/utf8.first", Rows.laid_unicode_utf8_first)]

theorem star : "*" ++ "errors.errorString" = "*errors.errorString" := by decide
theorem rowErr (u : TypeId) (h : Tryz.prog.typeName? 3 u = some "*errors.errorString") : u = 201 :=
  typeName_ptr_named (nm := "errors.errorString") (by rw [star]; kernel_rfl) (by kernel_rfl) (by decide) u (by rw [star]; exact h)
theorem gPowType : (Tryz.prog.globals[1]?).map (·.type) = some 190 := by kernel_rfl
theorem gSynType : (Tryz.prog.globals[2]?).map (·.type) = some 152 := by kernel_rfl
theorem gRanType : (Tryz.prog.globals[3]?).map (·.type) = some 152 := by kernel_rfl
theorem cellsU : Tryz.prog.cellsOf 121 = 1 := by kernel_rfl
theorem cellsPow : Tryz.prog.cellsOf 190 = 20 := by kernel_rfl
theorem cellsErr : Tryz.prog.cellsOf 203 = 1 := by kernel_rfl
theorem cellsS9 : Tryz.prog.cellsOf 9 = 1 := by kernel_rfl
theorem pow_is : (Rows.laid_internal_strconv_uint64pow10 : DataW Unit) = Lib.tabData .u64 Lib.pow10Tab := by kernel_rfl

theorem laid_of {W : World} (h : laidMetH Tryz.prog lst W) : Laid W := by
  have hL : laidMet Tryz.prog lst W := by rw [← MakeChecks.laidMetH_plain _ _ _ (by kernel_rfl)]; exact h
  have h2 := hL.tail.tail
  have h4 := h2.tail.tail
  refine ⟨?_, ?_, ?_⟩
  · refine Lib.tabIs_of_head (rest := [("unicode/utf8.acceptRanges", Rows.laid_unicode_utf8_acceptRanges), ("strconv.ErrRange", Rows.laid_strconv_ErrRange), ("strconv.ErrSyntax", Rows.laid_strconv_ErrSyntax), ("unicode/utf8.first", Rows.laid_unicode_utf8_first)]) gPow gPowType Tryz.underlying190 Tryz.underlying121 cellsU cellsPow ?_
    rw [← pow_is]
    exact h2
  · obtain ⟨a, _, hv, _⟩ := laid_sentinel h4.tail gSyn gSynType Tryz.underlying152 rowErr Tryz.underlying201 Tryz.underlying203 rfl rfl Tryz.underlying9 cellsErr cellsS9
    exact ⟨201, _, hv⟩
  · obtain ⟨a, _, hv, _⟩ := laid_sentinel h4 gRan gRanType Tryz.underlying152 rowErr Tryz.underlying201 Tryz.underlying203 rfl rfl Tryz.underlying9 cellsErr cellsS9
    exact ⟨201, _, hv⟩

theorem own : ownKnob Tryz.prog.godebug = none := by kernel_rfl
end Go.Proofs.YthnaanjhmehgcaaGreatDoor
