/-
  WHAT THE STATEMENTS' WALKS LEAN ON: the text that a slice of bytes is converted to, and how many ends the document tells. No conditions but the length.
-/
import Derived.Test.YtlepgfkhgmgobaaLive
namespace Go.Proofs.Ytlepgfkhgmgobaa
open Go.ChangeShapes Go.WideShapes Go.ChangeAt Go.RowKit
set_option linter.unusedVariables false

theorem ends_count_walk (s : ByteArray) (hs : s.size ≤ 1000000) (w : World) :
    Calls Try.prog 11 #[.string s] w fun e w' => (∃ a c, e = .returned (.slice a (countL s.data.toList) c)) ∧ Below w.heap.size w w' := by
  refine (ends_walk s hs w).mono ?_
  rintro e w' ⟨⟨v, rfl, hown⟩, hb⟩
  obtain ⟨a, c, rfl, -⟩ := ints_shape hown
  exact ⟨⟨a, c, by rw [show (endsP (pcs s.data.toList) 0).length = countL s.data.toList from ends_len _ _]⟩, hb⟩

/-- the text of the bytes that came in -/
theorem text_in {w : World} {a : Option Addr} {len cap : Nat} {zs : List Int} (h : IsRow .u8 w a len cap zs) :
    ∃ s : ByteArray, s.size = len ∧ ∀ w', Below w.heap.size w w' → (convert 22 9 (.slice a len cap)).run Try.prog w' = .ok (.string s) w' := by
  have hby := row_bys h
  refine ⟨strOfNums (zs.take len), by rw [str_size]; exact hby.1, fun w' hb => bys_string (P := Try.prog) Try.underlying22 Try.underlying5 Try.underlying9 (hby.below hb)⟩

end Go.Proofs.Ytlepgfkhgmgobaa
