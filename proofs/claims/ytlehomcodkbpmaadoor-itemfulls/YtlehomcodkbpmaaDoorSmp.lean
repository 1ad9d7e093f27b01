/-
  THE DOCUMENT's WORD ON WHETHER PAIRS ARE THE SAME. Conditions: none.
-/
import Derived.Test.YtlehomcodkbpmaaDoorPrt
import Derived.Laws.StructEq
namespace Go.Proofs.YtlehomcodkbpmaaDoor
open Go.ChangeShapes Go.WideShapes Go.ChangeAt Go.RowKit Go.Lib
set_option linter.unusedVariables false
set_option linter.unusedSimpArgs false
set_option maxRecDepth 20000

theorem pair_neq (w : World) (k v k2 v2 : ByteArray) : (binOp .neq 36 (.agg #[.string k, .string v]) (.agg #[.string k2, .string v2])).run Tryd.prog w = .ok (.bool (!decide (k = k2 ∧ v = v2))) w := by
  have e1 : ∀ a b : ByteArray, (a.toList == b.toList) = decide (a = b) := by
    intro a b
    rw [Bool.eq_iff_iff]
    rw [str_beq]; simp
  have hf : Tryd.prog.underlying 36 = some (.struct (Tryd.prog.fieldsOf 36)) := by kernel_rfl
  have hs : Tryd.prog.stoodInHeld 36 = false := by kernel_rfl
  rw [run_neq_struct, run_equalIn_agg w 9999 36 _ _ hf hs]
  simp [go_sem, Program.fieldsOf, Tryd.underlying36, Tryd.underlying9, Op.eqFields]
  have e2 : ∀ a b : ByteArray, (a.toList = b.toList) ↔ a = b := fun a b => by
    have := e1 a b
    rw [Bool.eq_iff_iff] at this
    simpa using this
  simp only [e2]
  by_cases h1 : k = k2 <;> by_cases h2 : v = v2 <;> simp [h1, h2]

theorem Pys.some_of {w : World} {a : Option Addr} {n c : Nat} {l : List (ByteArray × ByteArray)} (h : Pys w a n c l) (h0 : 0 < n) : ∃ b off, a = some ⟨b, off, none⟩ ∧ PCells w b off l := by
  obtain ⟨_, _, _, ⟨_, e⟩ | ⟨_, b, off, rfl, hc⟩⟩ := h
  · omega
  · exact ⟨b, off, rfl, hc⟩

end Go.Proofs.YtlehomcodkbpmaaDoor
