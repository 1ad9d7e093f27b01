/-
  WHETHER PAIRS ARE FEW, whatever they are. Conditions: a text has no more bytes than a machine reaches.
-/
import Derived.Test.YtlehomcodkbpmaaGreatDoorFew
namespace Go.Proofs.YtlehomcodkbpmaaGreatDoor
open Go.ChangeShapes Go.WideShapes Go.ChangeAt Go.RowKit Go.Lib
set_option linter.unusedVariables false
set_option linter.unusedSimpArgs false
set_option maxRecDepth 20000

theorem tot_le (M : Nat) : ∀ l : List (ByteArray × ByteArray), (∀ p ∈ l, p.1.size ≤ M ∧ p.2.size ≤ M) → totN l ≤ l.length * (2 * M)
  | [], _ => by simp [totN]
  | p :: t, h => by
    obtain ⟨h1, h2⟩ := h p (List.mem_cons_self ..)
    have := tot_le M t fun q hq => h q (List.mem_cons_of_mem _ hq)
    rw [totN, List.length_cons, Nat.add_mul]
    omega
end Go.Proofs.YtlehomcodkbpmaaGreatDoor
