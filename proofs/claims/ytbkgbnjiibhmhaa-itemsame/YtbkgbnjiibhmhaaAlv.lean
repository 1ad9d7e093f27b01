/-
  THE CHAPTER's EXAMPLES HOLD. No condition.
-/
import Derived.Test.YtbkgbnjiibhmhaaFul
namespace Go.Proofs.Ytbkgbnjiibhmhaa
open Go.ChangeShapes Go.WideShapes Go.ChangeAt Go.RowKit Go.Lib
set_option linter.unusedVariables false
set_option linter.unusedSimpArgs false
set_option maxRecDepth 20000

theorem told_ex (w : World) : Calls Try.prog 22 #[.int .i64 1, .string ⟨#[97, 47]⟩] w fun e w' => w' = w ∧ e = .returned (.tuple #[.int .i64 6, .string ⟨#[97]⟩]) := by
  have h := told_ok 1 ⟨#[97, 47]⟩ (by decide +kernel) w
  have e1 : toldK 1 ⟨#[97, 47]⟩ = 6 := by decide +kernel
  have e2 : toldS 1 ⟨#[97, 47]⟩ = ⟨#[97]⟩ := by decide +kernel
  rw [e1, e2] at h
  exact h

theorem fulls_ex (w : World) : Calls Try.prog 23 #[.agg #[.int .i64 6, .string ⟨#[47]⟩, .string ⟨#[]⟩, .int .i64 0, .int .i64 0, .int .i64 0, .int .i64 0, .int .i64 0, .int .i64 0, .string ⟨#[]⟩, .string ⟨#[]⟩, .int .i64 0, .int .i64 0, .slice none 0 0]] w
    fun e w' => ∃ g, e = .returned (.slice (some ⟨g, 0, none⟩) 2 2) ∧ w'.cell? ⟨g, 0, none⟩ = some (.string ⟨#[47]⟩) ∧ w'.cell? ⟨g, 1, none⟩ = some (.string ⟨#[47, 47]⟩) ∧ Below w.heap.size w w' := by
  have h := fulls_ok ⟨6, ⟨#[47]⟩, ⟨#[]⟩, 0, 0, 0, 0, 0, 0, ⟨#[]⟩, ⟨#[]⟩, 0, 0⟩ (.slice none 0 0) (by decide +kernel) w
  have e1 : fulls 6 ⟨#[47]⟩ = [⟨#[47]⟩, ⟨#[47, 47]⟩] := by decide +kernel
  refine h.mono ?_
  rintro e w' ⟨g, n, rfl, hn, hs, hb⟩
  simp only [e1] at hn hs
  subst hn
  have hs' : w'.heap[g]? = some (.cells #[.string ⟨#[47]⟩, .string ⟨#[47, 47]⟩] 9) := hs
  exact ⟨g, rfl, by simp [World.cell?, hs'], by simp [World.cell?, hs'], hb⟩

set_option maxHeartbeats 4000000 in
theorem alive_ok (w : World) : Calls Try.prog 7 #[] w fun e w' => e = .returned (.bool true) ∧ Below w.heap.size w w' := by
  go_enter Try.func7, Try.ntmps7
  go_wp2_with (first
    | (go_at_call 22; refine (told_ex _).mono ?_; rintro e w' ⟨hw, rfl⟩; obtain rfl := hw.symm)
    | (go_at_call 23; refine (fulls_ex _).mono ?_; rintro e w1 ⟨g, rfl, c0, c1, hb⟩))
  all_goals go_ret
  all_goals exact ⟨rfl, hb⟩

end Go.Proofs.Ytbkgbnjiibhmhaa
