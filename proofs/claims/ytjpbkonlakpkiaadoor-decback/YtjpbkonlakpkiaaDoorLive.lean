/-
  The chapter's examples, and the look at a code: what they answer.
  Conditions: the package variables that the library reads hold what the program's text lays.
-/
import Derived.Test.YtjpbkonlakpkiaaDoorPrn
namespace Go.Proofs.YtjpbkonlakpkiaaDoor
open Go.ChangeShapes Go.WideShapes Go.ChangeAt Go.RowKit Go.Lib Go.Sort

theorem time_ex : timeOf (bs ⟨#[45, 48, 46, 53]⟩) = some (-1, 500000000) := by decide +kernel
theorem print_ex : printOf 1 500000000 = [49, 46, 53] := by
  have h1 : wholeOf 1 500000000 = 1 := by decide
  have h2 : partOf 1 500000000 = 500000000 := by decide
  unfold printOf
  rw [h1, h2, dec_lt (by omega), tail9_eq (by omega)]
  decide +kernel

theorem form_ok (c : Int) (ok : Bool) (hc : c = if ok then 0 else 15) (w : World) :
    Calls Tryd.prog 11 #[.int .i64 c, .bool ok] w fun e w' => e = .returned (.bool true) ∧ w' = w := by
  subst hc
  cases ok
  · simp only [Bool.false_eq_true, if_false]
    go_enter Tryd.func11, Tryd.ntmps11
    go_wp2
    go_ret
    exact ⟨rfl, rfl⟩
  · simp only [if_true]
    go_enter Tryd.func11, Tryd.ntmps11
    go_wp2
    go_ret
    exact ⟨rfl, rfl⟩

set_option maxHeartbeats 4000000 in
set_option maxRecDepth 20000 in
theorem alive_ok (w : World) (hL : Laid w) :
    Calls Tryd.prog 6 #[] w fun e w' => e = .returned (.bool true) ∧ Below w.heap.size w w' := by
  have ht := time_ok ⟨#[45, 48, 46, 53]⟩ (by decide) w hL (-1) 500000000 0 (Or.inl ⟨time_ex, rfl⟩)
  have hp := fun w hL => print_yes 1 500000000 (by decide) (by decide) ⟨by decide, by decide⟩ w hL
  simp only [print_ex] at hp
  go_enter Tryd.func6, Tryd.ntmps6
  go_wp2_with (first
    | (go_at_call 8; refine ht.mono ?_; rintro e w1 ⟨rfl, hb1⟩)
    | (go_at_call 12; refine (hp _ (hL.below (hb1.trans ((below_alloc w1 _).mono hb1.size)))).mono ?_; rintro e w2 ⟨rfl, hb2⟩; obtain ⟨hlt, q0, q1, hB⟩ := boxed hb2))
  go_ret
  exact ⟨ret_bool (by decide +kernel), hb1.trans (hB.mono hb1.size)⟩
end Go.Proofs.YtjpbkonlakpkiaaDoor
