/-
  THE CHAPTER's EXAMPLE, AND WHAT HOLDS OF A CUT. No condition.
-/
import Derived.Test.YtbkgbnjiibhmhaaSpe
namespace Go.Proofs.Ytbkgbnjiibhmhaa
open Go.ChangeShapes Go.WideShapes Go.ChangeAt Go.RowKit Go.Lib
set_option linter.unusedVariables false
set_option linter.unusedSimpArgs false
set_option maxRecDepth 20000

theorem split_ex (w : World) : Calls Try.prog 16 #[.string ⟨#[97, 47, 98]⟩] w fun e w' => e = .returned (.tuple #[.string ⟨#[]⟩, .string ⟨#[97, 47, 98]⟩, .bool true]) ∧ Below w.heap.size w w' := by
  have h := split_ok ⟨#[97, 47, 98]⟩ (by decide +kernel) w
  rw [show spA ⟨#[97, 47, 98]⟩ = ⟨#[]⟩ by decide +kernel, show spN ⟨#[97, 47, 98]⟩ = ⟨#[97, 47, 98]⟩ by decide +kernel, show spO ⟨#[97, 47, 98]⟩ = true by decide +kernel] at h
  exact h

set_option maxHeartbeats 4000000 in
theorem salive_ok (w : World) : Calls Try.prog 15 #[] w fun e w' => e = .returned (.bool true) ∧ Below w.heap.size w w' := by
  go_enter Try.func15, Try.ntmps15
  go_wp2_with (first
    | (go_at_call 16; refine (split_ex _).mono ?_; rintro e w1 ⟨rfl, hb⟩)
    | (go_at_call 21; refine (most_ok _).mono ?_; rintro e w' ⟨hw, rfl⟩; obtain rfl := hw.symm))
  all_goals go_ret
  all_goals exact ⟨rfl, hb⟩

theorem nums_app (a b : ByteArray) : nums (a ++ b) = nums a ++ nums b := by unfold nums; simp

theorem join_cut (s : ByteArray) (k : Nat) (hk : k < s.size) (h47 : (nums s).getD k 0 = 47) : s.extract 0 k ++ ⟨#[47]⟩ ++ s.extract (k + 1) s.size = s := by
  apply nums_inj
  rw [nums_app, nums_app, nums_extract, nums_extract_end, show nums ⟨#[47]⟩ = [47] by decide +kernel]
  have hl : k < (nums s).length := by rw [nums_length]; exact hk
  have h := List.drop_eq_getElem_cons hl
  have h2 : (nums s)[k] = 47 := by simpa [hl] using h47
  rw [h2] at h
  simp only [List.drop_zero, Nat.sub_zero, List.append_assoc, List.singleton_append]
  rw [← h, List.take_append_drop]

theorem no_cut {l : List Int} {e : Nat} (h : lastC l e = 0) : ∀ i, i < e → cutB l i = false := by
  have h1 := cutsTo_last l e
  rw [h] at h1
  have h2 : cutsTo l e = [] := h1
  intro i hi
  cases hc : cutB l i
  · rfl
  · have := cutsTo_mem.2 ⟨hi, hc⟩
    rw [h2] at this
    cases this

theorem natI_at {l : List Nat} {i : Nat} (h : i < l.length) : (natI l).getD i 0 = ((l.getD i 0 : Nat) : Int) := by
  unfold natI
  simp [h]
theorem cut_at {l : List Int} {e i : Nat} (h : i < (cutsTo l e).length) : (cutsTo l e).getD i 0 < e ∧ cutB l ((cutsTo l e).getD i 0) = true := by
  have : (cutsTo l e).getD i 0 ∈ cutsTo l e := by
    rw [List.getD_eq_getElem?_getD, List.getElem?_eq_getElem h]
    exact List.getElem_mem h
  exact cutsTo_mem.1 this
theorem cuts_rise {l : List Int} {e i : Nat} (h : i + 1 < (cutsTo l e).length) : (cutsTo l e).getD i 0 < (cutsTo l e).getD (i + 1) 0 := by
  have hp : (cutsTo l e).Pairwise (· < ·) := by
    unfold cutsTo
    exact List.Pairwise.filter _ List.pairwise_lt_range
  have h0 : i < (cutsTo l e).length := by omega
  have := List.pairwise_iff_getElem.1 hp i (i + 1) h0 h (by omega)
  rw [List.getD_eq_getElem?_getD, List.getD_eq_getElem?_getD, List.getElem?_eq_getElem h0, List.getElem?_eq_getElem h]
  exact this

end Go.Proofs.Ytbkgbnjiibhmhaa
