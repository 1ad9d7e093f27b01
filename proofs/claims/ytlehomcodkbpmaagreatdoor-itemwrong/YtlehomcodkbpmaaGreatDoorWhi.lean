/-
  THE DOCUMENT's WORD ON PAIRS: which known key a key is. Conditions: how many bytes a text may have.
-/
import Derived.Test.YtlehomcodkbpmaaGreatDoorRtx
namespace Go.Proofs.YtlehomcodkbpmaaGreatDoor
open Go.ChangeShapes Go.WideShapes Go.ChangeAt Go.RowKit Go.Lib
set_option linter.unusedVariables false
set_option maxRecDepth 20000

/-- which known key it is -/
def whichK (k : List UInt8) : Int := if k = [112, 97, 116, 104] then 0 else if k = [108, 105, 110, 107, 112, 97, 116, 104] then 1 else if k = [117, 110, 97, 109, 101] then 2 else if k = [103, 110, 97, 109, 101] then 3 else if k = [117, 105, 100] then 4 else if k = [103, 105, 100] then 5 else if k = [115, 105, 122, 101] then 6 else if k = [109, 116, 105, 109, 101] then 7 else -1

theorem which_kind (k : List UInt8) : (whichK k = -1 ∧ kindK k = 0) ∨ (0 ≤ whichK k ∧ whichK k < 4 ∧ kindK k = 1) ∨ (4 ≤ whichK k ∧ whichK k < 7 ∧ kindK k = 2) ∨ (whichK k = 7 ∧ kindK k = 3) := by
  by_cases k0 : k = [112, 97, 116, 104]
  · subst k0; decide
  by_cases k1 : k = [108, 105, 110, 107, 112, 97, 116, 104]
  · subst k1; decide
  by_cases k2 : k = [117, 110, 97, 109, 101]
  · subst k2; decide
  by_cases k3 : k = [103, 110, 97, 109, 101]
  · subst k3; decide
  by_cases k4 : k = [117, 105, 100]
  · subst k4; decide
  by_cases k5 : k = [103, 105, 100]
  · subst k5; decide
  by_cases k6 : k = [115, 105, 122, 101]
  · subst k6; decide
  by_cases k7 : k = [109, 116, 105, 109, 101]
  · subst k7; decide
  left
  refine ⟨?_, ?_⟩
  · unfold whichK; rw [if_neg k0, if_neg k1, if_neg k2, if_neg k3, if_neg k4, if_neg k5, if_neg k6, if_neg k7]
  · unfold kindK keysN keysU keysT
    rw [if_neg (by simp [k0, k1, k2, k3]), if_neg (by simp [k4, k5, k6]), if_neg (by simp [k7])]

theorem str_is2 (s : ByteArray) (l : List UInt8) : (l == s.toList) = decide (bs s = l) := by
  rw [← str_is s l, Bool.eq_iff_iff]
  simp only [beq_iff_eq]
  exact eq_comm

set_option maxHeartbeats 4000000 in
theorem which_ok (s : ByteArray) (w : World) : Calls Tryz.prog 43 #[.string s] w fun e w' => e = .returned (.int .i64 (whichK (bs s))) ∧ Below w.heap.size w w' := by
  have E := str_is2 s
  have hb := (Below.refl w.heap.size w).alloc (Nat.le_refl _) (.cells #[.string ⟨#[112, 97, 116, 104]⟩, .string ⟨#[108, 105, 110, 107, 112, 97, 116, 104]⟩, .string ⟨#[117, 110, 97, 109, 101]⟩, .string ⟨#[103, 110, 97, 109, 101]⟩, .string ⟨#[117, 105, 100]⟩, .string ⟨#[103, 105, 100]⟩, .string ⟨#[115, 105, 122, 101]⟩, .string ⟨#[109, 116, 105, 109, 101]⟩] 9)
  by_cases k0 : bs s = [112, 97, 116, 104]
  · have e0 : ([112, 97, 116, 104] == s.toList) = true := by rw [E, decide_eq_true k0]
    have hk : whichK (bs s) = 0 := by rw [k0]; decide
    rw [hk]
    clear hk E k0
    go_enter Tryz.func43, Tryz.ntmps43
    go_wp2
    go_rounds 1
    all_goals go_ret
    all_goals exact ⟨rfl, hb⟩
  have e0 : ([112, 97, 116, 104] == s.toList) = false := by rw [E, decide_eq_false k0]
  by_cases k1 : bs s = [108, 105, 110, 107, 112, 97, 116, 104]
  · have e1 : ([108, 105, 110, 107, 112, 97, 116, 104] == s.toList) = true := by rw [E, decide_eq_true k1]
    have hk : whichK (bs s) = 1 := by rw [k1]; decide
    rw [hk]
    clear hk E k0 k1
    go_enter Tryz.func43, Tryz.ntmps43
    go_wp2
    go_rounds 2
    all_goals go_ret
    all_goals exact ⟨rfl, hb⟩
  have e1 : ([108, 105, 110, 107, 112, 97, 116, 104] == s.toList) = false := by rw [E, decide_eq_false k1]
  by_cases k2 : bs s = [117, 110, 97, 109, 101]
  · have e2 : ([117, 110, 97, 109, 101] == s.toList) = true := by rw [E, decide_eq_true k2]
    have hk : whichK (bs s) = 2 := by rw [k2]; decide
    rw [hk]
    clear hk E k0 k1 k2
    go_enter Tryz.func43, Tryz.ntmps43
    go_wp2
    go_rounds 3
    all_goals go_ret
    all_goals exact ⟨rfl, hb⟩
  have e2 : ([117, 110, 97, 109, 101] == s.toList) = false := by rw [E, decide_eq_false k2]
  by_cases k3 : bs s = [103, 110, 97, 109, 101]
  · have e3 : ([103, 110, 97, 109, 101] == s.toList) = true := by rw [E, decide_eq_true k3]
    have hk : whichK (bs s) = 3 := by rw [k3]; decide
    rw [hk]
    clear hk E k0 k1 k2 k3
    go_enter Tryz.func43, Tryz.ntmps43
    go_wp2
    go_rounds 4
    all_goals go_ret
    all_goals exact ⟨rfl, hb⟩
  have e3 : ([103, 110, 97, 109, 101] == s.toList) = false := by rw [E, decide_eq_false k3]
  by_cases k4 : bs s = [117, 105, 100]
  · have e4 : ([117, 105, 100] == s.toList) = true := by rw [E, decide_eq_true k4]
    have hk : whichK (bs s) = 4 := by rw [k4]; decide
    rw [hk]
    clear hk E k0 k1 k2 k3 k4
    go_enter Tryz.func43, Tryz.ntmps43
    go_wp2
    go_rounds 5
    all_goals go_ret
    all_goals exact ⟨rfl, hb⟩
  have e4 : ([117, 105, 100] == s.toList) = false := by rw [E, decide_eq_false k4]
  by_cases k5 : bs s = [103, 105, 100]
  · have e5 : ([103, 105, 100] == s.toList) = true := by rw [E, decide_eq_true k5]
    have hk : whichK (bs s) = 5 := by rw [k5]; decide
    rw [hk]
    clear hk E k0 k1 k2 k3 k4 k5
    go_enter Tryz.func43, Tryz.ntmps43
    go_wp2
    go_rounds 6
    all_goals go_ret
    all_goals exact ⟨rfl, hb⟩
  have e5 : ([103, 105, 100] == s.toList) = false := by rw [E, decide_eq_false k5]
  by_cases k6 : bs s = [115, 105, 122, 101]
  · have e6 : ([115, 105, 122, 101] == s.toList) = true := by rw [E, decide_eq_true k6]
    have hk : whichK (bs s) = 6 := by rw [k6]; decide
    rw [hk]
    clear hk E k0 k1 k2 k3 k4 k5 k6
    go_enter Tryz.func43, Tryz.ntmps43
    go_wp2
    go_rounds 7
    all_goals go_ret
    all_goals exact ⟨rfl, hb⟩
  have e6 : ([115, 105, 122, 101] == s.toList) = false := by rw [E, decide_eq_false k6]
  by_cases k7 : bs s = [109, 116, 105, 109, 101]
  · have e7 : ([109, 116, 105, 109, 101] == s.toList) = true := by rw [E, decide_eq_true k7]
    have hk : whichK (bs s) = 7 := by rw [k7]; decide
    rw [hk]
    clear hk E k0 k1 k2 k3 k4 k5 k6 k7
    go_enter Tryz.func43, Tryz.ntmps43
    go_wp2
    go_rounds 8
    all_goals go_ret
    all_goals exact ⟨rfl, hb⟩
  have e7 : ([109, 116, 105, 109, 101] == s.toList) = false := by rw [E, decide_eq_false k7]
  have hk : whichK (bs s) = -1 := by unfold whichK; rw [if_neg k0, if_neg k1, if_neg k2, if_neg k3, if_neg k4, if_neg k5, if_neg k6, if_neg k7]
  rw [hk]
  clear hk E k0 k1 k2 k3 k4 k5 k6 k7
  go_enter Tryz.func43, Tryz.ntmps43
  go_wp2
  go_rounds 9
  all_goals go_ret
  all_goals exact ⟨rfl, hb⟩

end Go.Proofs.YtlehomcodkbpmaaGreatDoor
