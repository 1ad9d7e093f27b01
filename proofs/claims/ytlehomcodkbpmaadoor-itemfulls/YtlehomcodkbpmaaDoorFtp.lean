/-
  THE FULL NAMES OF A RIGHT HEAD TELL ITS KIND AND NAME, AND NO OTHERS DO. Nothing of the program. No condition.
-/
import Derived.Test.YtlehomcodkbpmaaDoorWrg
import Derived.Test.YtlehomcodkbpmaaDoorMan
namespace Go.Proofs.YtlehomcodkbpmaaDoor
open Go.ChangeShapes Go.WideShapes Go.ChangeAt Go.RowKit Go.Lib
set_option linter.unusedVariables false
set_option linter.unusedSimpArgs false
set_option maxRecDepth 20000

theorem nums_app1 (s t : ByteArray) : nums (s ++ t) = nums s ++ nums t := by
  unfold nums
  rw [ByteArray.data_append, Array.toList_append, List.map_append]

theorem ends_sl (s : ByteArray) : endsS (s ++ ⟨#[47]⟩) = true := by
  have hs : (s ++ ⟨#[47]⟩ : ByteArray).size = s.size + 1 := by rw [ByteArray.size_append]; rfl
  unfold endsS
  rw [hs, nums_app1]
  have e : nums ⟨#[47]⟩ = [47] := rfl
  rw [e]
  have : (nums s ++ [47]).getD (s.size + 1 - 1) 0 = 47 := by
    rw [Nat.add_sub_cancel, List.getD_eq_getElem?_getD, List.getElem?_append_right (by rw [nums_length]; exact Nat.le_refl _), nums_length]; simp
  rw [this]
  simp

theorem cut_sl (s : ByteArray) : cutS (s ++ ⟨#[47]⟩) = s := by
  have hs : (s ++ ⟨#[47]⟩ : ByteArray).size = s.size + 1 := by rw [ByteArray.size_append]; rfl
  apply nums_inj
  unfold cutS
  rw [nums_extract, hs, nums_app1, List.drop_zero]
  rw [show s.size + 1 - 1 - 0 = (nums s).length by rw [nums_length]; omega]
  exact List.take_left

theorem sl_cut (o : ByteArray) (h : endsS o = true) : cutS o ++ ⟨#[47]⟩ = o := by
  unfold endsS at h
  simp only [Bool.and_eq_true, decide_eq_true_eq, beq_iff_eq] at h
  obtain ⟨h0, h1⟩ := h
  apply nums_inj
  have e : nums ⟨#[47]⟩ = [47] := rfl
  rw [nums_app1, e]
  unfold cutS
  rw [nums_extract, List.drop_zero, Nat.sub_zero]
  have hl : o.size - 1 < (nums o).length := by rw [nums_length]; omega
  have h2 : (nums o)[o.size - 1] = 47 := by
    rw [List.getD_eq_getElem?_getD, List.getElem?_eq_getElem hl] at h1; simpa using h1
  have h3 := List.take_append_getElem hl
  rw [h2] at h3
  rw [h3, List.take_of_length_le (by rw [nums_length]; omega)]

theorem app_ne (s : ByteArray) (h : 0 < s.size) : s ++ ⟨#[47]⟩ ≠ (⟨#[47]⟩ : ByteArray) := by
  intro e
  have := congrArg ByteArray.size e
  rw [ByteArray.size_append] at this
  have e1 : (⟨#[47]⟩ : ByteArray).size = 1 := rfl
  omega

theorem ends_one : endsS ⟨#[47]⟩ = true := by decide +kernel

/-- each of them tells the kind and the name -/
theorem fulls_tell (k : Int) (s : ByteArray) (h0 : 0 < s.size) (h1 : k = 1 → endsS s = false) : ∀ f ∈ fulls k s, toldK k f = k ∧ toldS k f = s := by
  intro f hf
  unfold fulls at hf
  by_cases h6 : k = 6
  · subst h6
    have hT : ∀ x, toldK 6 x = 6 := fun x => by unfold toldK; rw [if_neg (by simp)]
    have hA : toldS 6 (s ++ ⟨#[47]⟩) = s := by
      unfold toldS; rw [hT, if_pos ⟨rfl, app_ne s h0, ends_sl s⟩, cut_sl]
    refine ⟨hT f, ?_⟩
    rw [if_pos rfl] at hf
    split at hf
    · have e : f = s ++ ⟨#[47]⟩ := by simpa using hf
      rw [e, hA]
    · rename_i hc
      have e : f = s ∨ f = s ++ ⟨#[47]⟩ := by simpa using hf
      rcases e with rfl | rfl
      · unfold toldS
        rw [hT, if_neg]
        rintro ⟨_, h3, h4⟩
        exact hc ⟨h3, h4⟩
      · exact hA
  · rw [if_neg h6] at hf
    have e : f = s := by simpa using hf
    subst e
    have hK : toldK k f = k := by
      unfold toldK
      rw [if_neg]
      rintro ⟨h2, h3⟩
      rw [h1 h2] at h3
      cases h3
    refine ⟨hK, ?_⟩
    unfold toldS
    rw [hK, if_neg (fun h => h6 h.1)]

/-- no other does -/
theorem fulls_only (k : Int) (s o : ByteArray) (hK : toldK k o = k) (hS : toldS k o = s) : o ∈ fulls k s := by
  unfold fulls
  unfold toldS at hS
  rw [hK] at hS
  by_cases h6 : k = 6
  · subst h6
    rw [if_pos rfl]
    by_cases hc : o ≠ ⟨#[47]⟩ ∧ endsS o = true
    · rw [if_pos ⟨rfl, hc⟩] at hS
      have e : o = s ++ ⟨#[47]⟩ := by rw [← hS, sl_cut o hc.2]
      split <;> simp [e]
    · rw [if_neg (fun h => hc h.2)] at hS
      subst hS
      rw [if_neg hc]
      simp
  · rw [if_neg (fun h => h6 h.1)] at hS
    rw [if_neg h6, hS]
    simp

/-- is a text among others? -/
def memB (o : ByteArray) : List ByteArray → Bool
  | [] => false
  | f :: t => (f.toList == o.toList) || memB o t
theorem memB_iff (o : ByteArray) : ∀ l : List ByteArray, memB o l = true ↔ o ∈ l
  | [] => by simp [memB]
  | f :: t => by
    rw [memB, Bool.or_eq_true, str_beq, memB_iff o t, List.mem_cons]
    exact ⟨fun h => h.imp Eq.symm id, fun h => h.imp Eq.symm id⟩
theorem memB_app (o f : ByteArray) : ∀ l : List ByteArray, memB o (l ++ [f]) = (memB o l || (f.toList == o.toList))
  | [] => by simp [memB]
  | g :: t => by rw [List.cons_append, memB, memB, memB_app o f t, Bool.or_assoc]

theorem fulls_iff (k : Int) (s o : ByteArray) (h0 : 0 < s.size) (h1 : k = 1 → endsS s = false) : memB o (fulls k s) = ((toldK k o == k) && ((toldS k o).toList == s.toList)) := by
  rw [str_dec, Bool.eq_iff_iff, memB_iff]
  simp only [decide_eq_true_eq, Bool.and_eq_true, beq_iff_eq]
  exact ⟨fulls_tell k s h0 h1 o, fun h => fulls_only k s o h.1 h.2⟩

theorem fulls_size (k : Int) (s : ByteArray) : ∀ f ∈ fulls k s, f.size ≤ s.size + 1 := by
  intro f hf
  have hs : (s ++ ⟨#[47]⟩ : ByteArray).size = s.size + 1 := by rw [ByteArray.size_append]; rfl
  unfold fulls at hf
  split at hf
  · split at hf
    · have e : f = s ++ ⟨#[47]⟩ := by simpa using hf
      rw [e, hs]; exact Nat.le_refl _
    · have e : f = s ∨ f = s ++ ⟨#[47]⟩ := by simpa using hf
      rcases e with rfl | rfl
      · omega
      · omega
  · have e : f = s := by simpa using hf
    rw [e]; omega

theorem fulls_len (k : Int) (s : ByteArray) : 0 < (fulls k s).length ∧ (fulls k s).length ≤ 2 := by
  unfold fulls
  repeat' split
  all_goals simp

theorem wrongN_zero : ∀ (l : List Bool) (i : Int), 0 < i → wrongN l i = 0 → ∀ b ∈ l, b = true
  | [], _, _, _ => by simp
  | b :: t, i, hi, h => by
    rw [wrongN] at h
    split at h
    · rename_i hb
      intro c hc
      rcases List.mem_cons.1 hc with rfl | hc
      · exact hb
      · exact wrongN_zero t (i + 1) (by omega) h c hc
    · omega

/-- what a right head's name is -/
theorem right_name {h : Hd} {l : PL} (e : wrongH h l = 0) : 0 < h.name.size ∧ (h.kind = 1 → endsS h.name = false) := by
  have hb := wrongN_zero _ _ (by decide) e (fnameR h) (by unfold fieldsR; simp)
  unfold fnameR namR at hb
  simp only [Bool.and_eq_true, Bool.not_eq_true', beq_eq_false_iff_ne] at hb
  obtain ⟨⟨h1, _⟩, h2⟩ := hb
  constructor
  · rcases Nat.eq_zero_or_pos h.name.size with e | e
    · exact absurd (by rw [toList_data]; simp; apply Array.eq_empty_of_size_eq_zero; exact e) h1
    · exact e
  · intro hk
    rw [hk] at h2
    simpa using h2

theorem mem_tot : ∀ (l : PL), ∀ p ∈ l, p.1.size + p.2.size ≤ totN l
  | [], p, h => by cases h
  | q :: t, p, h => by
    rw [totN]
    rcases List.mem_cons.1 h with rfl | h
    · omega
    · have := mem_tot t p h
      omega

end Go.Proofs.YtlehomcodkbpmaaDoor
