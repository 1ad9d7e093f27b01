/-
  WHAT IS LAID INTO A HEADER, IN WHATEVER ORDER; AND WHAT IS LAID IS GOT: on lists of bytes. Conditions: a mark that is one, 512 bytes.
-/
import Derived.Test.YtgjbopbpekocpaaMm
import Derived.Test.YtgjbopbpekocpaaRn
namespace Go.Proofs.Ytgjbopbpekocpaa
open Go.ChangeShapes Go.WideShapes Go.ChangeAt Go.RowKit
set_option linter.unusedVariables false
set_option maxRecDepth 20000

theorem layB_get (L : List Int) (st : Nat) (bs : List Int) (h : st ≤ L.length) (i : Nat) : (layB L st bs)[i]? = if i < st then L[i]? else if i < st + bs.length then bs[i - st]? else L[i]? := by
  unfold layB
  have hl : (L.take st).length = st := by rw [List.length_take]; omega
  by_cases h1 : i < st
  · rw [if_pos h1, List.getElem?_append_left (by rw [List.length_append]; omega), List.getElem?_append_left (by omega), List.getElem?_take_of_lt h1]
  · rw [if_neg h1]
    by_cases h2 : i < st + bs.length
    · rw [if_pos h2, List.getElem?_append_left (by rw [List.length_append]; omega), List.getElem?_append_right (by omega), hl]
    · rw [if_neg h2, List.getElem?_append_right (by rw [List.length_append]; omega), List.length_append, hl, List.getElem?_drop]
      congr 1
      omega

theorem mark_len (m : Int) (hm : 0 ≤ m ∧ m ≤ 2) : (nums (markS m)).length = 8 := by rw [nums_length, markS_size m hm]

theorem raw_get (R : RawV) (L : List Int) (h : L.length = 512) (hm : 0 ≤ R.m ∧ R.m ≤ 2) (i : Nat) : (rawB R L)[i]? = if i = 156 then some R.x else if i < 257 then L[i]? else if i < 265 then (nums (markS R.m))[i - 257]? else L[i]? := by
  unfold rawB
  rw [layB_get _ _ _ (by rw [List.length_set]; omega), mark_len R.m hm, List.getElem?_set]
  by_cases h1 : i = 156
  · subst h1
    rw [if_pos (by omega), if_pos rfl, if_pos (by omega), if_pos rfl]
  · rw [if_neg (c := 156 = i) (by omega), if_neg h1]

theorem lay_raw (R : RawV) (L : List Int) (h : L.length = 512) (hm : 0 ≤ R.m ∧ R.m ≤ 2) (st : Nat) (bs : List Int) (hp : st + bs.length ≤ 156 ∨ (157 ≤ st ∧ st + bs.length ≤ 257) ∨ 265 ≤ st) (hf : st + bs.length ≤ 512) : layB (rawB R L) st bs = rawB R (layB L st bs) := by
  apply List.ext_getElem?
  intro i
  rw [layB_get _ _ _ (by rw [rawB_length R L h hm]; omega), raw_get R L h hm, raw_get R _ (by rw [layB_length L st bs (by omega)]; exact h) hm, layB_get L st bs (by omega)]
  repeat' split
  all_goals first | rfl | (exfalso; omega)

theorem row_apart : ∀ r ∈ rowsD, r.st + r.wd ≤ 148 ∨ (157 ≤ r.st ∧ r.st + r.wd ≤ 257) ∨ 265 ≤ r.st := by decide

theorem mk_raw {R : RawV} (hR : R.ok) (wide dev : Bool) (hm : 0 ≤ R.m ∧ R.m ≤ 2) (rows : List RowD) : (∀ r ∈ rows, r ∈ rowsD) → ∀ L : List Int, L.length = 512 →
    mkR R wide dev rows (rawB R L) = ((mkR R wide dev rows L).1, if (mkR R wide dev rows L).1 = 0 then rawB R (mkR R wide dev rows L).2 else []) := by
  induction rows with
  | nil => intro _ L _; rw [mkR_nil, mkR_nil, if_pos rfl]
  | cons r t ih =>
    intro hin L hL
    have hr := hin r (List.mem_cons_self ..)
    have ih' := ih (fun x hx => hin x (List.mem_cons_of_mem _ hx))
    cases hi : isInB r.inn R.m dev
    · rw [mkR_out R wide dev r t _ hi, mkR_out R wide dev r t _ hi]
      exact ih' L hL
    · by_cases hc : fldC R wide r = 0
      · obtain ⟨p1, p2, p3, -⟩ := row_places r hr
        have hl := fldL_length hR hr hc
        have hap := row_apart r hr
        rw [mkR_lay R wide dev r t _ hi hc, mkR_lay R wide dev r t _ hi hc, lay_raw R L hL hm _ _ (by rw [hl]; omega) (by rw [hl]; omega)]
        exact ih' _ (by rw [layB_length _ _ _ (by rw [hl]; omega)]; exact hL)
      · rw [mkR_bad R wide dev r t _ hi hc, mkR_bad R wide dev r t _ hi hc]
        simp only
        rw [if_neg hc]

/-- a header without a mark: its flag alone -/
theorem raw_old (R : RawV) (h : R.m = 0) : rawB R zeros = zeros.set 156 R.x := by
  apply List.ext_getElem?
  intro i
  rw [raw_get R zeros zeros_length (by omega), List.getElem?_set, zeros_length, h]
  by_cases h1 : i = 156
  · subst h1; rw [if_pos rfl, if_pos rfl, if_pos (by omega)]
  · rw [if_neg h1, if_neg (c := 156 = i) (by omega)]
    split
    · rfl
    · split
      · have e : nums (markS 0) = List.replicate 8 0 := rfl
        unfold zeros
        rw [e, List.getElem?_replicate, List.getElem?_replicate, if_pos (by omega), if_pos (by omega)]
      · rfl

/-- what the document lays, from its own beginning on -/
theorem make_doc {R : RawV} (hR : R.ok) (wide dev : Bool) (hm : 0 ≤ R.m ∧ R.m ≤ 2) (hf : flagB R.x = true) :
    makeC R wide dev = (mkR R wide dev rowsD (rawB R zeros)).1 ∧ makeL R wide dev = if (mkR R wide dev rowsD (rawB R zeros)).1 = 0 then sealL (mkR R wide dev rowsD (rawB R zeros)).2 else [] := by
  have hc : makeC R wide dev = (mkR R wide dev rowsD zeros).1 := by unfold makeC; rw [if_neg (by simpa using hm), if_neg (by simp [hf])]
  have h := mk_raw hR wide dev hm rowsD (fun _ h => h) zeros zeros_length
  unfold makeL
  rw [hc, h]
  refine ⟨rfl, ?_⟩
  simp only
  by_cases h0 : (mkR R wide dev rowsD zeros).1 = 0
  · rw [if_pos h0, if_pos h0, if_pos h0]
  · rw [if_neg h0, if_neg h0]

end Go.Proofs.Ytgjbopbpekocpaa
