/-
  WHERE A NAME MAY BE CUT, AS A FUNCTION OF ITS BYTES. Nothing of the program. No condition.
-/
import Derived.Test.YtbkgbnjiibhmhaaStrs
namespace Go.Proofs.Ytbkgbnjiibhmhaa
open Go.ChangeShapes Go.WideShapes Go.ChangeAt Go.RowKit
set_option linter.unusedVariables false
set_option linter.unusedSimpArgs false

/-- a cut of a name -/
def cutB (l : List Int) (i : Nat) : Bool := decide (l.getD i 0 = 47 ∧ 1 ≤ i ∧ i ≤ 155 ∧ i + 2 ≤ l.length ∧ l.length ≤ i + 101)
/-- the cuts ahead of a place -/
def cutsTo (l : List Int) (e : Nat) : List Nat := (List.range e).filter (cutB l)
/-- the last of them -/
def lastC (l : List Int) (e : Nat) : Nat := (cutsTo l e).getLastD 0
def oneC (k : Nat) : List Nat := if k = 0 then [] else [k]

theorem cutB_iff {l : List Int} {i : Nat} : cutB l i = true ↔ l.getD i 0 = 47 ∧ 1 ≤ i ∧ i ≤ 155 ∧ i + 2 ≤ l.length ∧ l.length ≤ i + 101 := by unfold cutB; simp
theorem cutB_not {l : List Int} {i : Nat} (h : ¬ (l.getD i 0 = 47 ∧ 1 ≤ i ∧ i ≤ 155 ∧ i + 2 ≤ l.length ∧ l.length ≤ i + 101)) : cutB l i = false := by
  cases hc : cutB l i
  · rfl
  · exact absurd (cutB_iff.1 hc) h
theorem cutsTo_zero (l : List Int) : cutsTo l 0 = [] := rfl
theorem cutsTo_yes {l : List Int} {e : Nat} (h : cutB l e = true) : cutsTo l (e + 1) = cutsTo l e ++ [e] := by
  unfold cutsTo; rw [List.range_succ, List.filter_append]; simp [h]
theorem cutsTo_no {l : List Int} {e : Nat} (h : cutB l e = false) : cutsTo l (e + 1) = cutsTo l e := by
  unfold cutsTo; rw [List.range_succ, List.filter_append]; simp [h]
theorem lastC_yes {l : List Int} {e : Nat} (h : cutB l e = true) : lastC l (e + 1) = e := by unfold lastC; rw [cutsTo_yes h]; simp
theorem lastC_no {l : List Int} {e : Nat} (h : cutB l e = false) : lastC l (e + 1) = lastC l e := by unfold lastC; rw [cutsTo_no h]
theorem cutsTo_none {l : List Int} {e : Nat} (h : ∀ i, i < e → cutB l i = false) : cutsTo l e = [] := by
  unfold cutsTo
  rw [List.filter_eq_nil_iff]
  intro i hi
  rw [h i (List.mem_range.1 hi)]
  simp
theorem lastC_none {l : List Int} {e : Nat} (h : ∀ i, i < e → cutB l i = false) : lastC l e = 0 := by unfold lastC; rw [cutsTo_none h]; rfl
theorem lastC_is (l : List Int) : ∀ e, lastC l e = 0 ∨ (cutB l (lastC l e) = true ∧ lastC l e < e)
  | 0 => .inl rfl
  | e + 1 => by
    cases h : cutB l e
    · rw [lastC_no h]
      rcases lastC_is l e with h' | ⟨h1, h2⟩
      · exact .inl h'
      · exact .inr ⟨h1, by omega⟩
    · rw [lastC_yes h]
      exact .inr ⟨h, by omega⟩
theorem cutsTo_last (l : List Int) : ∀ e, cutsTo l e = cutsTo l (lastC l e) ++ oneC (lastC l e)
  | 0 => rfl
  | e + 1 => by
    cases h : cutB l e
    · rw [lastC_no h, cutsTo_no h]
      exact cutsTo_last l e
    · rw [lastC_yes h, cutsTo_yes h]
      have := (cutB_iff.1 h).2.1
      unfold oneC
      rw [if_neg (by omega)]
theorem lastC_le (l : List Int) (e : Nat) : lastC l e ≤ 155 := by
  rcases lastC_is l e with h | ⟨h, _⟩
  · omega
  · exact (cutB_iff.1 h).2.2.1
theorem lastC_lt (l : List Int) (e : Nat) : lastC l e = 0 ∨ lastC l e < e := by
  rcases lastC_is l e with h | ⟨_, h⟩
  · exact .inl h
  · exact .inr h
theorem cutsTo_len (l : List Int) (e : Nat) : (cutsTo l e).length ≤ e := by
  have := List.length_filter_le (cutB l) (List.range e)
  simpa [cutsTo] using this
theorem cutsTo_mem {l : List Int} {e i : Nat} : i ∈ cutsTo l e ↔ i < e ∧ cutB l i = true := by
  unfold cutsTo; rw [List.mem_filter, List.mem_range]

/-- numbers as the program has them -/
def natI (l : List Nat) : List Int := l.map Int.ofNat
theorem natI_app (a b : List Nat) : natI (a ++ b) = natI a ++ natI b := by simp [natI]
theorem natI_rev (a : List Nat) : natI a.reverse = (natI a).reverse := by simp [natI]
theorem natI_len (a : List Nat) : (natI a).length = a.length := by simp [natI]

/-! ### the row of numbers -/

def i64s (l : List Int) : List Value := l.map (Value.int .i64)
theorem i64s_get (l : List Int) (j : Nat) (h : j < l.length) : (i64s l)[j]? = some (.int .i64 (l.getD j 0)) := by unfold i64s; simp [h]
theorem i64s_more {w : World} {B n : Nat} {v : Value} {l : List Int} {x : Int} (h : w.ownsRow B 3 1 v n (i64s l ++ [.int .i64 x])) : w.ownsRow B 3 1 v n (i64s (l ++ [x])) := by
  rw [show i64s (l ++ [x]) = i64s l ++ [.int .i64 x] by simp [i64s]]; exact h
theorem one_i64 (v : Int) : ∀ u ∈ [Value.int .i64 v], u.oneCell' = true := by intro u hu; simp at hu; subst hu; rfl

/-- a row of numbers, as a reader meets it -/
theorem ints_cases {w : World} {B : Nat} {v : Value} {l : List Int} (h : w.ownsRow B 3 1 v l.length (i64s l)) :
    (l = [] ∧ ∃ a c, v = .slice a 0 c) ∨ (0 < l.length ∧ ∃ g c, v = .slice (some ⟨g, 0, none⟩) l.length c ∧ ∀ i, i < l.length → w.cell? ⟨g, i, none⟩ = some (.int .i64 (l.getD i 0))) := by
  rcases Nat.eq_zero_or_pos l.length with h0 | h0
  · have hl : l = [] := by simpa using h0
    subst hl
    refine .inl ⟨rfl, ?_⟩
    rcases h.2 with ⟨hv, _⟩ | ⟨g, cap, cur, hv, _⟩
    · exact ⟨_, _, hv⟩
    · exact ⟨_, _, hv⟩
  · obtain ⟨g, c, rfl, -⟩ := own_shape h h0
    refine .inr ⟨h0, g, c, rfl, fun i hi => ?_⟩
    rw [h.cellAt i (by omega), i64s_get _ _ hi]

theorem drop_get (l : List Int) (i : Nat) (h : i < l.length) : l.drop i = l.getD i 0 :: l.drop (i + 1) := by
  rw [List.drop_eq_getElem_cons h]; simp [h]

end Go.Proofs.Ytbkgbnjiibhmhaa
