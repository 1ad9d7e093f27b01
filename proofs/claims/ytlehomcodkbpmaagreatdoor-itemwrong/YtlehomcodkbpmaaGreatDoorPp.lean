/-
  PAIRS THAT ARE RIGHT, on lists of bytes; the byte that a text has. No condition.
-/
import Derived.Test.YtlehomcodkbpmaaGreatDoorTim
import Derived.Test.YtlehomcodkbpmaaGreatDoorUtf
import Derived.Lib.IndexAny
namespace Go.Proofs.YtlehomcodkbpmaaGreatDoor
open Go.ChangeShapes Go.WideShapes Go.ChangeAt Go.RowKit Go.Lib
set_option linter.unusedVariables false
set_option maxRecDepth 20000

/-- has a text a byte? -/
def has (c : UInt8) (l : List UInt8) : Bool := decide (c ∈ l)
/-- is it a number's text, a time's? -/
def isNum (l : List UInt8) : Bool := match nat63 l with | some u => decide (u ≤ 9223372036854775807) | none => false
def isTim (l : List UInt8) : Bool := (timeOf l).isSome

/-- the known keys, by their kinds -/
def keysN : List (List UInt8) := [[112, 97, 116, 104], [108, 105, 110, 107, 112, 97, 116, 104], [117, 110, 97, 109, 101], [103, 110, 97, 109, 101]]
def keysU : List (List UInt8) := [[117, 105, 100], [103, 105, 100], [115, 105, 122, 101]]
def keysT : List (List UInt8) := [[109, 116, 105, 109, 101]]
def kindK (k : List UInt8) : Int := if k ∈ keysN then 1 else if k ∈ keysU then 2 else if k ∈ keysT then 3 else 0
/-- may a value of a kind be so? -/
def holdK (k : Int) (v : List UInt8) : Bool := if k = 1 then !has 0 v else if k = 2 then isNum v else if k = 3 then isTim v else true
/-- is a key right? -/
def keyR (k : List UInt8) : Bool := decide (k ≠ []) && (!(has 61 k || has 0 k) && decide (firstL k < 0))
/-- is a pair right? -/
def rightP (k v : List UInt8) : Bool := keyR k && decide (firstL v < 0) && (decide (v = []) || holdK (kindK k) v)

theorem kindK_is (k : List UInt8) : kindK k = 0 ∨ kindK k = 1 ∨ kindK k = 2 ∨ kindK k = 3 := by
  unfold kindK
  repeat' split
  all_goals simp

theorem indexByte_mem (c : UInt8) : ∀ l : List UInt8, decide (0 ≤ indexByte l c) = has c l
  | [] => by simp [indexByte, has]
  | b :: l => by
    have ih := indexByte_mem c l
    have hge : -1 ≤ indexByte l c := indexByte_ge l c
    unfold has at ih ⊢
    by_cases hb : b = c
    · subst hb; simp [indexByte]
    · have hb' : (b == c) = false := by simpa using hb
      have hb2 : ¬ c = b := fun e => hb e.symm
      by_cases hm : c ∈ l
      · have h0 : 0 ≤ indexByte l c := by simpa [hm] using ih
        have h1 : (indexByte l c == -1) = false := by simp; omega
        simp [indexByte, hb', h1, hm]; omega
      · have h0 : ¬ 0 ≤ indexByte l c := by simpa [hm] using ih
        have h1 : indexByte l c = -1 := by omega
        simp [indexByte, hb', h1, hm, hb2]

theorem indexAny_mem : ∀ l : List UInt8, decide (0 ≤ indexAny l [61, 0]) = (has 61 l || has 0 l)
  | [] => by simp [indexAny, has]
  | b :: l => by
    have ih := indexAny_mem l
    have hge := indexAny_ge [61, 0] l
    unfold has at ih ⊢
    by_cases hb : b = 61 ∨ b = 0
    · rcases hb with rfl | rfl <;> simp [indexAny]
    · have hb' : ([61, 0] : List UInt8).contains b = false := by simpa using hb
      have hb1 : ¬ (61 : UInt8) = b := fun e => hb (.inl e.symm)
      have hb2 : ¬ (0 : UInt8) = b := fun e => hb (.inr e.symm)
      by_cases hm : 61 ∈ l ∨ 0 ∈ l
      · have h0 : 0 ≤ indexAny l [61, 0] := by
          have e : (decide ((61 : UInt8) ∈ l) || decide ((0 : UInt8) ∈ l)) = true := by simpa using hm
          rw [e] at ih
          exact of_decide_eq_true ih
        have h1 : (indexAny l [61, 0] == -1) = false := by simp; omega
        simp only [indexAny, hb', h1]
        rcases hm with hm | hm <;> simp [hm] <;> omega
      · have h2 : ¬ (61 : UInt8) ∈ l := fun e => hm (.inl e)
        have h3 : ¬ (0 : UInt8) ∈ l := fun e => hm (.inr e)
        have h0 : ¬ 0 ≤ indexAny l [61, 0] := by
          rw [decide_eq_false h2, decide_eq_false h3] at ih
          exact of_decide_eq_false ih
        have h1 : indexAny l [61, 0] = -1 := by omega
        simp only [indexAny, hb', h1]
        simp [h2, h3, hb1, hb2]

theorem str_is (s : ByteArray) (l : List UInt8) : (s.toList == l) = decide (bs s = l) := by
  rw [toList_data, Bool.eq_iff_iff]
  unfold bs
  simp

end Go.Proofs.YtlehomcodkbpmaaGreatDoor
