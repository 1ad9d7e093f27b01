/-
  WHERE PIECES END, AND WHEN A READER STOPS TO ASK: pure. Nothing of the program. No condition.
-/
import Derived.Test.YtfcbiiakhgeogaaSp
namespace Go.Proofs.Ytfcbiiakhgeogaa
set_option linter.unusedVariables false

/-- what is left of the script behind j pieces -/
def zAt (Z : List Int) (j : Nat) : List Int := Z.drop (min j (Z.length - 1))
theorem zAt_zero (Z : List Int) : zAt Z 0 = Z := by simp [zAt]
theorem zAt_next (Z : List Int) (j : Nat) : nxZ (zAt Z j) = zAt Z (j + 1) := by
  unfold nxZ zAt
  rw [List.length_drop]
  split
  · rw [List.drop_drop]; congr 1; omega
  · congr 1; omega
/-- where the first j pieces of n bytes end -/
def eN (n : Nat) (Z : List Int) : Nat → Nat
  | 0 => 0
  | j + 1 => min n (eN n Z j + szN (zAt Z j))
theorem eN_le (n : Nat) (Z : List Int) (j : Nat) : eN n Z j ≤ n := by
  cases j with
  | zero => exact Nat.zero_le _
  | succ j => exact Nat.min_le_left _ _
theorem eN_lt {n : Nat} {Z : List Int} {j : Nat} (h : eN n Z j < n) : eN n Z j < eN n Z (j + 1) := by
  have := szN_pos (zAt Z j)
  show _ < min n (eN n Z j + szN (zAt Z j))
  omega
theorem eN_next (n : Nat) (Z : List Int) (L : List Int) (hn : L.length = n) (j : Nat) : eN n Z (j + 1) = eN n Z j + pieceN (L.drop (eN n Z j)) (zAt Z j) := by
  have := eN_le n Z j
  show min n (eN n Z j + szN (zAt Z j)) = _
  unfold pieceN
  rw [List.length_drop, hn]
  omega
theorem eN_mono {n : Nat} {Z : List Int} {i j : Nat} (h : i ≤ j) : eN n Z i ≤ eN n Z j := by
  induction j with
  | zero => have : i = 0 := by omega
            subst this; exact Nat.le_refl _
  | succ j ih =>
    by_cases hij : i = j + 1
    · subst hij; exact Nat.le_refl _
    · have h1 := ih (by omega)
      have h2 := eN_le n Z j
      show _ ≤ min n (eN n Z j + szN (zAt Z j))
      omega

/-- a reader that has told t blocks and asked for i pieces stops at j -/
structure Stop (n : Nat) (Z : List Int) (t i j : Nat) : Prop where
  le : i ≤ j
  go : ∀ k, i ≤ k → k < j → eN n Z k - 512 * t < 512 ∧ eN n Z k < n
  st : ¬ (eN n Z j - 512 * t < 512 ∧ eN n Z j < n)
theorem Stop.uniq {n : Nat} {Z : List Int} {t i j j' : Nat} (h : Stop n Z t i j) (h' : Stop n Z t i j') : j = j' := by
  rcases Nat.lt_trichotomy j j' with hlt | heq | hgt
  · exact absurd (h'.go j h.le hlt) h.st
  · exact heq
  · exact absurd (h.go j' h'.le hgt) h'.st

/-- what is kept grows by a piece -/
theorem kept_more (L Z : List Int) (j t : Nat) (ht : 512 * t ≤ eN L.length Z j) :
    (L.take (eN L.length Z j)).drop (512 * t) ++ (L.drop (eN L.length Z j)).take (pieceN (L.drop (eN L.length Z j)) (zAt Z j)) = (L.take (eN L.length Z (j + 1))).drop (512 * t) := by
  rw [eN_next L.length Z L rfl j, List.take_add, List.drop_append_of_le_length (by rw [List.length_take, Nat.min_eq_left (eN_le _ _ _)]; exact ht)]

end Go.Proofs.Ytfcbiiakhgeogaa
