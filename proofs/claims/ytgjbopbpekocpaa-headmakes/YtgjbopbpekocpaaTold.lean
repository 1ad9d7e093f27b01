/-
  What is sealed is checked Fine, on lists of bytes.
-/
import Derived.Test.YtgjbopbpekocpaaSeal
namespace Go.Proofs.Ytgjbopbpekocpaa
open Go.ChangeShapes Go.WideShapes Go.ChangeAt Go.RowKit
set_option linter.unusedVariables false
set_option maxRecDepth 20000

theorem pl_app (A : List Int) : ∀ (i : Nat) (B : List Int), pl i (A ++ B) = pl i A + pl (i + A.length) B := by
  induction A with
  | nil => intro i B; simp [pl]
  | cons c t ih =>
    intro i B
    rw [List.cons_append, pl, pl, ih, List.length_cons, show i + (t.length + 1) = i + 1 + t.length by omega]
    omega

theorem pl_field (F : List Int) : ∀ i, 148 ≤ i → i + F.length ≤ 156 → pl i F = 32 * F.length := by
  induction F with
  | nil => intro i _ _; rfl
  | cons c t ih =>
    intro i h1 h2
    rw [List.length_cons] at h2
    rw [pl, ih (i + 1) (by omega) (by omega), cnt, if_pos ⟨h1, by omega⟩, List.length_cons]
    omega

theorem pl_seal (l : List Int) (h : l.length = 512) : pl 0 (sealL l) = pl 0 l := by
  have e : l = l.take 148 ++ ((l.drop 148).take 8 ++ l.drop 156) := by
    have : l.drop 156 = (l.drop 148).drop 8 := by rw [List.drop_drop]
    rw [this, List.take_append_drop, List.take_append_drop]
  have hA : (l.take 148).length = 148 := by rw [List.length_take, h]; rfl
  have hF : ((l.drop 148).take 8).length = 8 := by rw [List.length_take, List.length_drop, h]; rfl
  have hG : (lets (pl 0 l) 6 ++ [0, 32]).length = 8 := by rw [List.length_append, lets_length]; rfl
  have e2 : sealL l = l.take 148 ++ ((lets (pl 0 l) 6 ++ [0, 32]) ++ l.drop 156) := by simp [sealL]
  rw [e2]
  generalize lets (pl 0 l) 6 ++ [0, 32] = G at *
  conv => rhs; rw [e]
  rw [pl_app, pl_app, pl_app, pl_app, hA, hF, hG, pl_field G _ (by omega) (by omega), pl_field (List.take 8 _) _ (by omega) (by omega), hF, hG]

theorem pl_set (l : List Int) : ∀ (i j : Nat) (c : Int), j < l.length → pl i (l.set j c) = pl i l + cnt (i + j) c - cnt (i + j) (l.getD j 0) := by
  induction l with
  | nil => intro i j c h; simp at h
  | cons x t ih =>
    intro i j c h
    cases j with
    | zero => simp [pl]; omega
    | succ j =>
      rw [List.set_cons_succ, pl, pl, ih (i + 1) j c (by simpa using h), show i + 1 + j = i + (j + 1) by omega]
      simp only [List.getD_cons_succ]
      omega

theorem octal_told (n : Int) (h0 : 0 ≤ n) (h1 : n ≤ 130560) : octal (lets n 6 ++ [0, 32]) = some n := by
  obtain ⟨c, t, e, hc⟩ := lets_head n 6 (by omega)
  have hd : (lets n 6 ++ [0, 32]).dropWhile (· == 32) = lets n 6 ++ [0, 32] := by
    rw [e, List.cons_append, List.dropWhile_cons, if_neg (by simp; omega)]
  have ho : oct 0 ((lets n 6 ++ [0, 32]).dropWhile (· == 32)) = some (n, [0, 32]) := by
    rw [hd, oct_lets 6 n _ h0 (by omega) (by omega)]
    rfl
  rw [octal_of ho]
  rfl

theorem seal_field (l : List Int) (h : l.length = 512) : ((sealL l).drop 148).take 8 = lets (pl 0 l) 6 ++ [0, 32] := by
  have e2 : sealL l = l.take 148 ++ ((lets (pl 0 l) 6 ++ [0, 32]) ++ l.drop 156) := by simp [sealL]
  rw [e2, List.drop_left' (by rw [List.length_take, h]; rfl), List.take_left' (by rw [List.length_append, lets_length]; rfl)]

theorem seal_ahead (l : List Int) (h : l.length = 512) : (sealL l).take 148 = l.take 148 := by
  rw [sealL, List.append_assoc, List.take_left' (by rw [List.length_take, h]; rfl)]

theorem seal_behind (l : List Int) (h : l.length = 512) : (sealL l).drop 156 = l.drop 156 := by
  have e2 : sealL l = (l.take 148 ++ (lets (pl 0 l) 6 ++ [0, 32])) ++ l.drop 156 := by simp [sealL]
  rw [e2, List.drop_left' (by rw [List.length_append, List.length_append, List.length_take, lets_length, h]; rfl)]

theorem chk_seal (l : List Int) (h : l.length = 512) (hp0 : 0 ≤ pl 0 l) (hp1 : pl 0 l ≤ 130560) : chk (sealL l) = 0 := by
  rw [chk_some (seal_length l h) (by rw [seal_field l h, octal_told _ hp0 hp1]), pl_seal l h, if_neg (by simp)]

theorem field_set (l : List Int) (j : Nat) (c : Int) (hj : ¬ (148 ≤ j ∧ j < 156)) : ((l.set j c).drop 148).take 8 = (l.drop 148).take 8 := by
  by_cases h : j < 148
  · rw [List.drop_set_of_lt h]
  · rw [List.drop_set, if_neg h, List.take_set_of_le (by omega)]

theorem chk_other (l : List Int) (j : Nat) (c : Int) (h : l.length = 512) (hj : j < 512) (hout : ¬ (148 ≤ j ∧ j < 156)) (hp0 : 0 ≤ pl 0 l) (hp1 : pl 0 l ≤ 130560)
    (hne : c ≠ (sealL l).getD j 0) (hs : sn 0 ((sealL l).set j c) ≠ pl 0 l) : chk ((sealL l).set j c) = 4 := by
  have hl := seal_length l h
  rw [chk_some (by rw [List.length_set]; exact hl) (by rw [field_set _ _ _ hout, seal_field l h, octal_told _ hp0 hp1]), pl_set _ _ _ _ (by rw [hl]; exact hj), pl_seal l h, Nat.zero_add, cnt, cnt, if_neg hout, if_neg hout, if_pos]
  exact ⟨by omega, fun e => hs e.symm⟩

theorem set_same (l : List Int) (j : Nat) (h : j < l.length) : l.set j (l.getD j 0) = l := by
  apply List.ext_getElem
  · simp
  · intro i h1 h2
    rw [List.getElem_set]
    split
    · rename_i e; subst e; simp [h]
    · rfl

end Go.Proofs.Ytgjbopbpekocpaa
