/-
  Numbers in fields (from stage 1): Back. No condition.
-/
import Derived.Test.YtgjbopbpekocpaaDigs
import Derived.Test.YtgjbopbpekocpaaRowops
namespace Go.Proofs.Ytgjbopbpekocpaa
open Go.ChangeShapes Go.WideShapes Go.ChangeAt Go.RowKit
set_option linter.unusedVariables false
set_option maxRecDepth 20000

theorem pow_pos' (b : Int) (h : 0 < b) (j : Nat) : 0 < b ^ j := Int.pow_pos h

theorem oct_lets (j : Nat) : ∀ (n : Int) (r : List Int), 0 ≤ n → n < 8 ^ j → n ≤ 9223372036854775807 → oct 0 (lets n j ++ r) = oct n r := by
  induction j with
  | zero => intro n r h0 h1 _; simp at h1; obtain rfl : n = 0 := by omega
            simp [lets, digs]
  | succ j ih =>
    intro n r h0 h1 h2
    rw [lets_succ, List.append_assoc, ih (n / 8) _ (by omega) (by rw [Int.pow_succ] at h1; omega) (by omega)]
    simp only [List.cons_append, List.nil_append, oct]
    rw [if_pos ((dig_iff _).mpr (by omega)), if_neg (by omega)]
    congr 1
    omega

theorem lets_head (n : Int) (j : Nat) (h : 0 < j) : ∃ c t, lets n j = c :: t ∧ 48 ≤ c ∧ c ≤ 55 := by
  have hl := lets_length n j
  match e : lets n j, hl with
  | [], h => simp at h; omega
  | c :: t, _ => exact ⟨c, t, rfl, lets_range n j c (by rw [e]; simp)⟩

theorem octal_lets (n : Int) (j : Nat) (r : List Int) (hj : 0 < j) (h0 : 0 ≤ n) (h1 : n < 8 ^ j) (h2 : n ≤ 9223372036854775807) (hr : r = [] ∨ r = [0]) : octal (lets n j ++ r) = some n := by
  obtain ⟨c, t, e, hc⟩ := lets_head n j hj
  have hd : (lets n j ++ r).dropWhile (· == 32) = lets n j ++ r := by
    rw [e, List.cons_append, List.dropWhile_cons, if_neg (by simp; omega)]
  have ho : oct 0 ((lets n j ++ r).dropWhile (· == 32)) = some (n, r) := by
    rw [hd, oct_lets j n r h0 h1 h2]
    rcases hr with rfl | rfl
    · rfl
    · rfl
  rw [octal_of ho]
  rcases hr with rfl | rfl <;> rfl

theorem most_lt (n : Int) (j : Nat) (hj : 1 ≤ j) (h : n ≤ most j) (h2 : n ≤ 9223372036854775807) : n < 8 ^ j := by
  unfold most at h
  rw [if_neg (by omega)] at h
  split at h
  · have h21 := pow_le_of (B := 8) (by omega) (i := 21) (k := j) (by omega)
    have : (8 : Int) ^ 21 = 9223372036854775808 := by decide
    have h3 : ((8 : Nat) : Int) = 8 := rfl
    rw [h3] at h21
    omega
  · simp at h; omega

theorem got_octB (n : Int) (k : Nat) (hk : 2 ≤ k) (h0 : 0 ≤ n) (h1 : n ≤ most k) (h2 : n ≤ 9223372036854775807) : got (octB n k) = some n := by
  have key : ∃ j r, 0 < j ∧ octB n k = lets n j ++ r ∧ n < 8 ^ j ∧ (r = [] ∨ r = [0]) := by
    unfold octB
    split
    · rename_i h
      refine ⟨k - 1, [0], by omega, rfl, most_lt n (k - 1) (by omega) ?_ h2, .inr rfl⟩
      rw [show ((k - 1 : Nat) : Int) = (k : Int) - 1 by omega]; exact h
    · exact ⟨k, [], by omega, by simp, most_lt n k (by omega) h1 h2, .inl rfl⟩
  obtain ⟨j, r, hj, e, hlt, hr⟩ := key
  obtain ⟨c, t, e', hc⟩ := lets_head n j hj
  rw [e, got, e', List.cons_append, if_neg (by simp; omega), ← List.cons_append, ← e']
  exact octal_lets n j r hj h0 hlt h2 hr

theorem wid_digs (j : Nat) : ∀ (n : Int) (r : List Int), 0 ≤ n → n < 256 ^ j → n ≤ 9223372036854775807 → wid false 0 (digs 256 n j ++ r) = wid false n r := by
  induction j with
  | zero => intro n r h0 h1 _; simp at h1; obtain rfl : n = 0 := by omega
            simp [digs]
  | succ j ih =>
    intro n r h0 h1 h2
    rw [digs, List.append_assoc, ih (n / 256) _ (by omega) (by rw [Int.pow_succ] at h1; omega) (by omega)]
    simp only [List.cons_append, List.nil_append, wid]
    rw [if_neg (by omega)]
    congr 1
    simp
    omega

theorem wid_flip (l : List Int) : ∀ m, wid true m l = wid false m (l.map (255 - ·)) := by
  induction l with
  | nil => intro m; rfl
  | cons c t ih =>
    intro m
    simp only [wid, List.map_cons]
    split
    · rfl
    · rw [ih]; rfl

theorem digs_flip (k : Nat) : ∀ n : Int, digs 256 (-(n + 1)) k = (digs 256 n k).map (255 - ·) := by
  induction k with
  | zero => intro n; rfl
  | succ k ih =>
    intro n
    rw [digs, digs, List.map_append, ← ih, show -(n + 1) / 256 = -(n / 256 + 1) by omega]
    simp
    omega

theorem fit_lt (n : Int) (q : Nat) (h : fit n (q + 1) = true) (h3 : -9223372036854775808 ≤ n) (h4 : n ≤ 9223372036854775807) : -256 ^ q ≤ n ∧ n < 256 ^ q := by
  simp only [fit, Nat.add_sub_cancel, Bool.and_eq_true, decide_eq_true_eq] at h
  have e : (2 : Int) ^ (8 * q) = 256 ^ q := by rw [Int.pow_mul]; rfl
  by_cases hq : 8 * q ≤ 64
  · rw [Nat.min_eq_left hq, e] at h; exact h
  · have h8 := pow_le_of (B := 256) (by omega) (i := 8) (k := q) (by omega)
    have : (256 : Int) ^ 8 = 18446744073709551616 := by decide
    have h3 : ((256 : Nat) : Int) = 256 := rfl
    rw [h3] at h8
    omega

theorem got_wideB (n : Int) (k : Nat) (hk : 2 ≤ k) (hf : fit n k = true) (h3 : -9223372036854775808 ≤ n) (h4 : n ≤ 9223372036854775807) : got (wideB n k) = some n := by
  obtain ⟨q, rfl⟩ : ∃ q, k = q + 2 := ⟨k - 2, by omega⟩
  have hlt := fit_lt n (q + 1) hf h3 h4
  have hW : isW (wideB n (q + 2)) = true := by
    have hl := digs_length 256 n (q + 1)
    match e : digs 256 n (q + 1), hl with
    | [], h => simp at h
    | d :: t, _ =>
      simp only [wideB, show q + 2 - 1 = q + 1 from rfl, e, isW]
      split <;> rfl
  have hh : (wideB n (q + 2)).headD 0 = if n < 0 then 255 else 128 := rfl
  have ht : (wideB n (q + 2)).tail = digs 256 n (q + 1) := rfl
  unfold got
  rw [hh, if_pos (by split <;> omega), wide, hW, hh, ht]
  by_cases hn : n < 0
  · rw [if_pos rfl, if_pos hn, if_pos rfl, wid_flip, ← digs_flip, ← List.append_nil (digs _ _ _), wid_digs _ _ _ (by omega) (by omega) (by omega)]
    simp [wid]
  · rw [if_pos rfl, if_neg hn, if_neg (by decide), ← List.append_nil (digs _ _ _), wid_digs _ _ _ (by omega) (by omega) (by omega)]
    rfl

theorem put_back (n k : Int) (wd : Bool) (h3 : -9223372036854775808 ≤ n) (h4 : n ≤ 9223372036854775807) :
    (putC n k wd = 0 ∧ got (putL n k wd) = some n ∧ ((putL n k wd).length : Int) = k) ∨ (putC n k wd ≠ 0 ∧ 0 ≤ putC n k wd ∧ putC n k wd ≤ 255 ∧ putL n k wd = []) := by
  unfold putC putL
  by_cases h1 : k < 2 ∨ 32 < k
  · right; rw [if_pos h1, if_pos h1]; simp
  · rw [if_neg h1, if_neg h1]
    have hk : ((k.toNat : Nat) : Int) = k := by omega
    by_cases h2 : 0 ≤ n ∧ n ≤ most k
    · left; rw [if_pos h2, if_pos h2]
      exact ⟨rfl, got_octB n _ (by omega) h2.1 (by rw [hk]; exact h2.2) h4, by rw [octB_length _ _ (by omega)]; exact hk⟩
    · rw [if_neg h2, if_neg h2]
      by_cases hf : (wd && fit n k.toNat) = true
      · left; rw [if_pos hf, if_pos hf]
        have hf' : fit n k.toNat = true := by simp at hf; exact hf.2
        exact ⟨rfl, got_wideB n _ (by omega) hf' h3 h4, by rw [wideB_length _ _ (by omega)]; exact hk⟩
      · right; rw [if_neg hf, if_neg hf]; simp

end Go.Proofs.Ytgjbopbpekocpaa
