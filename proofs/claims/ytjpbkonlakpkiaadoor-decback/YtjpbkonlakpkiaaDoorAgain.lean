/-
  What is printed is read; no text of that number or time has fewer bytes: of lists of bytes, no model in this text.
  Conditions: those that each theorem names.
-/
import Derived.Test.YtjpbkonlakpkiaaDoorPads
namespace Go.Proofs.YtjpbkonlakpkiaaDoor
open Go.Lib

theorem ahead_hit' (l : List UInt8) : ahead (46 :: l) = [] := by unfold ahead; rw [List.takeWhile_cons]; rfl
theorem digit_ne46 {c : UInt8} (h : isD c = true) : (c != 46) = true := by
  rw [isD_iff] at h
  simp only [bne_iff_ne, ne_eq]
  rintro rfl
  have : (46 : UInt8).toNat = 46 := rfl
  omega
theorem ahead_app {a : List UInt8} (h : allD a = true) (b : List UInt8) : ahead (a ++ b) = a ++ ahead b := by
  induction a with
  | nil => rfl
  | cons c r ih =>
    rw [allD_cons, Bool.and_eq_true] at h
    unfold ahead at *
    rw [List.cons_append, List.takeWhile_cons, if_pos (digit_ne46 h.1), ih h.2]
    rfl
theorem behind_app {a : List UInt8} (h : allD a = true) (b : List UInt8) : behind (a ++ b) = behind b := by
  induction a with
  | nil => rfl
  | cons c r ih =>
    rw [allD_cons, Bool.and_eq_true] at h
    unfold behind at *
    rw [List.cons_append, List.dropWhile_cons, if_pos (digit_ne46 h.1), ih h.2]
theorem pointed_app {a : List UInt8} (h : allD a = true) (b : List UInt8) : pointed (a ++ b) = pointed b := by
  induction a with
  | nil => rfl
  | cons c r ih =>
    rw [allD_cons, Bool.and_eq_true] at h
    unfold pointed at *
    have hc : ((46 : UInt8) == c) = false := by
      have := digit_ne46 h.1
      cases h' : ((46 : UInt8) == c)
      · rfl
      · rw [← eq_of_beq h'] at this; simp at this
    rw [List.cons_append, List.contains_cons, ih h.2, hc, Bool.false_or]

theorem billion_tl {p : Nat} (h0 : p ≠ 0) (h9 : p < 1000000000) : billion (tl 9 p) = some p := by
  have hp : p < 10 ^ 9 := by omega
  have hl : 1 ≤ (tl 9 p).length := by
    have := tl_ne hp h0
    cases h : tl 9 p with
    | nil => exact absurd h this
    | cons c r => simp
  unfold billion
  rw [if_pos ⟨tl_allD 9 p hp, hl, tl_len 9 p⟩, tl_val 9 p hp]

/-- Seconds and billionths, printed behind the sign, are read. -/
theorem value_back {u p : Nat} (hu : u ≤ 9223372036854775808) (hp : p < 1000000000) : valueOf (decDigits u ++ tail9 p) = some (u, p) := by
  have hd := dec_allD u
  rw [tail9_eq hp]
  by_cases h0 : p = 0
  · rw [if_pos h0]
    unfold valueOf
    rw [ahead_app hd, pointed_app hd, show ahead [] = [] from rfl, List.append_nil, nat63_dec hu, show pointed [] = false from rfl, h0]
    rfl
  · rw [if_neg h0]
    unfold valueOf
    rw [ahead_app hd, pointed_app hd, behind_app hd, ahead_hit', List.append_nil, nat63_dec hu, show pointed (46 :: tl 9 p) = true from rfl, show behind (46 :: tl 9 p) = tl 9 p from rfl, billion_tl h0 hp]
    rfl

theorem head_dec (u : Nat) (b : List UInt8) : ¬ (decDigits u ++ b).head? = some 45 := by
  intro h
  have hd := dec_allD u
  cases hu : decDigits u with
  | nil => exact dec_ne u hu
  | cons c r =>
    rw [hu, allD_cons, Bool.and_eq_true, isD_iff] at hd
    rw [hu] at h
    simp only [List.cons_append, List.head?_cons, Option.some.injEq] at h
    rw [h] at hd
    have : (45 : UInt8).toNat = 45 := rfl
    omega

/-- What is printed is read. -/
theorem time_back {a b : Int} (ha0 : -9223372036854775808 ≤ a) (ha1 : a ≤ 9223372036854775807) (h0 : 0 ≤ b) (h1 : b < 1000000000) : timeOf (printOf a b) = some (a, b) := by
  have hP : partOf a b < 1000000000 := by unfold partOf; split <;> omega
  have hW : wholeOf a b ≤ 9223372036854775808 := by unfold wholeOf; split <;> omega
  have hv := value_back hW hP
  unfold timeOf printOf signOf
  by_cases hn : a < 0
  · rw [if_pos hn]
    have e : [45] ++ decDigits (wholeOf a b) ++ tail9 (partOf a b) = 45 :: (decDigits (wholeOf a b) ++ tail9 (partOf a b)) := by simp
    rw [e]
    simp only [List.head?_cons, if_true, List.tail_cons]
    rw [hv]
    simp only
    unfold underOf
    by_cases hb : 0 < b
    · have e1 : wholeOf a b = a.natAbs - 1 := by unfold wholeOf; rw [if_pos ⟨hn, hb⟩]
      have e2 : partOf a b = (1000000000 - b).toNat := by unfold partOf; rw [if_pos ⟨hn, hb⟩]
      rw [e1, e2, if_pos (by omega), if_neg (by omega)]
      congr 2 <;> omega
    · have e1 : wholeOf a b = a.natAbs := by unfold wholeOf; rw [if_neg (by omega)]
      have e2 : partOf a b = b.toNat := by unfold partOf; rw [if_neg (by omega)]
      rw [e1, e2, if_neg (by omega), if_neg (by omega)]
      congr 2 <;> omega
  · rw [if_neg hn]
    have e : [] ++ decDigits (wholeOf a b) ++ tail9 (partOf a b) = decDigits (wholeOf a b) ++ tail9 (partOf a b) := by simp
    rw [e, if_neg (head_dec _ _), hv]
    simp only
    rw [if_neg (head_dec _ _)]
    have e1 : wholeOf a b = a.natAbs := by unfold wholeOf; rw [if_neg (by omega)]
    have e2 : partOf a b = b.toNat := by unfold partOf; rw [if_neg (by omega)]
    rw [e1, e2, if_neg (by omega)]
    congr 2 <;> omega

/-- A number's own text is read as that number. -/
theorem number_back {u : Nat} (h : u ≤ 9223372036854775807) : nat63 (decDigits u) = some u := nat63_dec (by omega)

theorem cut_length (l : List UInt8) (h : pointed l = true) : (ahead l).length + 1 + (behind l).length = l.length := by
  induction l with
  | nil => cases h
  | cons c r ih =>
    by_cases hc : c = 46
    · subst hc
      rw [ahead_hit', show behind (46 :: r) = r from rfl]
      simp
      omega
    · have hb : (c != 46) = true := by simpa [bne] using hc
      have hf : ((46 : UInt8) == c) = false := by
        cases h' : ((46 : UInt8) == c)
        · rfl
        · exact absurd (eq_of_beq h').symm hc
      unfold pointed at h
      rw [List.contains_cons, hf, Bool.false_or] at h
      have := ih h
      have e1 : ahead (c :: r) = c :: ahead r := by unfold ahead; rw [List.takeWhile_cons, if_pos hb]
      have e2 : behind (c :: r) = behind r := by unfold behind; rw [List.dropWhile_cons, if_pos hb]
      rw [e1, e2, List.length_cons, List.length_cons]
      omega

/-- What stands for seconds and billionths has no fewer bytes than their own text. -/
theorem value_short {l : List UInt8} {u p : Nat} (h : valueOf l = some (u, p)) : (decDigits u ++ tail9 p).length ≤ l.length ∧ u ≤ 9223372036854775808 ∧ p < 1000000000 := by
  unfold valueOf at h
  cases hn : nat63 (ahead l) with
  | none => rw [hn] at h; cases h
  | some u' =>
    rw [hn] at h
    simp only at h
    obtain ⟨hne, hd, _, hv, hm⟩ := nat63_some hn
    have hs := dec_shortest hne hd
    rw [hv] at hs
    by_cases hpt : pointed l = true
    · rw [if_pos hpt] at h
      cases hb : billion (behind l) with
      | none => rw [hb] at h; cases h
      | some p' =>
        rw [hb] at h
        simp only [Option.map_some, Option.some.injEq, Prod.mk.injEq] at h
        obtain ⟨rfl, rfl⟩ := h
        unfold billion at hb
        split at hb
        · rename_i hh
          obtain ⟨hbd, hb1, hb9⟩ := hh
          injection hb with hb
          have hlt := val_lt _ hbd
          have hpow : 10 ^ (behind l).length * 10 ^ (9 - (behind l).length) = 1000000000 := by
            rw [← Nat.pow_add, show (behind l).length + (9 - (behind l).length) = 9 by omega]
          have hp9 : p' < 1000000000 := by
            rw [← hb, ← hpow]
            exact Nat.mul_lt_mul_of_pos_right hlt (Nat.pow_pos (by omega))
          refine ⟨?_, hm, hp9⟩
          have hcl := cut_length l hpt
          rw [List.length_append, tail9_eq hp9]
          by_cases h0 : p' = 0
          · rw [if_pos h0]; simp; omega
          · rw [if_neg h0, List.length_cons]
            have := tl_shortest 9 (behind l).length p' hb9 (by omega) ⟨val 0 (behind l), by rw [← hb, Nat.mul_comm]⟩
            omega
        · cases hb
    · rw [if_neg hpt] at h
      simp only [Option.some.injEq, Prod.mk.injEq] at h
      obtain ⟨rfl, rfl⟩ := h
      refine ⟨?_, hm, by omega⟩
      have hal : (ahead l).length ≤ l.length := (List.takeWhile_prefix _).length_le
      rw [tail9_eq (by omega), if_pos rfl, List.append_nil]
      omega

/-- No text that is read as a time has fewer bytes than the time's own one; and that time is right. -/
theorem time_short {l : List UInt8} {a b : Int} (h : timeOf l = some (a, b)) : (printOf a b).length ≤ l.length ∧ -9223372036854775808 ≤ a ∧ a ≤ 9223372036854775807 ∧ 0 ≤ b ∧ b < 1000000000 := by
  unfold timeOf at h
  cases hv : valueOf (if l.head? = some 45 then l.tail else l) with
  | none => rw [hv] at h; cases h
  | some q =>
    obtain ⟨u, p⟩ := q
    rw [hv] at h
    simp only at h
    obtain ⟨hs, hu, hp⟩ := value_short hv
    rw [List.length_append] at hs
    by_cases hm : l.head? = some 45
    · rw [if_pos hm] at h hs
      have hl : l.tail.length + 1 = l.length := by
        cases l with
        | nil => cases hm
        | cons c r => rfl
      unfold underOf at h
      unfold printOf signOf
      by_cases hp0 : 0 < p
      · rw [if_pos hp0] at h
        by_cases hb : 9223372036854775808 < u + 1
        · rw [if_pos hb] at h; cases h
        · rw [if_neg hb] at h
          simp only [Option.some.injEq, Prod.mk.injEq] at h
          obtain ⟨rfl, rfl⟩ := h
          have e1 : wholeOf (-((u : Int) + 1)) (1000000000 - (p : Int)) = u := by unfold wholeOf; rw [if_pos (by omega)]; omega
          have e2 : partOf (-((u : Int) + 1)) (1000000000 - (p : Int)) = p := by unfold partOf; rw [if_pos (by omega)]; omega
          rw [e1, e2, if_pos (by omega)]
          refine ⟨?_, by omega, by omega, by omega, by omega⟩
          simp only [List.length_append, List.length_cons, List.length_nil]
          omega
      · rw [if_neg hp0, if_neg (by omega)] at h
        simp only [Option.some.injEq, Prod.mk.injEq] at h
        obtain ⟨rfl, rfl⟩ := h
        obtain rfl : p = 0 := by omega
        have e1 : wholeOf (-(u : Int)) ((0 : Nat) : Int) = u := by unfold wholeOf; rw [if_neg (by omega)]; omega
        have e2 : partOf (-(u : Int)) ((0 : Nat) : Int) = 0 := by unfold partOf; rw [if_neg (by omega)]; omega
        rw [e1, e2]
        refine ⟨?_, by omega, by omega, by omega, by omega⟩
        split
        · simp only [List.length_append, List.length_cons, List.length_nil]; omega
        · simp only [List.length_append, List.length_nil]; omega
    · rw [if_neg hm] at h hs
      by_cases hb : 9223372036854775807 < u
      · rw [if_pos hb] at h; cases h
      · rw [if_neg hb] at h
        simp only [Option.some.injEq, Prod.mk.injEq] at h
        obtain ⟨rfl, rfl⟩ := h
        unfold printOf signOf
        have e1 : wholeOf (u : Int) (p : Int) = u := by unfold wholeOf; rw [if_neg (by omega)]; omega
        have e2 : partOf (u : Int) (p : Int) = p := by unfold partOf; rw [if_neg (by omega)]; omega
        rw [e1, e2, if_neg (by omega)]
        refine ⟨?_, by omega, by omega, by omega, by omega⟩
        simp only [List.length_append, List.length_nil]
        omega

end Go.Proofs.YtjpbkonlakpkiaaDoor
