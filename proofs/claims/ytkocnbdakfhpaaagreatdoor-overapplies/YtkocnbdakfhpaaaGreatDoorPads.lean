/-
  What is printed is read, and no text of that number or time has fewer bytes: of lists of bytes, no model in this text.
  Conditions: those that each theorem names.
-/
import Derived.Test.YtkocnbdakfhpaaaGreatDoorPlain
namespace Go.Proofs.YtkocnbdakfhpaaaGreatDoor
open Go.Lib

theorem dig_nat {d : Nat} (h : d < 10) : (UInt8.ofNat (48 + d)).toNat = 48 + d := by
  simp [UInt8.toNat_ofNat']; omega
theorem dig_isD {d : Nat} (h : d < 10) : isD (UInt8.ofNat (48 + d)) = true := by rw [isD_iff, dig_nat h]; omega
theorem dec_lt {u : Nat} (h : u < 10) : decDigits u = [UInt8.ofNat (48 + u)] := decDigits_one h
theorem dec_ge {u : Nat} (h : ¬ u < 10) : decDigits u = decDigits (u / 10) ++ [UInt8.ofNat (48 + u % 10)] := by rw [decDigits, dif_neg h]

theorem dec_ne (u : Nat) : decDigits u ≠ [] := by
  intro h
  have := decDigits_length u
  rw [h] at this
  have := nDigits_pos u
  simp at *
  omega

theorem dec_allD : ∀ u, allD (decDigits u) = true := by
  intro u
  induction u using Nat.strongRecOn with
  | _ u ih =>
    by_cases h : u < 10
    · rw [dec_lt h, allD_cons, dig_isD h]; rfl
    · rw [dec_ge h, allD_app, ih (u / 10) (by omega), allD_cons, dig_isD (by omega)]; rfl
theorem dec_val : ∀ u, val 0 (decDigits u) = u := by
  intro u
  induction u using Nat.strongRecOn with
  | _ u ih =>
    by_cases h : u < 10
    · rw [dec_lt h, val_cons, val_nil, dig_nat h]; omega
    · rw [dec_ge h, val_app, ih (u / 10) (by omega), val_cons, val_nil, dig_nat (by omega)]; omega
/-- No nought ahead, but of 0 itself. -/
theorem dec_head : ∀ u, u ≠ 0 → ∀ c, (decDigits u).head? = some c → c ≠ 48 := by
  intro u
  induction u using Nat.strongRecOn with
  | _ u ih =>
    intro hu c hc
    by_cases h : u < 10
    · rw [dec_lt h] at hc
      simp only [List.head?_cons, Option.some.injEq] at hc
      intro e
      have h2 := dig_nat h
      rw [hc, e] at h2
      have : (48 : UInt8).toNat = 48 := rfl
      omega
    · rw [dec_ge h, List.head?_append] at hc
      cases hd : (decDigits (u / 10)).head? with
      | none => exact absurd (List.head?_eq_none_iff.1 hd) (dec_ne _)
      | some x =>
        rw [hd] at hc
        simp only [Option.some_or, Option.some.injEq] at hc
        subst hc
        exact ih (u / 10) (by omega) (by omega) x hd
theorem dec_zero : decDigits 0 = [48] := by rw [dec_lt (by omega)]; rfl

theorem nat63_dec {u : Nat} (h : u ≤ 9223372036854775808) : nat63 (decDigits u) = some u := by
  unfold nat63
  rw [if_pos, dec_val]
  refine ⟨dec_ne u, dec_allD u, ?_, by rw [dec_val]; exact h⟩
  rintro ⟨h1, h2⟩
  by_cases hu : u = 0
  · subst hu
    rw [dec_zero] at h2
    simp at h2
  · exact dec_head u hu 48 h1 rfl

theorem nDigits_le : ∀ (k u : Nat), u < 10 ^ (k + 1) → nDigits u ≤ k + 1 := by
  intro k
  induction k with
  | zero => intro u h; rw [nDigits_small (by simpa using h)]; omega
  | succ k ih =>
    intro u h
    by_cases hs : u < 10
    · rw [nDigits_small hs]; omega
    · rw [nDigits_big hs]
      have := ih (u / 10) (by rw [Nat.pow_succ] at h; omega)
      omega
theorem dec_shortest {l : List UInt8} (hne : l ≠ []) (hd : allD l = true) : (decDigits (val 0 l)).length ≤ l.length := by
  rw [decDigits_length]
  have h := val_lt l hd
  cases hl : l.length with
  | zero => exact absurd (List.eq_nil_of_length_eq_zero hl) hne
  | succ k => rw [hl] at h; exact nDigits_le k _ h

/-! ### Nine digits behind the point -/
def padR : Nat → Nat → List UInt8
  | 0, _ => []
  | k + 1, n => padR k (n / 10) ++ [UInt8.ofNat (48 + n % 10)]
theorem dec_pad : ∀ (k q n : Nat), 1 ≤ q → n < 10 ^ k → decDigits (q * 10 ^ k + n) = decDigits q ++ padR k n := by
  intro k
  induction k with
  | zero => intro q n hq hn; simp at hn; subst hn; simp [padR]
  | succ k ih =>
    intro q n hq hn
    have h1 : 1 ≤ q * 10 ^ k := Nat.le_trans hq (Nat.le_mul_of_pos_right _ (Nat.pow_pos (by omega)))
    have e : q * 10 ^ (k + 1) = 10 * (q * 10 ^ k) := by rw [Nat.pow_succ, ← Nat.mul_assoc, Nat.mul_comm]
    rw [Nat.pow_succ] at hn
    rw [e, dec_ge (by omega), show (10 * (q * 10 ^ k) + n) / 10 = q * 10 ^ k + n / 10 by omega, show (10 * (q * 10 ^ k) + n) % 10 = n % 10 by omega, ih q (n / 10) hq (by omega), padR, List.append_assoc]
theorem padR_cons : ∀ (k n : Nat), n < 10 ^ (k + 1) → padR (k + 1) n = UInt8.ofNat (48 + n / 10 ^ k) :: padR k (n % 10 ^ k) := by
  intro k
  induction k with
  | zero => intro n hn; simp [padR]; simp at hn; rw [Nat.mod_eq_of_lt hn]
  | succ k ih =>
    intro n hn
    have hn' := hn
    rw [Nat.pow_succ] at hn'
    rw [padR, ih (n / 10) (by omega)]
    have hp : 10 ^ (k + 1) = 10 * 10 ^ k := by rw [Nat.pow_succ, Nat.mul_comm]
    have e1 : n / 10 / 10 ^ k = n / 10 ^ (k + 1) := by rw [Nat.div_div_eq_div_mul, hp]
    have e2 : n / 10 % 10 ^ k = n % 10 ^ (k + 1) / 10 := by rw [hp, Nat.mod_mul_right_div_self]
    have e3 : n % 10 = n % 10 ^ (k + 1) % 10 := by rw [hp, Nat.mod_mul_right_mod]
    rw [e1, e2, e3, List.cons_append]
    rfl

/-- The digits up to the last that is no nought. -/
def tl : Nat → Nat → List UInt8
  | 0, _ => []
  | k + 1, n => if n = 0 then [] else UInt8.ofNat (48 + n / 10 ^ k) :: tl k (n % 10 ^ k)
theorem tl_zero (k : Nat) : tl k 0 = [] := by cases k <;> simp [tl]
theorem tl_ne {k n : Nat} (h : n < 10 ^ k) (h0 : n ≠ 0) : tl k n ≠ [] := by
  cases k with
  | zero => simp at h; exact absurd h h0
  | succ k => rw [tl, if_neg h0]; simp

theorem trim_nil (c : UInt8) : trimRightB [] c = [] := rfl
theorem trim_cons (x c : UInt8) (l : List UInt8) : trimRightB (x :: l) c = if trimRightB l c = [] then (if x == c then [] else [x]) else x :: trimRightB l c := by
  unfold trimRightB
  rw [List.reverse_cons, List.dropWhile_append]
  cases h : (l.reverse.dropWhile (· == c)) with
  | nil =>
    rw [if_pos (by simp), if_pos (by simp)]
    by_cases hx : (x == c) = true
    · simp [hx]
    · simp [hx]
  | cons y r =>
    rw [if_neg (by simp), if_neg (by simp)]
    simp

theorem trim_pad : ∀ (k n : Nat), n < 10 ^ k → trimRightB (padR k n) 48 = tl k n := by
  intro k
  induction k with
  | zero => intro n _; rfl
  | succ k ih =>
    intro n hn
    have hp : 0 < 10 ^ k := Nat.pow_pos (by omega)
    rw [padR_cons k n hn, trim_cons, ih _ (Nat.mod_lt _ hp), tl]
    have hq : n / 10 ^ k < 10 := Nat.div_lt_of_lt_mul (by rw [← Nat.pow_succ]; exact hn)
    have hdm := Nat.div_add_mod n (10 ^ k)
    by_cases hm : n % 10 ^ k = 0
    · rw [hm, tl_zero, if_pos rfl]
      by_cases hx : n / 10 ^ k = 0
      · have : n = 0 := by rw [hx, hm] at hdm; omega
        rw [if_pos this, hx]; rfl
      · have : n ≠ 0 := by rintro rfl; simp at hx
        rw [if_neg this, if_neg]
        intro e
        have e := congrArg UInt8.toNat (eq_of_beq e)
        rw [dig_nat hq] at e
        have : (48 : UInt8).toNat = 48 := rfl
        omega
    · have : n ≠ 0 := by rintro rfl; simp at hm
      rw [if_neg (tl_ne (Nat.mod_lt _ hp) hm), if_neg this]

theorem tail9_eq {p : Nat} (h : p < 1000000000) : tail9 p = if p = 0 then [] else 46 :: tl 9 p := by
  unfold tail9
  by_cases h0 : p = 0
  · rw [if_pos h0, if_pos h0]
  · rw [if_neg h0, if_neg h0]
    have h9 : p < 10 ^ 9 := by omega
    have e := dec_pad 9 1 p (by omega) h9
    rw [show 1 * 10 ^ 9 + p = 1000000000 + p by omega, dec_lt (u := 1) (by omega)] at e
    rw [e, List.singleton_append, List.drop_succ_cons, List.drop_zero, trim_pad 9 p h9]

theorem tl_len : ∀ (k n : Nat), (tl k n).length ≤ k := by
  intro k
  induction k with
  | zero => intro n; simp [tl]
  | succ k ih => intro n; rw [tl]; split; · simp
                 · rw [List.length_cons]; have := ih (n % 10 ^ k); omega
theorem tl_allD : ∀ (k n : Nat), n < 10 ^ k → allD (tl k n) = true := by
  intro k
  induction k with
  | zero => intro n _; rfl
  | succ k ih =>
    intro n hn
    rw [tl]
    split
    · rfl
    · have hq : n / 10 ^ k < 10 := Nat.div_lt_of_lt_mul (by rw [← Nat.pow_succ]; exact hn)
      rw [allD_cons, dig_isD hq, ih _ (Nat.mod_lt _ (Nat.pow_pos (by omega)))]; rfl
theorem tl_val : ∀ (k n : Nat), n < 10 ^ k → val 0 (tl k n) * 10 ^ (k - (tl k n).length) = n := by
  intro k
  induction k with
  | zero => intro n hn; simp at hn; subst hn; simp [tl, val_nil]
  | succ k ih =>
    intro n hn
    by_cases h0 : n = 0
    · subst h0; rw [tl_zero, val_nil, Nat.zero_mul]
    · have hq : n / 10 ^ k < 10 := Nat.div_lt_of_lt_mul (by rw [← Nat.pow_succ]; exact hn)
      have hi := ih (n % 10 ^ k) (Nat.mod_lt _ (Nat.pow_pos (by omega)))
      have hl := tl_len k (n % 10 ^ k)
      rw [tl, if_neg h0, val_cons, val_acc, dig_nat hq, List.length_cons, show k + 1 - ((tl k (n % 10 ^ k)).length + 1) = k - (tl k (n % 10 ^ k)).length by omega, Nat.add_mul, hi, Nat.mul_assoc, ← Nat.pow_add,
        show (tl k (n % 10 ^ k)).length + (k - (tl k (n % 10 ^ k)).length) = k by omega, show 0 * 10 + (48 + n / 10 ^ k - 48) = n / 10 ^ k by rw [Nat.add_sub_cancel_left, Nat.zero_mul, Nat.zero_add], Nat.mul_comm]
      exact Nat.div_add_mod n (10 ^ k)
theorem tl_shortest : ∀ (k j n : Nat), j ≤ k → n < 10 ^ k → 10 ^ (k - j) ∣ n → (tl k n).length ≤ j := by
  intro k
  induction k with
  | zero => intro j n _ _ _; simp [tl]
  | succ k ih =>
    intro j n hj hn hd
    by_cases h0 : n = 0
    · subst h0; rw [tl_zero]; simp
    · cases j with
      | zero => exact absurd (Nat.eq_zero_of_dvd_of_lt hd hn) h0
      | succ j =>
        rw [tl, if_neg h0, List.length_cons]
        rw [show k + 1 - (j + 1) = k - j by omega] at hd
        have hdd : 10 ^ (k - j) ∣ 10 ^ k := Nat.pow_dvd_pow 10 (by omega)
        have := ih j (n % 10 ^ k) (by omega) (Nat.mod_lt _ (Nat.pow_pos (by omega))) ((Nat.dvd_mod_iff hdd).2 hd)
        omega

end Go.Proofs.YtkocnbdakfhpaaaGreatDoor
