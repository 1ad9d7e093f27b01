/-
  The numbers and times of the document as plain functions of lists of bytes, and what follows of them: no model in this text.
  Conditions: none.; AND WHAT FOLLOWS OF IT. Conditions: those that each part names.
-/
import Derived.Lib.ItoaNum
import Derived.Lib.ParseIntB
import Derived.Lib.TrimByte
/-
  The numbers and times of the document as plain functions of lists of bytes, and what follows of them: no model in this text.
  Conditions: none.
-/
namespace Go.Proofs.YthnaanjhmehgcaaGreatDoor
open Go.Lib

/-- A digit. -/
def isD (c : UInt8) : Bool := decide (48 ≤ c.toNat) && decide (c.toNat ≤ 57)
def allD (l : List UInt8) : Bool := l.all isD
/-- What digits spell, behind what came before. -/
def val (acc : Nat) (l : List UInt8) : Nat := l.foldl (fun a c => a * 10 + (c.toNat - 48)) acc
theorem val_nil (acc : Nat) : val acc [] = acc := by unfold val; rw [List.foldl_nil]
theorem val_cons (acc : Nat) (c : UInt8) (r : List UInt8) : val acc (c :: r) = val (acc * 10 + (c.toNat - 48)) r := by unfold val; rw [List.foldl_cons]

theorem isD_iff {c : UInt8} : isD c = true ↔ 48 ≤ c.toNat ∧ c.toNat ≤ 57 := by unfold isD; simp
theorem allD_nil : allD [] = true := rfl
theorem allD_cons (c : UInt8) (r : List UInt8) : allD (c :: r) = (isD c && allD r) := rfl
theorem allD_app (a b : List UInt8) : allD (a ++ b) = (allD a && allD b) := by unfold allD; simp

theorem val_acc (l : List UInt8) : ∀ acc, val acc l = acc * 10 ^ l.length + val 0 l := by
  induction l with
  | nil => intro acc; simp [val_nil]
  | cons c r ih =>
    intro acc
    rw [val_cons, val_cons, ih (acc * 10 + (c.toNat - 48)), ih (0 * 10 + (c.toNat - 48)), List.length_cons, Nat.pow_succ, Nat.add_mul]
    have : acc * 10 * 10 ^ r.length = acc * (10 ^ r.length * 10) := by rw [Nat.mul_assoc, Nat.mul_comm 10]
    rw [this]
    simp only [Nat.zero_mul, Nat.zero_add]
    omega
theorem val_app (a b : List UInt8) (acc : Nat) : val acc (a ++ b) = val (val acc a) b := by
  induction a generalizing acc with
  | nil => rw [List.nil_append, val_nil]
  | cons c r ih => rw [List.cons_append, val_cons, val_cons]; exact ih _
theorem val_ge (l : List UInt8) (acc : Nat) : acc ≤ val acc l := by
  induction l generalizing acc with
  | nil => rw [val_nil]; exact Nat.le_refl _
  | cons c r ih => rw [val_cons]; exact Nat.le_trans (by omega) (ih _)
theorem val_lt (l : List UInt8) (h : allD l = true) : val 0 l < 10 ^ l.length := by
  induction l with
  | nil => simp [val_nil]
  | cons c r ih =>
    rw [allD_cons, Bool.and_eq_true, isD_iff] at h
    have := ih h.2
    rw [val_cons]
    rw [val_acc, List.length_cons, Nat.pow_succ]
    have h2 : (0 * 10 + (c.toNat - 48)) * 10 ^ r.length ≤ 9 * 10 ^ r.length := Nat.mul_le_mul_right _ (by omega)
    omega

/-- The number from 0 to 2^63 whose text it is. -/
def nat63 (l : List UInt8) : Option Nat :=
  if l ≠ [] ∧ allD l = true ∧ ¬ (l.head? = some 48 ∧ 1 < l.length) ∧ val 0 l ≤ 9223372036854775808 then some (val 0 l) else none

theorem nat63_some {l : List UInt8} {u : Nat} (h : nat63 l = some u) : l ≠ [] ∧ allD l = true ∧ ¬ (l.head? = some 48 ∧ 1 < l.length) ∧ val 0 l = u ∧ u ≤ 9223372036854775808 := by
  unfold nat63 at h
  split at h
  · rename_i h'
    injection h with h
    subst h
    exact ⟨h'.1, h'.2.1, h'.2.2.1, rfl, h'.2.2.2⟩
  · cases h

/-- strconv's reading of 64 bits is the digits' value, where there is one. -/
theorem parseM (l : List UInt8) : ∀ acc, acc ≤ 18446744073709551615 →
    (allD l = true ∧ val acc l ≤ 18446744073709551615 → parseUintM 18446744073709551615 acc l = .ok (val acc l)) ∧
    (¬ (allD l = true ∧ val acc l ≤ 18446744073709551615) → ∀ u, parseUintM 18446744073709551615 acc l ≠ .ok u) := by
  induction l with
  | nil => intro acc hacc; rw [val_nil]; exact ⟨fun _ => rfl, fun h => absurd ⟨rfl, hacc⟩ h⟩
  | cons c r ih =>
    intro acc hacc
    rw [allD_cons, Bool.and_eq_true, isD_iff, val_cons]
    unfold parseUintM
    by_cases hd : 48 ≤ c.toNat ∧ c.toNat ≤ 57
    · rw [if_pos hd]
      have hge := val_ge r (acc * 10 + (c.toNat - 48))
      by_cases h1 : 1844674407370955162 ≤ acc
      · rw [if_pos h1]
        refine ⟨fun h => ?_, fun _ u => by simp⟩
        have := h.2
        omega
      · rw [if_neg h1]
        by_cases h2 : 18446744073709551615 < acc * 10 + (c.toNat - 48)
        · rw [if_pos h2]
          refine ⟨fun h => ?_, fun _ u => by simp⟩
          have := h.2
          omega
        · rw [if_neg h2]
          have := ih (acc * 10 + (c.toNat - 48)) (by omega)
          refine ⟨fun h => this.1 ⟨h.1.2, h.2⟩, fun h u => this.2 (fun h' => h ⟨⟨hd, h'.1⟩, h'.2⟩) u⟩
    · rw [if_neg hd]
      exact ⟨fun h => absurd h.1.1 hd, fun _ u => by simp⟩

theorem parse_ok {l : List UInt8} (hne : l ≠ []) (hd : allD l = true) (hv : val 0 l ≤ 18446744073709551615) : parseUintB 64 l = .ok (val 0 l) := by
  unfold parseUintB
  rw [if_neg hne]
  exact (parseM l 0 (by omega)).1 ⟨hd, hv⟩
theorem parse_not {l : List UInt8} (h : l = [] ∨ ¬ (allD l = true ∧ val 0 l ≤ 18446744073709551615)) : ∀ u, parseUintB 64 l ≠ .ok u := by
  intro u
  unfold parseUintB
  by_cases hne : l = []
  · rw [if_pos hne]; simp
  · rw [if_neg hne]
    exact (parseM l 0 (by omega)).2 (h.resolve_left hne) u

/-- The billionths that digits behind a point tell. -/
def billion (l : List UInt8) : Option Nat :=
  if allD l = true ∧ 1 ≤ l.length ∧ l.length ≤ 9 then some (val 0 l * 10 ^ (9 - l.length)) else none

def ahead (l : List UInt8) : List UInt8 := l.takeWhile (· != 46)
def behind (l : List UInt8) : List UInt8 := (l.dropWhile (· != 46)).drop 1
def pointed (l : List UInt8) : Bool := l.contains 46

/-- Seconds and billionths behind the sign. -/
def valueOf (l : List UInt8) : Option (Nat × Nat) :=
  match nat63 (ahead l) with
  | none => none
  | some u => if pointed l then (billion (behind l)).map (fun p => (u, p)) else some (u, 0)

/-- The time that lies so much below 0. -/
def underOf (u p : Nat) : Option (Int × Int) :=
  if 0 < p then (if 9223372036854775808 < u + 1 then none else some (-((u : Int) + 1), 1000000000 - (p : Int)))
  else if 9223372036854775808 < u then none else some (-(u : Int), (p : Int))

def timeOf (l : List UInt8) : Option (Int × Int) :=
  match valueOf (if l.head? = some 45 then l.tail else l) with
  | none => none
  | some (u, p) => if l.head? = some 45 then underOf u p else if 9223372036854775807 < u then none else some ((u : Int), (p : Int))

/-- What stands behind the number, with its point. -/
def tail9 (p : Nat) : List UInt8 := if p = 0 then [] else 46 :: trimRightB ((decDigits (1000000000 + p)).drop 1) 48

def wholeOf (sec nano : Int) : Nat := if sec < 0 ∧ 0 < nano then sec.natAbs - 1 else sec.natAbs
def partOf (sec nano : Int) : Nat := if sec < 0 ∧ 0 < nano then (1000000000 - nano).toNat else nano.toNat
def signOf (sec : Int) : List UInt8 := if sec < 0 then [45] else []
def printOf (sec nano : Int) : List UInt8 := signOf sec ++ decDigits (wholeOf sec nano) ++ tail9 (partOf sec nano)

end Go.Proofs.YthnaanjhmehgcaaGreatDoor

/-
  What is printed is read, and no text of that number or time has fewer bytes: of lists of bytes, no model in this text.
  Conditions: those that each theorem names.
-/
namespace Go.Proofs.YthnaanjhmehgcaaGreatDoor
open Go.Lib

theorem dig_nat {d : Nat} (h : d < 10) : (UInt8.ofNat (48 + d)).toNat = 48 + d := by
  simp [UInt8.toNat_ofNat']; omega
theorem dig_isD {d : Nat} (h : d < 10) : isD (UInt8.ofNat (48 + d)) = true := by rw [isD_iff, dig_nat h]; omega
theorem dec_lt {u : Nat} (h : u < 10) : decDigits u = [UInt8.ofNat (48 + u)] := decDigits_one h
theorem dec_ge {u : Nat} (h : ¬ u < 10) : decDigits u = decDigits (u / 10) ++ [UInt8.ofNat (48 + u % 10)] := by rw [decDigits, dif_neg h]

theorem dec_ne (u : Nat) : decDigits u ≠ [] := by
  intro h
  have := decDigits_length u
  rw [h] at this
  have := nDigits_pos u
  simp at *
  omega

theorem dec_allD : ∀ u, allD (decDigits u) = true := by
  intro u
  induction u using Nat.strongRecOn with
  | _ u ih =>
    by_cases h : u < 10
    · rw [dec_lt h, allD_cons, dig_isD h]; rfl
    · rw [dec_ge h, allD_app, ih (u / 10) (by omega), allD_cons, dig_isD (by omega)]; rfl
theorem dec_val : ∀ u, val 0 (decDigits u) = u := by
  intro u
  induction u using Nat.strongRecOn with
  | _ u ih =>
    by_cases h : u < 10
    · rw [dec_lt h, val_cons, val_nil, dig_nat h]; omega
    · rw [dec_ge h, val_app, ih (u / 10) (by omega), val_cons, val_nil, dig_nat (by omega)]; omega
/-- No nought ahead, but of 0 itself. -/
theorem dec_head : ∀ u, u ≠ 0 → ∀ c, (decDigits u).head? = some c → c ≠ 48 := by
  intro u
  induction u using Nat.strongRecOn with
  | _ u ih =>
    intro hu c hc
    by_cases h : u < 10
    · rw [dec_lt h] at hc
      simp only [List.head?_cons, Option.some.injEq] at hc
      intro e
      have h2 := dig_nat h
      rw [hc, e] at h2
      have : (48 : UInt8).toNat = 48 := rfl
      omega
    · rw [dec_ge h, List.head?_append] at hc
      cases hd : (decDigits (u / 10)).head? with
      | none => exact absurd (List.head?_eq_none_iff.1 hd) (dec_ne _)
      | some x =>
        rw [hd] at hc
        simp only [Option.some_or, Option.some.injEq] at hc
        subst hc
        exact ih (u / 10) (by omega) (by omega) x hd
theorem dec_zero : decDigits 0 = [48] := by rw [dec_lt (by omega)]; rfl

theorem nat63_dec {u : Nat} (h : u ≤ 9223372036854775808) : nat63 (decDigits u) = some u := by
  unfold nat63
  rw [if_pos, dec_val]
  refine ⟨dec_ne u, dec_allD u, ?_, by rw [dec_val]; exact h⟩
  rintro ⟨h1, h2⟩
  by_cases hu : u = 0
  · subst hu
    rw [dec_zero] at h2
    simp at h2
  · exact dec_head u hu 48 h1 rfl

theorem nDigits_le : ∀ (k u : Nat), u < 10 ^ (k + 1) → nDigits u ≤ k + 1 := by
  intro k
  induction k with
  | zero => intro u h; rw [nDigits_small (by simpa using h)]; omega
  | succ k ih =>
    intro u h
    by_cases hs : u < 10
    · rw [nDigits_small hs]; omega
    · rw [nDigits_big hs]
      have := ih (u / 10) (by rw [Nat.pow_succ] at h; omega)
      omega
theorem dec_shortest {l : List UInt8} (hne : l ≠ []) (hd : allD l = true) : (decDigits (val 0 l)).length ≤ l.length := by
  rw [decDigits_length]
  have h := val_lt l hd
  cases hl : l.length with
  | zero => exact absurd (List.eq_nil_of_length_eq_zero hl) hne
  | succ k => rw [hl] at h; exact nDigits_le k _ h

/-! ### Nine digits behind the point -/
def padR : Nat → Nat → List UInt8
  | 0, _ => []
  | k + 1, n => padR k (n / 10) ++ [UInt8.ofNat (48 + n % 10)]
theorem dec_pad : ∀ (k q n : Nat), 1 ≤ q → n < 10 ^ k → decDigits (q * 10 ^ k + n) = decDigits q ++ padR k n := by
  intro k
  induction k with
  | zero => intro q n hq hn; simp at hn; subst hn; simp [padR]
  | succ k ih =>
    intro q n hq hn
    have h1 : 1 ≤ q * 10 ^ k := Nat.le_trans hq (Nat.le_mul_of_pos_right _ (Nat.pow_pos (by omega)))
    have e : q * 10 ^ (k + 1) = 10 * (q * 10 ^ k) := by rw [Nat.pow_succ, ← Nat.mul_assoc, Nat.mul_comm]
    rw [Nat.pow_succ] at hn
    rw [e, dec_ge (by omega), show (10 * (q * 10 ^ k) + n) / 10 = q * 10 ^ k + n / 10 by omega, show (10 * (q * 10 ^ k) + n) % 10 = n % 10 by omega, ih q (n / 10) hq (by omega), padR, List.append_assoc]
theorem padR_cons : ∀ (k n : Nat), n < 10 ^ (k + 1) → padR (k + 1) n = UInt8.ofNat (48 + n / 10 ^ k) :: padR k (n % 10 ^ k) := by
  intro k
  induction k with
  | zero => intro n hn; simp [padR]; simp at hn; rw [Nat.mod_eq_of_lt hn]
  | succ k ih =>
    intro n hn
    have hn' := hn
    rw [Nat.pow_succ] at hn'
    rw [padR, ih (n / 10) (by omega)]
    have hp : 10 ^ (k + 1) = 10 * 10 ^ k := by rw [Nat.pow_succ, Nat.mul_comm]
    have e1 : n / 10 / 10 ^ k = n / 10 ^ (k + 1) := by rw [Nat.div_div_eq_div_mul, hp]
    have e2 : n / 10 % 10 ^ k = n % 10 ^ (k + 1) / 10 := by rw [hp, Nat.mod_mul_right_div_self]
    have e3 : n % 10 = n % 10 ^ (k + 1) % 10 := by rw [hp, Nat.mod_mul_right_mod]
    rw [e1, e2, e3, List.cons_append]
    rfl

/-- The digits up to the last that is no nought. -/
def tl : Nat → Nat → List UInt8
  | 0, _ => []
  | k + 1, n => if n = 0 then [] else UInt8.ofNat (48 + n / 10 ^ k) :: tl k (n % 10 ^ k)
theorem tl_zero (k : Nat) : tl k 0 = [] := by cases k <;> simp [tl]
theorem tl_ne {k n : Nat} (h : n < 10 ^ k) (h0 : n ≠ 0) : tl k n ≠ [] := by
  cases k with
  | zero => simp at h; exact absurd h h0
  | succ k => rw [tl, if_neg h0]; simp

theorem trim_nil (c : UInt8) : trimRightB [] c = [] := rfl
theorem trim_cons (x c : UInt8) (l : List UInt8) : trimRightB (x :: l) c = if trimRightB l c = [] then (if x == c then [] else [x]) else x :: trimRightB l c := by
  unfold trimRightB
  rw [List.reverse_cons, List.dropWhile_append]
  cases h : (l.reverse.dropWhile (· == c)) with
  | nil =>
    rw [if_pos (by simp), if_pos (by simp)]
    by_cases hx : (x == c) = true
    · simp [hx]
    · simp [hx]
  | cons y r =>
    rw [if_neg (by simp), if_neg (by simp)]
    simp

theorem trim_pad : ∀ (k n : Nat), n < 10 ^ k → trimRightB (padR k n) 48 = tl k n := by
  intro k
  induction k with
  | zero => intro n _; rfl
  | succ k ih =>
    intro n hn
    have hp : 0 < 10 ^ k := Nat.pow_pos (by omega)
    rw [padR_cons k n hn, trim_cons, ih _ (Nat.mod_lt _ hp), tl]
    have hq : n / 10 ^ k < 10 := Nat.div_lt_of_lt_mul (by rw [← Nat.pow_succ]; exact hn)
    have hdm := Nat.div_add_mod n (10 ^ k)
    by_cases hm : n % 10 ^ k = 0
    · rw [hm, tl_zero, if_pos rfl]
      by_cases hx : n / 10 ^ k = 0
      · have : n = 0 := by rw [hx, hm] at hdm; omega
        rw [if_pos this, hx]; rfl
      · have : n ≠ 0 := by rintro rfl; simp at hx
        rw [if_neg this, if_neg]
        intro e
        have e := congrArg UInt8.toNat (eq_of_beq e)
        rw [dig_nat hq] at e
        have : (48 : UInt8).toNat = 48 := rfl
        omega
    · have : n ≠ 0 := by rintro rfl; simp at hm
      rw [if_neg (tl_ne (Nat.mod_lt _ hp) hm), if_neg this]

theorem tail9_eq {p : Nat} (h : p < 1000000000) : tail9 p = if p = 0 then [] else 46 :: tl 9 p := by
  unfold tail9
  by_cases h0 : p = 0
  · rw [if_pos h0, if_pos h0]
  · rw [if_neg h0, if_neg h0]
    have h9 : p < 10 ^ 9 := by omega
    have e := dec_pad 9 1 p (by omega) h9
    rw [show 1 * 10 ^ 9 + p = 1000000000 + p by omega, dec_lt (u := 1) (by omega)] at e
    rw [e, List.singleton_append, List.drop_succ_cons, List.drop_zero, trim_pad 9 p h9]

theorem tl_len : ∀ (k n : Nat), (tl k n).length ≤ k := by
  intro k
  induction k with
  | zero => intro n; simp [tl]
  | succ k ih => intro n; rw [tl]; split; · simp
                 · rw [List.length_cons]; have := ih (n % 10 ^ k); omega
theorem tl_allD : ∀ (k n : Nat), n < 10 ^ k → allD (tl k n) = true := by
  intro k
  induction k with
  | zero => intro n _; rfl
  | succ k ih =>
    intro n hn
    rw [tl]
    split
    · rfl
    · have hq : n / 10 ^ k < 10 := Nat.div_lt_of_lt_mul (by rw [← Nat.pow_succ]; exact hn)
      rw [allD_cons, dig_isD hq, ih _ (Nat.mod_lt _ (Nat.pow_pos (by omega)))]; rfl
theorem tl_val : ∀ (k n : Nat), n < 10 ^ k → val 0 (tl k n) * 10 ^ (k - (tl k n).length) = n := by
  intro k
  induction k with
  | zero => intro n hn; simp at hn; subst hn; simp [tl, val_nil]
  | succ k ih =>
    intro n hn
    by_cases h0 : n = 0
    · subst h0; rw [tl_zero, val_nil, Nat.zero_mul]
    · have hq : n / 10 ^ k < 10 := Nat.div_lt_of_lt_mul (by rw [← Nat.pow_succ]; exact hn)
      have hi := ih (n % 10 ^ k) (Nat.mod_lt _ (Nat.pow_pos (by omega)))
      have hl := tl_len k (n % 10 ^ k)
      rw [tl, if_neg h0, val_cons, val_acc, dig_nat hq, List.length_cons, show k + 1 - ((tl k (n % 10 ^ k)).length + 1) = k - (tl k (n % 10 ^ k)).length by omega, Nat.add_mul, hi, Nat.mul_assoc, ← Nat.pow_add,
        show (tl k (n % 10 ^ k)).length + (k - (tl k (n % 10 ^ k)).length) = k by omega, show 0 * 10 + (48 + n / 10 ^ k - 48) = n / 10 ^ k by rw [Nat.add_sub_cancel_left, Nat.zero_mul, Nat.zero_add], Nat.mul_comm]
      exact Nat.div_add_mod n (10 ^ k)
theorem tl_shortest : ∀ (k j n : Nat), j ≤ k → n < 10 ^ k → 10 ^ (k - j) ∣ n → (tl k n).length ≤ j := by
  intro k
  induction k with
  | zero => intro j n _ _ _; simp [tl]
  | succ k ih =>
    intro j n hj hn hd
    by_cases h0 : n = 0
    · subst h0; rw [tl_zero]; simp
    · cases j with
      | zero => exact absurd (Nat.eq_zero_of_dvd_of_lt hd hn) h0
      | succ j =>
        rw [tl, if_neg h0, List.length_cons]
        rw [show k + 1 - (j + 1) = k - j by omega] at hd
        have hdd : 10 ^ (k - j) ∣ 10 ^ k := Nat.pow_dvd_pow 10 (by omega)
        have := ih j (n % 10 ^ k) (by omega) (Nat.mod_lt _ (Nat.pow_pos (by omega))) ((Nat.dvd_mod_iff hdd).2 hd)
        omega

end Go.Proofs.YthnaanjhmehgcaaGreatDoor
