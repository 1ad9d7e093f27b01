/-
  The numbers and times of the document as plain functions of lists of bytes, and what follows of them: no model in this text.
  Conditions: none.
-/
import Derived.Lib.ItoaNum
import Derived.Lib.ParseIntB
import Derived.Lib.TrimByte
namespace Go.Proofs.YtlehomcodkbpmaaGreatDoor
open Go.Lib

/-- A digit. -/
def isD (c : UInt8) : Bool := decide (48 ≤ c.toNat) && decide (c.toNat ≤ 57)
def allD (l : List UInt8) : Bool := l.all isD
/-- What digits spell, behind what came before. -/
def val (acc : Nat) (l : List UInt8) : Nat := l.foldl (fun a c => a * 10 + (c.toNat - 48)) acc
theorem val_nil (acc : Nat) : val acc [] = acc := by unfold val; rw [List.foldl_nil]
theorem val_cons (acc : Nat) (c : UInt8) (r : List UInt8) : val acc (c :: r) = val (acc * 10 + (c.toNat - 48)) r := by unfold val; rw [List.foldl_cons]

theorem isD_iff {c : UInt8} : isD c = true ↔ 48 ≤ c.toNat ∧ c.toNat ≤ 57 := by unfold isD; simp
theorem allD_nil : allD [] = true := rfl
theorem allD_cons (c : UInt8) (r : List UInt8) : allD (c :: r) = (isD c && allD r) := rfl
theorem allD_app (a b : List UInt8) : allD (a ++ b) = (allD a && allD b) := by unfold allD; simp

theorem val_acc (l : List UInt8) : ∀ acc, val acc l = acc * 10 ^ l.length + val 0 l := by
  induction l with
  | nil => intro acc; simp [val_nil]
  | cons c r ih =>
    intro acc
    rw [val_cons, val_cons, ih (acc * 10 + (c.toNat - 48)), ih (0 * 10 + (c.toNat - 48)), List.length_cons, Nat.pow_succ, Nat.add_mul]
    have : acc * 10 * 10 ^ r.length = acc * (10 ^ r.length * 10) := by rw [Nat.mul_assoc, Nat.mul_comm 10]
    rw [this]
    simp only [Nat.zero_mul, Nat.zero_add]
    omega
theorem val_app (a b : List UInt8) (acc : Nat) : val acc (a ++ b) = val (val acc a) b := by
  induction a generalizing acc with
  | nil => rw [List.nil_append, val_nil]
  | cons c r ih => rw [List.cons_append, val_cons, val_cons]; exact ih _
theorem val_ge (l : List UInt8) (acc : Nat) : acc ≤ val acc l := by
  induction l generalizing acc with
  | nil => rw [val_nil]; exact Nat.le_refl _
  | cons c r ih => rw [val_cons]; exact Nat.le_trans (by omega) (ih _)
theorem val_lt (l : List UInt8) (h : allD l = true) : val 0 l < 10 ^ l.length := by
  induction l with
  | nil => simp [val_nil]
  | cons c r ih =>
    rw [allD_cons, Bool.and_eq_true, isD_iff] at h
    have := ih h.2
    rw [val_cons]
    rw [val_acc, List.length_cons, Nat.pow_succ]
    have h2 : (0 * 10 + (c.toNat - 48)) * 10 ^ r.length ≤ 9 * 10 ^ r.length := Nat.mul_le_mul_right _ (by omega)
    omega

/-- The number from 0 to 2^63 whose text it is. -/
def nat63 (l : List UInt8) : Option Nat :=
  if l ≠ [] ∧ allD l = true ∧ ¬ (l.head? = some 48 ∧ 1 < l.length) ∧ val 0 l ≤ 9223372036854775808 then some (val 0 l) else none

theorem nat63_some {l : List UInt8} {u : Nat} (h : nat63 l = some u) : l ≠ [] ∧ allD l = true ∧ ¬ (l.head? = some 48 ∧ 1 < l.length) ∧ val 0 l = u ∧ u ≤ 9223372036854775808 := by
  unfold nat63 at h
  split at h
  · rename_i h'
    injection h with h
    subst h
    exact ⟨h'.1, h'.2.1, h'.2.2.1, rfl, h'.2.2.2⟩
  · cases h

/-- strconv's reading of 64 bits is the digits' value, where there is one. -/
theorem parseM (l : List UInt8) : ∀ acc, acc ≤ 18446744073709551615 →
    (allD l = true ∧ val acc l ≤ 18446744073709551615 → parseUintM 18446744073709551615 acc l = .ok (val acc l)) ∧
    (¬ (allD l = true ∧ val acc l ≤ 18446744073709551615) → ∀ u, parseUintM 18446744073709551615 acc l ≠ .ok u) := by
  induction l with
  | nil => intro acc hacc; rw [val_nil]; exact ⟨fun _ => rfl, fun h => absurd ⟨rfl, hacc⟩ h⟩
  | cons c r ih =>
    intro acc hacc
    rw [allD_cons, Bool.and_eq_true, isD_iff, val_cons]
    unfold parseUintM
    by_cases hd : 48 ≤ c.toNat ∧ c.toNat ≤ 57
    · rw [if_pos hd]
      have hge := val_ge r (acc * 10 + (c.toNat - 48))
      by_cases h1 : 1844674407370955162 ≤ acc
      · rw [if_pos h1]
        refine ⟨fun h => ?_, fun _ u => by simp⟩
        have := h.2
        omega
      · rw [if_neg h1]
        by_cases h2 : 18446744073709551615 < acc * 10 + (c.toNat - 48)
        · rw [if_pos h2]
          refine ⟨fun h => ?_, fun _ u => by simp⟩
          have := h.2
          omega
        · rw [if_neg h2]
          have := ih (acc * 10 + (c.toNat - 48)) (by omega)
          refine ⟨fun h => this.1 ⟨h.1.2, h.2⟩, fun h u => this.2 (fun h' => h ⟨⟨hd, h'.1⟩, h'.2⟩) u⟩
    · rw [if_neg hd]
      exact ⟨fun h => absurd h.1.1 hd, fun _ u => by simp⟩

theorem parse_ok {l : List UInt8} (hne : l ≠ []) (hd : allD l = true) (hv : val 0 l ≤ 18446744073709551615) : parseUintB 64 l = .ok (val 0 l) := by
  unfold parseUintB
  rw [if_neg hne]
  exact (parseM l 0 (by omega)).1 ⟨hd, hv⟩
theorem parse_not {l : List UInt8} (h : l = [] ∨ ¬ (allD l = true ∧ val 0 l ≤ 18446744073709551615)) : ∀ u, parseUintB 64 l ≠ .ok u := by
  intro u
  unfold parseUintB
  by_cases hne : l = []
  · rw [if_pos hne]; simp
  · rw [if_neg hne]
    exact (parseM l 0 (by omega)).2 (h.resolve_left hne) u

/-- The billionths that digits behind a point tell. -/
def billion (l : List UInt8) : Option Nat :=
  if allD l = true ∧ 1 ≤ l.length ∧ l.length ≤ 9 then some (val 0 l * 10 ^ (9 - l.length)) else none

def ahead (l : List UInt8) : List UInt8 := l.takeWhile (· != 46)
def behind (l : List UInt8) : List UInt8 := (l.dropWhile (· != 46)).drop 1
def pointed (l : List UInt8) : Bool := l.contains 46

/-- Seconds and billionths behind the sign. -/
def valueOf (l : List UInt8) : Option (Nat × Nat) :=
  match nat63 (ahead l) with
  | none => none
  | some u => if pointed l then (billion (behind l)).map (fun p => (u, p)) else some (u, 0)

/-- The time that lies so much below 0. -/
def underOf (u p : Nat) : Option (Int × Int) :=
  if 0 < p then (if 9223372036854775808 < u + 1 then none else some (-((u : Int) + 1), 1000000000 - (p : Int)))
  else if 9223372036854775808 < u then none else some (-(u : Int), (p : Int))

def timeOf (l : List UInt8) : Option (Int × Int) :=
  match valueOf (if l.head? = some 45 then l.tail else l) with
  | none => none
  | some (u, p) => if l.head? = some 45 then underOf u p else if 9223372036854775807 < u then none else some ((u : Int), (p : Int))

end Go.Proofs.YtlehomcodkbpmaaGreatDoor
