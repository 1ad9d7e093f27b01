/-
  THE CONTRACTS of the powers and the greatest numbers of so many digits. Conditions: a power is asked of only where it has 63 bits.
-/
import Derived.Test.YtknkgahhehjikaaGets
import Derived.Laws.Shifts
namespace Go.Proofs.Ytknkgahhehjikaa
open Go.ChangeShapes Go.WideShapes Go.ChangeAt Go.RowKit
set_option linter.unusedVariables false

theorem Try.info5 : (Try.prog.info? 5).map (fun i => (i.zero, i.size, i.bytes)) = some (some (.int .u8 0), 1, 1) := by kernel_rfl

theorem ret_int {k : IntKind} {a b : Int} (h : a = b) : Ending.returned (.int k a) = .returned (.int k b) := by rw [h]

/-- the greatest number of so many digits in base 8 -/
def most (n : Int) : Int := if n < 1 then 0 else if 20 < n then 9223372036854775807 else 8 ^ n.toNat - 1

theorem pow8_le (k : Nat) (h : k ≤ 20) : (8 : Int) ^ k ≤ 1152921504606846976 := by
  have := Nat.pow_le_pow_right (n := 8) (by omega) h
  have e : ((8 ^ k : Nat) : Int) = 8 ^ k := by simp
  rw [← e]; omega
theorem pow8_pos (k : Nat) : (1 : Int) ≤ 8 ^ k := by have := Int.pow_pos (n := 8) (m := k) (by omega); omega
theorem pow2_3 (k : Nat) : (2 : Int) ^ (3 * k) = 8 ^ k := by rw [Int.pow_mul]; rfl

theorem most_wrap (k : Nat) (h : k ≤ 20) : wrap64 (wrap64 (2 ^ (3 * k)) - 1) = 8 ^ k - 1 := by
  rw [pow2_3]; have := pow8_le k h; have := pow8_pos k
  generalize (8 : Int) ^ k = x at *
  go_arith

theorem most_any (w : World) (n : Int) :
    Calls Try.prog 18 #[.int .i64 n] w fun e w' => w' = w ∧ e = .returned (.int .i64 (most n)) := by
  by_cases h1 : n < 1
  · go_enter Try.func18, Try.ntmps18
    go_wp2
    all_goals go_ret
    all_goals exact ⟨rfl, ret_int (by simp [most, h1])⟩
  · by_cases h2 : 20 < n
    · go_enter Try.func18, Try.ntmps18
      go_wp2
      all_goals go_ret
      all_goals exact ⟨rfl, ret_int (by rw [most, if_neg (by omega), if_pos h2])⟩
    · obtain ⟨k, rfl⟩ : ∃ k : Nat, n = k := ⟨n.toNat, by omega⟩
      go_enter Try.func18, Try.ntmps18
      go_wp2
      all_goals go_ret
      all_goals exact ⟨rfl, ret_int (by rw [most_wrap k (by omega), most, if_neg (by omega), if_neg (by omega)]; rfl)⟩

def fit (n : Int) (k : Nat) : Bool := decide (-2 ^ min (8 * (k - 1)) 64 ≤ n) && decide (n < 2 ^ min (8 * (k - 1)) 64)

theorem shr_at (n : Int) (k : Nat) (h1 : 2 ≤ k) : Op.shift BinOp.shr IntKind.i64 n IntKind.i64 (8 * ((k : Int) - 1)) = pure (.int .i64 (n / 2 ^ min (8 * (k - 1)) 64)) := by
  rw [shift_shr_any _ _ _ _ (by omega)]
  have : (8 * ((k : Int) - 1)).toNat = 8 * (k - 1) := by omega
  rw [this]; rfl

theorem div_fit (n p : Int) (hp : 0 < p) : (n / p == 0 || n / p == -1) = (decide (-p ≤ n) && decide (n < p)) := by
  have h1 := Int.emod_add_mul_ediv n p
  have h2 := Int.emod_nonneg n (Int.ne_of_gt hp)
  have h3 := Int.emod_lt_of_pos n hp
  rw [Bool.eq_iff_iff]
  simp only [Bool.or_eq_true, beq_iff_eq, Bool.and_eq_true, decide_eq_true_eq]
  constructor
  · rintro (h | h)
    · rw [h] at h1; simp at h1; omega
    · rw [h] at h1; simp at h1; omega
  · rintro ⟨a, b⟩
    have h4 : n / p < 1 := Int.ediv_lt_of_lt_mul hp (by omega)
    have h5 : -1 ≤ n / p := (Int.le_ediv_iff_mul_le hp).mpr (by omega)
    omega

theorem fits_any (w : World) (n : Int) (k : Nat) (h1 : 2 ≤ k) (h2 : k ≤ 32) (h3 : -9223372036854775808 ≤ n) (h4 : n ≤ 9223372036854775807):
    Calls Try.prog 25 #[.int .i64 n, .int .i64 k] w fun e w' => w' = w ∧ e = .returned (.bool (fit n k)) := by
  have hsh := shr_at n k h1
  have E : Hid (fit n k = (n / 2 ^ min (8 * (k - 1)) 64 == 0 || n / 2 ^ min (8 * (k - 1)) 64 == -1)) := hid (div_fit _ _ (Int.pow_pos (by omega))).symm
  generalize n / 2 ^ min (8 * (k - 1)) 64 = q at *
  go_enter Try.func25, Try.ntmps25
  by_cases hq : q = 0
  · subst hq
    go_wp2
    all_goals go_ret
    all_goals exact ⟨rfl, ret_bool (by rw [E.out]; rfl)⟩
  · have hq' : (q == 0) = false := by simp [hq]
    go_wp2
    all_goals go_ret
    all_goals exact ⟨rfl, ret_bool (by rw [E.out, hq']; rfl)⟩

theorem pow_le_of {B : Nat} (hB : 1 ≤ B) {i k : Nat} (h : i ≤ k) : (B : Int) ^ i ≤ (B : Int) ^ k := by
  have := Nat.pow_le_pow_right hB h
  have e (j : Nat) : ((B ^ j : Nat) : Int) = (B : Int) ^ j := by simp
  rw [← e, ← e]; omega

theorem pow_next {B i k : Nat} (hB : 1 ≤ B) (h : i < k) (hk : (B : Int) ^ k ≤ 9223372036854775807) : (B : Int) ^ i * B ≤ 9223372036854775807 ∧ 1 ≤ (B : Int) ^ i := by
  have := pow_le_of (B := B) hB (i := i + 1) (k := k) h
  rw [Int.pow_succ] at this
  have h2 := Int.pow_pos (n := (B : Int)) (m := i) (by omega)
  exact ⟨by omega, by omega⟩

set_option maxHeartbeats 1000000 in
theorem power8_any (w : World) (k : Nat) (hk : (8 : Int) ^ k ≤ 9223372036854775807) (hk2 : k ≤ 100) :
    Calls Try.prog 28 #[.int .i64 8, .int .i64 k] w fun e w' => w' = w ∧ e = .returned (.int .i64 (8 ^ k)) := by
  have hk' := hid hk
  clear hk
  go_enter Try.func28, Try.ntmps28
  go_wp2
  go_loop [5, 6] (fun n i => ∃ (j : Nat) (x : Int), j ≤ k ∧ 1 ≤ x ∧ i = .int .i64 j ∧ n = .int .i64 x ∧ Hid (x = 8 ^ j)) (fun _ i => k - (intOf i).toNat)
  case atStart => exact ⟨0, 1, by omega, by omega, rfl, rfl, hid rfl⟩
  case round =>
    obtain ⟨j, x, hj, hx1, rfl, rfl, hx⟩ := hrel
    by_cases hlt : j < k
    · have hnx := pow_next (B := 8) (by omega) hlt hk'.out
      have hx2 : x * 8 ≤ 9223372036854775807 := by rw [hx.out]; exact hnx.1
      clear hnx
      go_wp2
      go_round
      case rel => exact ⟨j + 1, x * 8, by omega, by omega, by go_num, by go_num, hid (by rw [hx.out, Int.pow_succ])⟩
      case measure => simp [intOf]; omega
    · have hjk : j = k := by omega
      go_wp2
      all_goals go_ret
      all_goals exact ⟨rfl, ret_int (by rw [hx.out, hjk])⟩

set_option maxHeartbeats 1000000 in
theorem power256_any (w : World) (k : Nat) (hk : (256 : Int) ^ k ≤ 9223372036854775807) (hk2 : k ≤ 100) :
    Calls Try.prog 28 #[.int .i64 256, .int .i64 k] w fun e w' => w' = w ∧ e = .returned (.int .i64 (256 ^ k)) := by
  have hk' := hid hk
  clear hk
  go_enter Try.func28, Try.ntmps28
  go_wp2
  go_loop [5, 6] (fun n i => ∃ (j : Nat) (x : Int), j ≤ k ∧ 1 ≤ x ∧ i = .int .i64 j ∧ n = .int .i64 x ∧ Hid (x = 256 ^ j)) (fun _ i => k - (intOf i).toNat)
  case atStart => exact ⟨0, 1, by omega, by omega, rfl, rfl, hid rfl⟩
  case round =>
    obtain ⟨j, x, hj, hx1, rfl, rfl, hx⟩ := hrel
    by_cases hlt : j < k
    · have hnx := pow_next (B := 256) (by omega) hlt hk'.out
      have hx2 : x * 256 ≤ 9223372036854775807 := by rw [hx.out]; exact hnx.1
      clear hnx
      go_wp2
      go_round
      case rel => exact ⟨j + 1, x * 256, by omega, by omega, by go_num, by go_num, hid (by rw [hx.out, Int.pow_succ])⟩
      case measure => simp [intOf]; omega
    · have hjk : j = k := by omega
      go_wp2
      all_goals go_ret
      all_goals exact ⟨rfl, ret_int (by rw [hx.out, hjk])⟩

theorem refMost_any (w : World) (n : Int) :
    Calls Try.prog 19 #[.int .i64 n] w fun e w' => w' = w ∧ e = .returned (.int .i64 (most n)) := by
  by_cases h1 : n < 1
  · go_enter Try.func19, Try.ntmps19
    go_wp2
    all_goals go_ret
    all_goals exact ⟨rfl, ret_int (by simp [most, h1])⟩
  · by_cases h2 : 20 < n
    · go_enter Try.func19, Try.ntmps19
      go_wp2
      all_goals go_ret
      all_goals exact ⟨rfl, ret_int (by rw [most, if_neg (by omega), if_pos h2])⟩
    · obtain ⟨k, rfl⟩ : ∃ k : Nat, n = k := ⟨n.toNat, by omega⟩
      have hp := pow8_le k (by omega)
      have hp1 := pow8_pos k
      go_enter Try.func19, Try.ntmps19
      go_wp2_with (go_at_call 28; refine (power8_any _ k (by omega) (by omega)).mono ?_; rintro e w' ⟨rfl, rfl⟩)
      all_goals go_ret
      all_goals exact ⟨rfl, ret_int (by rw [most, if_neg (by omega), if_neg (by omega)]; rfl)⟩
end Go.Proofs.Ytknkgahhehjikaa
