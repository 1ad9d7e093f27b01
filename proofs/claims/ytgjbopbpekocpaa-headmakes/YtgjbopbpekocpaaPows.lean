/-
  Numbers in fields (from stage 1): Pows. No condition.
-/
import Derived.Test.YtgjbopbpekocpaaPut
import Derived.Test.YtgjbopbpekocpaaRowops
namespace Go.Proofs.Ytgjbopbpekocpaa
open Go.ChangeShapes Go.WideShapes Go.ChangeAt Go.RowKit
set_option linter.unusedVariables false
set_option maxRecDepth 20000

theorem pow_next {B i k : Nat} (hB : 1 ≤ B) (h : i < k) (hk : (B : Int) ^ k ≤ 9223372036854775807) : (B : Int) ^ i * B ≤ 9223372036854775807 ∧ 1 ≤ (B : Int) ^ i := by
  have := pow_le_of (B := B) hB (i := i + 1) (k := k) h
  rw [Int.pow_succ] at this
  have h2 := Int.pow_pos (n := (B : Int)) (m := i) (by omega)
  exact ⟨by omega, by omega⟩

set_option maxHeartbeats 1000000 in
theorem power8_any (w : World) (k : Nat) (hk : (8 : Int) ^ k ≤ 9223372036854775807) (hk2 : k ≤ 100) :
    Calls Try.prog 59 #[.int .i64 8, .int .i64 k] w fun e w' => w' = w ∧ e = .returned (.int .i64 (8 ^ k)) := by
  have hk' := hid hk
  clear hk
  go_enter Try.func59, Try.ntmps59
  go_wp2
  go_loop [5, 6] (fun n i => ∃ (j : Nat) (x : Int), j ≤ k ∧ 1 ≤ x ∧ i = .int .i64 j ∧ n = .int .i64 x ∧ Hid (x = 8 ^ j)) (fun _ i => k - (intOf i).toNat)
  case atStart => exact ⟨0, 1, by omega, by omega, rfl, rfl, hid rfl⟩
  case round =>
    obtain ⟨j, x, hj, hx1, rfl, rfl, hx⟩ := hrel
    by_cases hlt : j < k
    · have hnx := pow_next (B := 8) (by omega) hlt hk'.out
      have hx2 : x * 8 ≤ 9223372036854775807 := by rw [hx.out]; exact hnx.1
      clear hnx
      go_wp2
      go_round
      case rel => exact ⟨j + 1, x * 8, by omega, by omega, by go_num, by go_num, hid (by rw [hx.out, Int.pow_succ])⟩
      case measure => simp [intOf]; omega
    · have hjk : j = k := by omega
      go_wp2
      all_goals go_ret
      all_goals exact ⟨rfl, ret_int (by rw [hx.out, hjk])⟩

set_option maxHeartbeats 1000000 in
theorem power256_any (w : World) (k : Nat) (hk : (256 : Int) ^ k ≤ 9223372036854775807) (hk2 : k ≤ 100) :
    Calls Try.prog 59 #[.int .i64 256, .int .i64 k] w fun e w' => w' = w ∧ e = .returned (.int .i64 (256 ^ k)) := by
  have hk' := hid hk
  clear hk
  go_enter Try.func59, Try.ntmps59
  go_wp2
  go_loop [5, 6] (fun n i => ∃ (j : Nat) (x : Int), j ≤ k ∧ 1 ≤ x ∧ i = .int .i64 j ∧ n = .int .i64 x ∧ Hid (x = 256 ^ j)) (fun _ i => k - (intOf i).toNat)
  case atStart => exact ⟨0, 1, by omega, by omega, rfl, rfl, hid rfl⟩
  case round =>
    obtain ⟨j, x, hj, hx1, rfl, rfl, hx⟩ := hrel
    by_cases hlt : j < k
    · have hnx := pow_next (B := 256) (by omega) hlt hk'.out
      have hx2 : x * 256 ≤ 9223372036854775807 := by rw [hx.out]; exact hnx.1
      clear hnx
      go_wp2
      go_round
      case rel => exact ⟨j + 1, x * 256, by omega, by omega, by go_num, by go_num, hid (by rw [hx.out, Int.pow_succ])⟩
      case measure => simp [intOf]; omega
    · have hjk : j = k := by omega
      go_wp2
      all_goals go_ret
      all_goals exact ⟨rfl, ret_int (by rw [hx.out, hjk])⟩

theorem refMost_any (w : World) (n : Int) :
    Calls Try.prog 57 #[.int .i64 n] w fun e w' => w' = w ∧ e = .returned (.int .i64 (most n)) := by
  by_cases h1 : n < 1
  · go_enter Try.func57, Try.ntmps57
    go_wp2
    all_goals go_ret
    all_goals exact ⟨rfl, ret_int (by simp [most, h1])⟩
  · by_cases h2 : 20 < n
    · go_enter Try.func57, Try.ntmps57
      go_wp2
      all_goals go_ret
      all_goals exact ⟨rfl, ret_int (by rw [most, if_neg (by omega), if_pos h2])⟩
    · obtain ⟨k, rfl⟩ : ∃ k : Nat, n = k := ⟨n.toNat, by omega⟩
      have hp := pow8_le k (by omega)
      have hp1 := pow8_pos k
      go_enter Try.func57, Try.ntmps57
      go_wp2_with (go_at_call 59; refine (power8_any _ k (by omega) (by omega)).mono ?_; rintro e w' ⟨rfl, rfl⟩)
      all_goals go_ret
      all_goals exact ⟨rfl, ret_int (by rw [most, if_neg (by omega), if_neg (by omega)]; rfl)⟩

end Go.Proofs.Ytgjbopbpekocpaa
