/-
  Numbers in fields (from stage 1): Digs. No condition.
-/
import Derived.Test.YtgjbopbpekocpaaPows
import Derived.Test.YtgjbopbpekocpaaRowops
namespace Go.Proofs.Ytgjbopbpekocpaa
open Go.ChangeShapes Go.WideShapes Go.ChangeAt Go.RowKit
set_option linter.unusedVariables false
set_option maxRecDepth 20000

set_option maxHeartbeats 1000000 in
theorem digits8_any (w : World) (n : Int) (k : Nat) (hk : k ≤ 100) (hn : 0 ≤ n) (hn2 : n ≤ 9223372036854775807) :
    Calls Try.prog 58 #[.int .i64 n, .int .i64 8, .int .i64 k] w fun e w' => ∃ g, e = .returned (.slice (some ⟨g, 0, none⟩) k k) ∧
      w'.ownsRow w.heap.size 5 1 (.slice (some ⟨g, 0, none⟩) k k) k (u8s (digs 8 n k)) ∧ Below w.heap.size w w' := by
  obtain ⟨i0, hi, hz0, hz1, hz2⟩ := info_parts Try.info5
  go_enter Try.func58, Try.ntmps58
  go_wp2_with (refine wpList_make_full _ rfl (.tmp 9) (.tmp 9) 22 rfl w.heap.size 5 i0 (.int .u8 0) 1 Try.underlying22 hi hz0 hz1 _ _ _ _ k rfl rfl rfl rfl (by rw [hz2]; omega) (by unfold maxLen; omega) (Nat.le_refl _) ?_; intro w1 hown hgrow; try rw [Nat.mul_one] at hown)
  have hown1 := hid hown
  clear hown
  have hbel := (Below.refl w.heap.size w).grown hgrow (Nat.le_refl _) (by simp)
  go_loopw [0, 8] (fun x i wr => ∃ (a j : Nat) (m : Int) (d : List Int), Hid (a + j = k) ∧ 0 ≤ m ∧ m ≤ 9223372036854775807 ∧ i = .int .i64 a ∧ x = .int .i64 m ∧
     wr.ownsRow w.heap.size 5 1 (.slice (some ⟨w.heap.size, 0, none⟩) k k) k (u8s (List.replicate j 0 ++ d)) ∧ Below w.heap.size w wr ∧ Hid (digs 8 n k = digs 8 m j ++ d)) (fun _ i _ => k - (intOf i).toNat)
  case atStart => exact ⟨0, k, n, [], hid (by omega), hn, hn2, rfl, rfl, by rw [List.append_nil, ← madeBytes]; exact hown1.out, hbel, hid (by simp)⟩
  case round =>
    obtain ⟨a, j, m, d, hajk, hm0, hm1, rfl, rfl, hown, hbe, hdg⟩ := hrel
    clear hown1 hgrow hbel
    by_cases hlt : a < k
    · obtain ⟨j, rfl⟩ : ∃ j', j = j' + 1 := ⟨j - 1, by have := hajk.out; omega⟩
      have hidx : (k : Int) - 1 - (a : Int) = (j : Int) := by have := hajk.out; omega
      have hjk : j < k := by have := hajk.out; omega
      obtain ⟨hc, hf, hst⟩ := row_step (v := m % 8) hown
      have hst' := hid hst
      have hD := hid hdg.out
      clear hst hown hdg
      go_wp2
      go_roundw
      case rel => exact ⟨a + 1, j, m / 8, _, hid (by have := hajk.out; omega), by omega, by omega, by go_num, by go_num, hst'.out, hbe.setCell (Nat.le_refl _) _, hid (by rw [hD.out, digs]; simp)⟩
      case measure => simp [intOf]; omega
    · have hjk : j = 0 := by have := hajk.out; omega
      subst hjk
      have hown1 := hid hown
      clear hown
      go_wp2
      all_goals go_ret
      all_goals exact ⟨_, rfl, by rw [hdg.out]; exact hown1.out, hbe⟩

set_option maxHeartbeats 1000000 in
theorem digits256_any (w : World) (n : Int) (k : Nat) (hk : k ≤ 100) (hn : 0 ≤ n) (hn2 : n ≤ 9223372036854775807) :
    Calls Try.prog 58 #[.int .i64 n, .int .i64 256, .int .i64 k] w fun e w' => ∃ g, e = .returned (.slice (some ⟨g, 0, none⟩) k k) ∧
      w'.ownsRow w.heap.size 5 1 (.slice (some ⟨g, 0, none⟩) k k) k (u8s (digs 256 n k)) ∧ Below w.heap.size w w' := by
  obtain ⟨i0, hi, hz0, hz1, hz2⟩ := info_parts Try.info5
  go_enter Try.func58, Try.ntmps58
  go_wp2_with (refine wpList_make_full _ rfl (.tmp 9) (.tmp 9) 22 rfl w.heap.size 5 i0 (.int .u8 0) 1 Try.underlying22 hi hz0 hz1 _ _ _ _ k rfl rfl rfl rfl (by rw [hz2]; omega) (by unfold maxLen; omega) (Nat.le_refl _) ?_; intro w1 hown hgrow; try rw [Nat.mul_one] at hown)
  have hown1 := hid hown
  clear hown
  have hbel := (Below.refl w.heap.size w).grown hgrow (Nat.le_refl _) (by simp)
  go_loopw [0, 8] (fun x i wr => ∃ (a j : Nat) (m : Int) (d : List Int), Hid (a + j = k) ∧ 0 ≤ m ∧ m ≤ 9223372036854775807 ∧ i = .int .i64 a ∧ x = .int .i64 m ∧
     wr.ownsRow w.heap.size 5 1 (.slice (some ⟨w.heap.size, 0, none⟩) k k) k (u8s (List.replicate j 0 ++ d)) ∧ Below w.heap.size w wr ∧ Hid (digs 256 n k = digs 256 m j ++ d)) (fun _ i _ => k - (intOf i).toNat)
  case atStart => exact ⟨0, k, n, [], hid (by omega), hn, hn2, rfl, rfl, by rw [List.append_nil, ← madeBytes]; exact hown1.out, hbel, hid (by simp)⟩
  case round =>
    obtain ⟨a, j, m, d, hajk, hm0, hm1, rfl, rfl, hown, hbe, hdg⟩ := hrel
    clear hown1 hgrow hbel
    by_cases hlt : a < k
    · obtain ⟨j, rfl⟩ : ∃ j', j = j' + 1 := ⟨j - 1, by have := hajk.out; omega⟩
      have hidx : (k : Int) - 1 - (a : Int) = (j : Int) := by have := hajk.out; omega
      have hjk : j < k := by have := hajk.out; omega
      obtain ⟨hc, hf, hst⟩ := row_step (v := m % 256) hown
      have hst' := hid hst
      have hD := hid hdg.out
      clear hst hown hdg
      go_wp2
      go_roundw
      case rel => exact ⟨a + 1, j, m / 256, _, hid (by have := hajk.out; omega), by omega, by omega, by go_num, by go_num, hst'.out, hbe.setCell (Nat.le_refl _) _, hid (by rw [hD.out, digs]; simp)⟩
      case measure => simp [intOf]; omega
    · have hjk : j = 0 := by have := hajk.out; omega
      subst hjk
      have hown1 := hid hown
      clear hown
      go_wp2
      all_goals go_ret
      all_goals exact ⟨_, rfl, by rw [hdg.out]; exact hown1.out, hbe⟩

end Go.Proofs.Ytgjbopbpekocpaa
