/-
  THE CHAPTER'S EXAMPLE, as the statements ask for it: it holds. No condition.
-/
import Derived.Test.YtnoeijplgidoeaaSeal
namespace Go.Proofs.Ytnoeijplgidoeaa
open Go.ChangeShapes Go.WideShapes Go.ChangeAt Go.RowKit
set_option linter.unusedVariables false

theorem pl_zeros (n : Nat) : ∀ i, pl i (List.replicate n 0) = 32 * ((min 8 (156 - i) : Nat) : Int) - 32 * ((min 8 (156 - (i + n)) : Nat) : Int) := by
  induction n with
  | zero => intro i; simp [pl]
  | succ n ih =>
    intro i
    rw [List.replicate_succ, pl, ih, cnt]
    split <;> omega

theorem seal_zeros : sealL (List.replicate 512 0) = List.replicate 148 0 ++ [48, 48, 48, 52, 48, 48, 0, 32] ++ List.replicate 356 0 := by
  unfold sealL
  rw [pl_zeros]
  show _ ++ lets 256 6 ++ _ = _
  rw [show lets 256 6 = [48, 48, 48, 52, 48, 48] by decide, List.take_replicate, List.drop_replicate]
  rfl

theorem zeros_range : ∀ x ∈ List.replicate 512 (0 : Int), 0 ≤ x ∧ x ≤ 255 := by
  intro x hx; rw [List.eq_of_mem_replicate hx]; omega

theorem field_zeros : ((sealL (List.replicate 512 0)).drop 148).take 8 = [48, 48, 48, 52, 48, 48, 0, 32] := by
  rw [seal_zeros, List.append_assoc, List.drop_left' (by rw [List.length_replicate]), List.take_left' (by rfl)]

/-- the field of what is sealed of nothing but noughts, as a string -/
theorem sealed_field {w : World} {B g c : Nat} (h : w.ownsRow B 5 1 (.slice (some ⟨g, 0, none⟩) 512 c) 512 (u8s (sealL (List.replicate 512 0)))) :
    (convert 22 9 (.slice (some ⟨g, 148, none⟩) 8 (c - 148))).run Try.prog w = .ok (.string ⟨#[48, 48, 48, 52, 48, 48, 0, 32]⟩) w ∧ 512 ≤ c ∧ c ≤ 9223372036854775807 := by
  obtain ⟨a, c', e, hb⟩ := own_bys h (seal_length _ (by rw [List.length_replicate])) (seal_range _ zeros_range)
  simp only [Value.slice.injEq, true_and] at e
  obtain ⟨rfl, rfl⟩ := e
  have hF := hb.field rfl
  rw [field_zeros, Nat.zero_add] at hF
  exact ⟨bys_string (P := Try.prog) Try.underlying22 Try.underlying5 Try.underlying9 hF, hb.2.1, hb.2.2.1⟩

set_option maxHeartbeats 4000000 in
set_option maxRecDepth 20000 in
theorem alive_any (w : World) : Calls Try.prog 5 #[] w fun e w' => e = .returned (.bool true) ∧ Below w.heap.size w w' := by
  obtain ⟨i0, hi, hz0, hz1, hz2⟩ := info_parts Try.info5
  go_enter Try.func5, Try.ntmps5
  go_wp2_with (first
    | (refine wpList_make_full _ rfl (.const (.int .i64 512)) (.const (.int .i64 512)) 22 rfl w.heap.size 5 i0 (.int .u8 0) 1 Try.underlying22 hi hz0 hz1 _ _ _ _ 512 rfl rfl rfl rfl (by rw [hz2]; omega) (by unfold maxLen; omega) (Nat.le_refl _) ?_; intro w1 hown hgrow; (try rw [Nat.mul_one] at hown); rw [madeBytes'] at hown; have hb1 := (Below.refl w.heap.size w).grown hgrow (Nat.le_refl _) (by simp); obtain ⟨a, c, e, hby⟩ := own_bys hown (by rw [List.length_replicate]) zeros_range; simp only [Value.slice.injEq, true_and] at e; obtain ⟨rfl, rfl⟩ := e; clear hown hgrow)
    | (go_at_call 7; refine (seal_ok hby rfl).mono ?_; rintro e w2 ⟨g, c, rfl, hown, hb2⟩; obtain ⟨hconv, hc1, hc2⟩ := sealed_field hown; clear hown hby))
  all_goals go_ret
  all_goals exact ⟨rfl, hb1.trans (hb2.mono hb1.size)⟩
end Go.Proofs.Ytnoeijplgidoeaa
