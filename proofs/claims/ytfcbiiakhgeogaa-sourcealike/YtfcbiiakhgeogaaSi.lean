/-
  READERS OF BLOCKS: Index, Held, NewBlocks; what no reader tells. Conditions: none.
-/
import Derived.Test.YtfcbiiakhgeogaaSn
namespace Go.Proofs.Ytfcbiiakhgeogaa
open Go.ChangeShapes Go.WideShapes Go.ChangeAt Go.RowKit Go.Lib
set_option linter.unusedVariables false
set_option linter.unusedSimpArgs false
set_option maxRecDepth 20000

theorem index_ok {w : World} {p : Nat} {L Z : List Int} {i t : Nat} {R : Nat → Prop} (h : Rd w p L Z i t R) : Calls Try.prog 15 #[.pointer (some ⟨p, 0, none⟩)] w fun e w' => w' = w ∧ e = .returned (.int .i64 t) := by
  obtain ⟨sv, kv, Rs, Rk, h1, h2, h3, h4, h5, h6, h7⟩ := h
  have hc : w.cell? ⟨p, 2, none⟩ = some (.int .i64 (t : Int)) := by have := h2.cell 2; simpa using this
  go_enter Try.func15, Try.ntmps15
  go_wp2
  go_ret
  exact ⟨rfl, rfl⟩
theorem index_nil (w : World) : Calls Try.prog 15 #[.pointer none] w fun e w' => w' = w ∧ e = .returned (.int .i64 0) := by
  go_enter Try.func15, Try.ntmps15
  go_wp2
  go_ret
  exact ⟨rfl, rfl⟩
theorem held_ok {w : World} {p : Nat} {L Z : List Int} {i t : Nat} {R : Nat → Prop} (h : Rd w p L Z i t R) : Calls Try.prog 16 #[.pointer (some ⟨p, 0, none⟩)] w fun e w' => w' = w ∧ e = .returned (.int .i64 ((eN L.length Z i - 512 * t : Nat) : Int)) := by
  obtain ⟨sv, kv, Rs, Rk, h1, h2, h3, h4, h5, h6, h7⟩ := h
  obtain ⟨ka, kc, rfl, hkc1, hkc2⟩ := h4.rng.shape
  have hkl : (u8s (kept L Z i t)).length = eN L.length Z i - 512 * t := by rw [u8s_len', kept_len]
  rw [hkl] at hkc1 h2
  generalize eN L.length Z i - 512 * t = m at *
  have hc : w.cell? ⟨p, 1, none⟩ = some (.slice ka m kc) := by have := h2.cell 1; simpa using this
  replace hkl := hid hkl
  go_enter Try.func16, Try.ntmps16
  go_wp2
  go_ret
  exact ⟨rfl, rfl⟩
theorem held_nil (w : World) : Calls Try.prog 16 #[.pointer none] w fun e w' => w' = w ∧ e = .returned (.int .i64 0) := by
  go_enter Try.func16, Try.ntmps16
  go_wp2
  go_ret
  exact ⟨rfl, rfl⟩
theorem next_nil (w : World) : Calls Try.prog 18 #[.pointer none] w fun e w' => w' = w ∧ e = .returned (.tuple #[.slice none 0 0, .int .u8 1]) := by
  go_enter Try.func18, Try.ntmps18
  go_wp2
  go_ret2
  exact ⟨rfl, rfl⟩
theorem blocks_ok {w : World} {sv : Value} {L Z : List Int} {R : Nat → Prop} {B : Nat} (h : Sc w sv L Z R) (hB : B ≤ w.heap.size) (hR : ∀ k, R k → B ≤ k) :
    Calls Try.prog 14 #[sv] w fun e w' => (∃ p, e = .returned (.pointer (some ⟨p, 0, none⟩)) ∧ B ≤ p ∧ Rd w' p L Z 0 0 (fun k => R k ∨ w.heap.size ≤ k)) ∧ Below w.heap.size w w' := by
  have h0 := h
  have hs : ∃ a, sv = .pointer a := by
    rcases h with ⟨rfl, -⟩ | ⟨s, rfl, -⟩
    · exact ⟨_, rfl⟩
    · exact ⟨_, rfl⟩
  obtain ⟨a, rfl⟩ := hs
  clear h
  go_enter Try.func14, Try.ntmps14
  go_wp2
  go_ret
  have hb : Below w.heap.size w (w.alloc (.cells #[.pointer a, .slice none 0 0, .int .i64 0] 49)) := (Below.refl _ _).alloc (Nat.le_refl _) _
  refine ⟨⟨_, rfl, hB, .pointer a, .slice none 0 0, fun k => R k ∧ k < w.heap.size, No, .inr (Nat.le_refl _), Blk.new _ _ _, ?_, ?_, ?_, fun k h => h.elim, by simp⟩, hb⟩
  · have e : L.drop (eN L.length Z 0) = L := by simp [eN]
    rw [e, zAt_zero]
    exact (h0.mono (R' := fun k => R k ∧ k < w.heap.size) (fun k hk h => ⟨h, hk⟩)).nr (S := No) (Nr.of_below hb) (fun _ _ h => h)
  · have e : kept L Z 0 0 = [] := by simp [kept, eN]
    rw [e]; exact Kp.nil _ _
  · rintro k ⟨h, hk⟩
    exact ⟨.inl h, by omega, fun h => h⟩

end Go.Proofs.Ytfcbiiakhgeogaa
