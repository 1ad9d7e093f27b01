/-
  THE CHAPTER's EXAMPLE, as the statements ask for it: it holds. No condition.
-/
import Derived.Test.YtlepgfkhgmgobaaMend
import Derived.Test.YtlepgfkhgmgobaaRmend
namespace Go.Proofs.Ytlepgfkhgmgobaa
open Go.ChangeShapes Go.WideShapes Go.ChangeAt Go.RowKit
set_option linter.unusedVariables false

theorem live_mend : mendL [255, 97] = [239, 191, 189, 97] := by
  have e1 : ok [255, 97] = false := by unfold ok; rw [Lib.decodeL_N]; decide
  have e2 : ok [97] = true := by unfold ok; rw [Lib.decodeL_N]; decide
  have e3 : wd [97] = 1 := by unfold wd; rw [Lib.decodeL_N]; decide
  rw [mend_step _ (by simp), e1, bad_wd e1]
  show [239, 191, 189] ++ mendL [97] = _
  rw [mend_step _ (by simp), e2, e3]
  rfl
theorem live_first : firstL [97, 255] = 1 := by
  have e1 : ok [255] = false := by unfold ok; rw [Lib.decodeL_N]; decide
  have e2 : ok [97, 255] = true := by unfold ok; rw [Lib.decodeL_N]; decide
  have e3 : wd [97, 255] = 1 := by unfold wd; rw [Lib.decodeL_N]; decide
  unfold firstL
  rw [pcs_step _ (by simp), e2, e3]
  show firstP (pcs [255]) 1 = 1
  rw [pcs_step _ (by simp), e1]
  rfl

theorem live_mend_walk (w : World) : Calls Try.prog 12 #[.string ⟨#[255, 97]⟩] w fun e w' => e = .returned (.string ⟨#[239, 191, 189, 97]⟩) ∧ Below w.heap.size w w' := by
  have := mend_walk ⟨#[255, 97]⟩ (by decide) w
  rw [show (⟨#[255, 97]⟩ : ByteArray).data.toList = [255, 97] from rfl, live_mend] at this
  exact this
theorem live_first_walk (w : World) : Calls Try.prog 8 #[.string ⟨#[97, 255]⟩] w fun e w' => e = .returned (.int .i64 1) ∧ Below w.heap.size w w' := by
  have := first_walk ⟨#[97, 255]⟩ (by decide) w
  rw [show (⟨#[97, 255]⟩ : ByteArray).data.toList = [97, 255] from rfl, live_first] at this
  exact this

theorem below_a {w w1 w2 : World} {A B C : Obj} (h1 : Below (w.alloc A).drew.heap.size (w.alloc A).drew w1) (h2 : Below ((w1.alloc B).alloc C).heap.size ((w1.alloc B).alloc C) w2) : Below w.heap.size w w2 := by
  have b1 : Below w.heap.size w (w.alloc A).drew := ((Below.refl _ w).alloc (Nat.le_refl _) A).drew
  have b2 := b1.trans (h1.mono b1.size)
  have b3 := b2.alloc b2.size B
  have b4 := b3.alloc b3.size C
  exact b4.trans (h2.mono b4.size)
theorem below_b {w w1 w2 : World} {A B C : Obj} (h1 : Below ((w.alloc A).alloc B).drew.heap.size ((w.alloc A).alloc B).drew w1) (h2 : Below (w1.alloc C).heap.size (w1.alloc C) w2) : Below w.heap.size w w2 := by
  have b0 : Below w.heap.size w (w.alloc A) := (Below.refl _ w).alloc (Nat.le_refl _) A
  have b1 : Below w.heap.size w ((w.alloc A).alloc B).drew := (b0.alloc b0.size B).drew
  have b2 := b1.trans (h1.mono b1.size)
  have b3 := b2.alloc b2.size C
  exact b3.trans (h2.mono b3.size)
theorem one_lt (w : World) (o : Obj) : w.heap.size < (w.alloc o).heap.size := by simp
theorem two_lt (w : World) (o o' : Obj) : w.heap.size < ((w.alloc o).alloc o').heap.size := by simp; omega
theorem two_lt' (w : World) (o o' : Obj) : w.heap.size + 1 < ((w.alloc o).alloc o').heap.size := by simp
theorem keep_cells {W W' : World} (h : Below W.heap.size W W') : ∀ a : Addr, a.block < W.heap.size → W'.cell? a = W.cell? a := by
  intro a ha
  have := h.block a.block ha
  unfold World.cell?
  rw [this]

theorem conv_two (x y : Int) (hx : 0 ≤ x ∧ x ≤ 255) (hy : 0 ≤ y ∧ y ≤ 255) (W : World) (k : Nat) (h0 : W.cell? ⟨k, 0, none⟩ = some (.int .u8 x)) (h1 : W.cell? ⟨k, 1, none⟩ = some (.int .u8 y)) :
    (convert 22 9 (.slice (some ⟨k, 0, none⟩) 2 2)).run Try.prog W = .ok (.string (strOfNums [x, y])) W := by
  refine bys_string (P := Try.prog) Try.underlying22 Try.underlying5 Try.underlying9 (Bys.mk' rfl (Nat.le_refl _) (by decide) ⟨?_, ?_⟩)
  · intro n hn; simp at hn; omega
  · intro i hi
    match i, hi with
    | 0, _ => exact h0
    | 1, _ => exact h1
theorem conv_four (x y z u : Int) (hx : 0 ≤ x ∧ x ≤ 255) (hy : 0 ≤ y ∧ y ≤ 255) (hz : 0 ≤ z ∧ z ≤ 255) (hu : 0 ≤ u ∧ u ≤ 255) (W : World) (k : Nat) (h0 : W.cell? ⟨k, 0, none⟩ = some (.int .u8 x)) (h1 : W.cell? ⟨k, 1, none⟩ = some (.int .u8 y)) (h2 : W.cell? ⟨k, 2, none⟩ = some (.int .u8 z)) (h3 : W.cell? ⟨k, 3, none⟩ = some (.int .u8 u)) :
    (convert 22 9 (.slice (some ⟨k, 0, none⟩) 4 4)).run Try.prog W = .ok (.string (strOfNums [x, y, z, u])) W := by
  refine bys_string (P := Try.prog) Try.underlying22 Try.underlying5 Try.underlying9 (Bys.mk' rfl (Nat.le_refl _) (by decide) ⟨?_, ?_⟩)
  · intro n hn; simp at hn; omega
  · intro i hi
    match i, hi with
    | 0, _ => exact h0
    | 1, _ => exact h1
    | 2, _ => exact h2
    | 3, _ => exact h3

set_option maxHeartbeats 4000000 in
set_option maxRecDepth 20000 in
theorem alive_walk (w : World) : Calls Try.prog 6 #[] w fun e w' => e = .returned (.bool true) ∧ Below w.heap.size w w' := by
  have mixed : Try.prog.follows .mixedOrders = true := by kernel_rfl
  have hA : ∀ (W : World) (k : Nat), W.cell? ⟨k, 0, none⟩ = some (.int .u8 255) → W.cell? ⟨k, 1, none⟩ = some (.int .u8 97) → (convert 22 9 (.slice (some ⟨k, 0, none⟩) 2 2)).run Try.prog W = .ok (.string ⟨#[255, 97]⟩) W := conv_two 255 97 (by decide) (by decide)
  have hB : ∀ (W : World) (k : Nat), W.cell? ⟨k, 0, none⟩ = some (.int .u8 97) → W.cell? ⟨k, 1, none⟩ = some (.int .u8 255) → (convert 22 9 (.slice (some ⟨k, 0, none⟩) 2 2)).run Try.prog W = .ok (.string ⟨#[97, 255]⟩) W := conv_two 97 255 (by decide) (by decide)
  have hC : ∀ (W : World) (k : Nat), W.cell? ⟨k, 0, none⟩ = some (.int .u8 239) → W.cell? ⟨k, 1, none⟩ = some (.int .u8 191) → W.cell? ⟨k, 2, none⟩ = some (.int .u8 189) → W.cell? ⟨k, 3, none⟩ = some (.int .u8 97) → (convert 22 9 (.slice (some ⟨k, 0, none⟩) 4 4)).run Try.prog W = .ok (.string ⟨#[239, 191, 189, 97]⟩) W := conv_four 239 191 189 97 (by decide) (by decide) (by decide) (by decide)
  go_enter Try.func6, Try.ntmps6
  go_wp2_with fail
  go_region_with (first | (go_at_call 12; refine (live_mend_walk _).mono ?_; rintro e w1 ⟨rfl, hb1⟩; (first | have k1 := fun o => keep_cells hb1 ⟨w.heap.size, o, none⟩ (two_lt _ _ _) | have k1 := fun o => keep_cells hb1 ⟨w.heap.size, o, none⟩ (one_lt _ _)); (first | have k2 := fun o => keep_cells hb1 ⟨w.heap.size + 1, o, none⟩ (two_lt' _ _ _) | skip)) | (go_at_call 8; refine (live_first_walk _).mono ?_; rintro e w2 ⟨rfl, hb2⟩))
  all_goals go_wp2
  all_goals go_ret
  all_goals exact ⟨rfl, by first | exact below_a hb1 hb2 | exact below_b hb1 hb2⟩

end Go.Proofs.Ytlepgfkhgmgobaa
