/-
  THE DOCUMENT's Number, and that the table's way is its way. Conditions: 512 bytes that can be read.
-/
import Derived.Test.YtgjbopbpekocpaaNu
import Derived.Test.YtgjbopbpekocpaaSm
namespace Go.Proofs.Ytgjbopbpekocpaa
open Go.ChangeShapes Go.WideShapes Go.ChangeAt Go.RowKit
set_option linter.unusedVariables false
set_option maxRecDepth 20000

/-- the document's numbers: which, where, how many bytes, its number in api -/
def numsD : List (Nat × Nat × Nat × Int) := [(0, 100, 8, 4), (1, 108, 8, 5), (2, 116, 8, 6), (3, 124, 12, 7), (4, 136, 12, 8), (5, 329, 8, 11), (6, 337, 8, 12)]

theorem nidx0 (w : World) : (Instr.index 73 (.agg #[.int .i64 100, .int .i64 8, .int .i64 108, .int .i64 8, .int .i64 116, .int .i64 8, .int .i64 124, .int .i64 12, .int .i64 136, .int .i64 12, .int .i64 329, .int .i64 8, .int .i64 337, .int .i64 8]) (.int .i64 0)).run Try.prog w = .ok (.agg #[.int .i64 100, .int .i64 8]) w := by kernel_rfl
theorem nidx1 (w : World) : (Instr.index 73 (.agg #[.int .i64 100, .int .i64 8, .int .i64 108, .int .i64 8, .int .i64 116, .int .i64 8, .int .i64 124, .int .i64 12, .int .i64 136, .int .i64 12, .int .i64 329, .int .i64 8, .int .i64 337, .int .i64 8]) (.int .i64 1)).run Try.prog w = .ok (.agg #[.int .i64 108, .int .i64 8]) w := by kernel_rfl
theorem nidx2 (w : World) : (Instr.index 73 (.agg #[.int .i64 100, .int .i64 8, .int .i64 108, .int .i64 8, .int .i64 116, .int .i64 8, .int .i64 124, .int .i64 12, .int .i64 136, .int .i64 12, .int .i64 329, .int .i64 8, .int .i64 337, .int .i64 8]) (.int .i64 2)).run Try.prog w = .ok (.agg #[.int .i64 116, .int .i64 8]) w := by kernel_rfl
theorem nidx3 (w : World) : (Instr.index 73 (.agg #[.int .i64 100, .int .i64 8, .int .i64 108, .int .i64 8, .int .i64 116, .int .i64 8, .int .i64 124, .int .i64 12, .int .i64 136, .int .i64 12, .int .i64 329, .int .i64 8, .int .i64 337, .int .i64 8]) (.int .i64 3)).run Try.prog w = .ok (.agg #[.int .i64 124, .int .i64 12]) w := by kernel_rfl
theorem nidx4 (w : World) : (Instr.index 73 (.agg #[.int .i64 100, .int .i64 8, .int .i64 108, .int .i64 8, .int .i64 116, .int .i64 8, .int .i64 124, .int .i64 12, .int .i64 136, .int .i64 12, .int .i64 329, .int .i64 8, .int .i64 337, .int .i64 8]) (.int .i64 4)).run Try.prog w = .ok (.agg #[.int .i64 136, .int .i64 12]) w := by kernel_rfl
theorem nidx5 (w : World) : (Instr.index 73 (.agg #[.int .i64 100, .int .i64 8, .int .i64 108, .int .i64 8, .int .i64 116, .int .i64 8, .int .i64 124, .int .i64 12, .int .i64 136, .int .i64 12, .int .i64 329, .int .i64 8, .int .i64 337, .int .i64 8]) (.int .i64 5)).run Try.prog w = .ok (.agg #[.int .i64 329, .int .i64 8]) w := by kernel_rfl
theorem nidx6 (w : World) : (Instr.index 73 (.agg #[.int .i64 100, .int .i64 8, .int .i64 108, .int .i64 8, .int .i64 116, .int .i64 8, .int .i64 124, .int .i64 12, .int .i64 136, .int .i64 12, .int .i64 329, .int .i64 8, .int .i64 337, .int .i64 8]) (.int .i64 6)).run Try.prog w = .ok (.agg #[.int .i64 337, .int .i64 8]) w := by kernel_rfl
theorem tidx0 (w : World) : (Instr.index 69 (.agg #[.int .i64 0, .int .i64 100, .int .i64 157, .int .i64 100, .int .i64 265, .int .i64 32, .int .i64 297, .int .i64 32, .int .i64 345, .int .i64 155]) (.int .i64 0)).run Try.prog w = .ok (.agg #[.int .i64 0, .int .i64 100]) w := by kernel_rfl
theorem tidx1 (w : World) : (Instr.index 69 (.agg #[.int .i64 0, .int .i64 100, .int .i64 157, .int .i64 100, .int .i64 265, .int .i64 32, .int .i64 297, .int .i64 32, .int .i64 345, .int .i64 155]) (.int .i64 1)).run Try.prog w = .ok (.agg #[.int .i64 157, .int .i64 100]) w := by kernel_rfl
theorem tidx2 (w : World) : (Instr.index 69 (.agg #[.int .i64 0, .int .i64 100, .int .i64 157, .int .i64 100, .int .i64 265, .int .i64 32, .int .i64 297, .int .i64 32, .int .i64 345, .int .i64 155]) (.int .i64 2)).run Try.prog w = .ok (.agg #[.int .i64 265, .int .i64 32]) w := by kernel_rfl
theorem tidx3 (w : World) : (Instr.index 69 (.agg #[.int .i64 0, .int .i64 100, .int .i64 157, .int .i64 100, .int .i64 265, .int .i64 32, .int .i64 297, .int .i64 32, .int .i64 345, .int .i64 155]) (.int .i64 3)).run Try.prog w = .ok (.agg #[.int .i64 297, .int .i64 32]) w := by kernel_rfl
theorem tidx4 (w : World) : (Instr.index 69 (.agg #[.int .i64 0, .int .i64 100, .int .i64 157, .int .i64 100, .int .i64 265, .int .i64 32, .int .i64 297, .int .i64 32, .int .i64 345, .int .i64 155]) (.int .i64 4)).run Try.prog w = .ok (.agg #[.int .i64 345, .int .i64 155]) w := by kernel_rfl

set_option maxHeartbeats 2000000 in
theorem rnumber_ok {w : World} {b off n c : Nat} {l : List Int} (h : Bys w (some ⟨b, off, none⟩) n c l) (h5 : n = 512) (i st wd : Nat) (id : Int) (hi : (i, st, wd, id) ∈ numsD) :
    Calls Try.prog 17 #[.slice (some ⟨b, off, none⟩) n c, .int .i64 i] w fun e w' => e = .returned (.tuple #[.int .i64 (numV id (got (fieldL l st wd))), .int .i64 (numE id (got (fieldL l st wd)))]) ∧ Below w.heap.size w w' := by
  have hi' : (n : Int) = 512 := by omega
  have h5' := hid h5
  have hc1 := h.2.1
  have hc2 := h.2.2.1
  have hp := fun w' (hb : Below w.heap.size w w') (st wd : Nat) (hn : st + wd ≤ n) => (h.below hb).part st wd hn
  have hfit : st + wd ≤ n := by
    simp only [numsD, List.mem_cons, Prod.mk.injEq, List.not_mem_nil, or_false] at hi
    omega
  have hge := fun w' (hb : Below w.heap.size w w') => refGet_any w' _ _ _ _ (hp w' hb st wd hfit)
  have hn1 : (345 : Int) ≤ n := by omega
  clear h h5 hp hfit
  generalize got (fieldL l st wd) = o at *
  have htx := fun w => numbers_ok w
  unfold numbersV at htx
  have x0 := nidx0
  have x1 := nidx1
  have x2 := nidx2
  have x3 := nidx3
  have x4 := nidx4
  have x5 := nidx5
  have x6 := nidx6
  simp only [numsD, List.mem_cons, Prod.mk.injEq, List.not_mem_nil, or_false] at hi
  cases o with
  | none =>
    change ∀ w' _, Calls _ _ _ _ fun e w'' => w'' = w' ∧ e = .returned (.tuple #[.int .i64 0, .bool false]) at hge
    rcases hi with ⟨rfl, rfl, rfl, rfl⟩ | ⟨rfl, rfl, rfl, rfl⟩ | ⟨rfl, rfl, rfl, rfl⟩ | ⟨rfl, rfl, rfl, rfl⟩ | ⟨rfl, rfl, rfl, rfl⟩ | ⟨rfl, rfl, rfl, rfl⟩ | ⟨rfl, rfl, rfl, rfl⟩
    all_goals
      go_enter Try.func17, Try.ntmps17
      go_wp2_with (first
        | (go_at_call 37; refine (htx _).mono ?_; rintro e w1 ⟨rfl, hb1⟩)
        | (go_at_call 38; refine (hge _ (hb1.alloc hb1.size _)).mono ?_; rintro e w' ⟨hw, rfl⟩; obtain rfl := hw.symm))
      all_goals go_ret2
      all_goals exact ⟨rfl, hb1.alloc hb1.size _⟩
  | some m =>
    change ∀ w' _, Calls _ _ _ _ fun e w'' => w'' = w' ∧ e = .returned (.tuple #[.int .i64 m, .bool true]) at hge
    have E1 : Hid (numV id (some m) = if mayB id m then m else 0) := hid rfl
    have E2 : Hid (numE id (some m) = if mayB id m then 0 else 5) := hid rfl
    unfold mayB at E1 E2
    by_cases hm : m < 0
    all_goals
      (first | rw [decide_eq_false (show ¬ (0 ≤ m) by omega)] at E1 E2 | rw [decide_eq_true (show 0 ≤ m by omega)] at E1 E2)
      rcases hi with ⟨rfl, rfl, rfl, rfl⟩ | ⟨rfl, rfl, rfl, rfl⟩ | ⟨rfl, rfl, rfl, rfl⟩ | ⟨rfl, rfl, rfl, rfl⟩ | ⟨rfl, rfl, rfl, rfl⟩ | ⟨rfl, rfl, rfl, rfl⟩ | ⟨rfl, rfl, rfl, rfl⟩
      all_goals
        go_enter Try.func17, Try.ntmps17
        go_wp2_with (first
          | (go_at_call 37; refine (htx _).mono ?_; rintro e w1 ⟨rfl, hb1⟩)
          | (go_at_call 38; refine (hge _ (hb1.alloc hb1.size _)).mono ?_; rintro e w' ⟨hw, rfl⟩; obtain rfl := hw.symm))
        all_goals go_ret2
        all_goals exact ⟨ret_two (by rw [E1.out]; rfl) (by rw [E2.out]; rfl), hb1.alloc hb1.size _⟩

/-- the table's way and the document's are one -/
theorem numR_which (l : List Int) (f : Int) (h : whichN f < 0) : numR l f rowsD = (0, 2) := by
  unfold whichN at h
  split at h <;> try (simp at h; done)
  split at h <;> try (simp at h; done)
  split at h <;> try (simp at h; done)
  split at h <;> try (simp at h; done)
  split at h <;> try (simp at h; done)
  split at h <;> try (simp at h; done)
  split at h <;> try (simp at h; done)
  rename_i a0 a1 a2 a3 a4 a5 a6
  simp only [rowsD, numR]
  simp [Ne.symm a0, Ne.symm a1, Ne.symm a2, Ne.symm a3, Ne.symm a4, Ne.symm a5, Ne.symm a6]

theorem numR_is (l : List Int) (f : Int) (h : ¬ whichN f < 0) : ∃ i st wd : Nat, (i, st, wd, f) ∈ numsD ∧ whichN f = i ∧ numR l f rowsD = (numV f (got (fieldL l st wd)), numE f (got (fieldL l st wd))) := by
  by_cases a0 : f = 4
  · subst a0; exact ⟨0, 100, 8, by decide, rfl, rfl⟩
  by_cases a1 : f = 5
  · subst a1; exact ⟨1, 108, 8, by decide, rfl, rfl⟩
  by_cases a2 : f = 6
  · subst a2; exact ⟨2, 116, 8, by decide, rfl, rfl⟩
  by_cases a3 : f = 7
  · subst a3; exact ⟨3, 124, 12, by decide, rfl, rfl⟩
  by_cases a4 : f = 8
  · subst a4; exact ⟨4, 136, 12, by decide, rfl, rfl⟩
  by_cases a5 : f = 11
  · subst a5; exact ⟨5, 329, 8, by decide, rfl, rfl⟩
  by_cases a6 : f = 12
  · subst a6; exact ⟨6, 337, 8, by decide, rfl, rfl⟩
  exfalso
  apply h
  unfold whichN
  rw [if_neg a0, if_neg a1, if_neg a2, if_neg a3, if_neg a4, if_neg a5, if_neg a6]
  decide
end Go.Proofs.Ytgjbopbpekocpaa
