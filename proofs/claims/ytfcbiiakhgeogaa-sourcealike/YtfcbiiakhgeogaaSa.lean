/-
  THE CHAPTER's EXAMPLE; WHAT NO SOURCE AND NO READER TELL; SAME BYTES; HOW MUCH IS GONE THROUGH. Conditions: none.
-/
import Derived.Test.YtfcbiiakhgeogaaSi
namespace Go.Proofs.Ytfcbiiakhgeogaa
open Go.ChangeShapes Go.WideShapes Go.ChangeAt Go.RowKit Go.Lib
set_option linter.unusedVariables false
set_option linter.unusedSimpArgs false
set_option maxRecDepth 20000

theorem lit_rng (w : World) (xs : List Value) (e : TypeId) (C : Array Value) (hC : C.toList = xs) (n : Nat) (hn : xs.length = n) (hx : ∀ u ∈ xs, u.oneCell' = true) (hl : n ≤ 1000000) :
    Rng (w.alloc (.cells C e)) (.slice (some ⟨w.heap.size, 0, none⟩) n n) xs (fun k => k = w.heap.size) := by
  subst hn
  refine ⟨_, xs.length, rfl, Nat.le_refl _, by unfold maxLen; omega, hx, .inr ⟨w.heap.size, 0, rfl, rfl, fun j v hv => ?_⟩⟩
  rw [Nat.zero_add, cell_of_row _ _ j _ e (0, 0) (heap_alloc_last w _), ← Array.getElem?_toList, hC]; exact hv

theorem i64s_one (l : List Int) : ∀ u ∈ i64s l, u.oneCell' = true := ints_oneCell _ _

def Z0 : List Int := [7, 600]
theorem z0a : zAt Z0 0 = [7, 600] := by decide
theorem z0b : zAt Z0 1 = [600] := by decide
theorem z0c : zAt Z0 2 = [600] := by decide
theorem e0 : eN 513 Z0 0 = 0 := rfl
theorem e1 : eN 513 Z0 1 = 7 := by decide
theorem e2 : eN 513 Z0 2 = 513 := by decide
theorem st1 : Stop 513 Z0 0 0 2 := ⟨by omega, fun k h1 h2 => by
  rcases (show k = 0 ∨ k = 1 by omega) with rfl | rfl
  · rw [e0]; omega
  · rw [e1]; omega, by rw [e2]; omega⟩
theorem st2 : Stop 513 Z0 1 2 2 := ⟨by omega, fun k h1 h2 => by omega, by rw [e2]; omega⟩

theorem alive_ok (w : World) : Calls Try.prog 7 #[] w fun e w' => e = .returned (.bool true) ∧ Below w.heap.size w w' := by
  obtain ⟨L, hL⟩ : ∃ L : List Int, L = List.replicate 513 0 := ⟨_, rfl⟩
  have hLl : L.length = 513 := by rw [hL]; simp
  obtain ⟨M, hM, hmake⟩ : ∃ M : Array Value, M.toList = u8s L ∧ ∀ w, (Instr.makeSlice 22 (.int .i64 513) (.int .i64 513)).run Try.prog w = .ok (.slice (some ⟨w.heap.size, 0, none⟩) 513 513) (w.alloc (.cells M 5)) := by
    obtain ⟨i0, hi, hz0, hz1, hz2⟩ := info_parts info_b
    refine ⟨madeCells (Value.int .u8 0).cells 513, by rw [hL]; exact madeBytes' 513, fun w => ?_⟩
    have h := run_make (P := Try.prog) w 22 5 i0 _ Try.underlying22 hi hz0 .i64 .i64 513 513 (by omega) (by omega) (by rw [hz2]; omega) (by omega)
    rw [hz1] at h
    exact h
  have hnew : ∀ C : Array Value, C.toList = u8s L → Calls Try.prog 9 #[.slice (some ⟨w.heap.size, 0, none⟩) 513 513, .slice (some ⟨w.heap.size + 1, 0, none⟩) 2 2] ((w.alloc (.cells C 5)).alloc (.cells #[.int .i64 7, .int .i64 600] 3)) fun e w' =>
      (∃ s, e = .returned (.pointer (some ⟨s, 0, none⟩)) ∧ w.heap.size ≤ s ∧ Sn w' s L Z0 (fun k => w.heap.size ≤ k)) ∧ w.heap.size ≤ w'.heap.size ∧ Below w.heap.size w w' := by
    intro C hC
    have h1 := (lit_rng w (u8s L) 5 C hC 513 (by rw [u8s_len', hLl]) (u8s_one L) (by omega)).below (w' := (w.alloc (.cells C 5)).alloc (.cells #[.int .i64 7, .int .i64 600] 3)) ((Below.refl _ _).alloc (Nat.le_refl _) _)
    have h2 := lit_rng (w.alloc (.cells C 5)) (i64s Z0) 3 #[.int .i64 7, .int .i64 600] rfl 2 rfl (i64s_one Z0) (by omega)
    rw [World.size_alloc] at h2
    have hb : Below w.heap.size w ((w.alloc (.cells C 5)).alloc (.cells #[.int .i64 7, .int .i64 600] 3)) := ((Below.refl _ _).alloc (Nat.le_refl _) _).alloc (by simp) _
    refine (new_ok h1 h2 (by omega) (by decide)).mono ?_
    rintro e w' ⟨⟨s, rfl, hs, hn⟩, hb'⟩
    have := hb'.size
    have := hb.size
    exact ⟨⟨s, rfl, by omega, hn.mono (fun k _ h => by omega)⟩, by omega, hb.trans (hb'.mono hb.size)⟩
  have hnext1 := fun w1 p R (h : Rd w1 p L Z0 0 0 R) => next_ok h (by omega) (by rw [hLl]; exact st1)
  have hnext2 := fun w1 p R (h : Rd w1 p L Z0 2 1 R) => next_ok h (by omega) (by rw [hLl]; exact st2)
  have hb1 : (u8s (blN L 0)).length = 512 := by rw [u8s_len']; unfold blN; rw [if_pos (by omega)]; simp; omega
  have hb2 : (u8s (blN L 1)).length = 0 := by rw [u8s_len']; unfold blN; rw [if_neg (by omega)]; rfl
  have hheld := fun w1 p R (h : Rd w1 p L Z0 2 1 R) => held_ok h
  unfold NextPost at hnext1 hnext2
  rw [hLl, show codeN 513 0 = 0 by decide, show tN 513 0 = 1 by decide] at hnext1
  rw [hLl, show codeN 513 1 = 3 by decide, show tN 513 1 = 1 by decide] at hnext2
  rw [hLl, e2, show ((513 - 512 * 1 : Nat) : Int) = 1 by decide] at hheld
  generalize u8s (blN L 0) = X at *
  generalize u8s (blN L 1) = Y at *
  replace hLl := hid hLl
  go_enter Try.func7, Try.ntmps7
  go_wp2_with (first | (go_at_call 9; refine (hnew _ hM).mono ?_; clear hnew; rintro e w1 ⟨⟨s, rfl, hs, hn⟩, hz1, hbl1⟩) | (go_at_call 14; refine (blocks_ok (.inr ⟨s, rfl, hn⟩) hz1 (fun k h => h)).mono ?_; rintro e w2 ⟨⟨p, rfl, hp, hr⟩, hbl2⟩) | (go_at_call 18; refine (hnext1 _ _ _ hr).mono ?_; clear hnext1; rintro e w3 ⟨⟨v, rfl, hv⟩, R1, hr1, hR1, hn1⟩; obtain ⟨va, vc, e1, -⟩ := hv.shape; subst e1; rw [hb1]) | (go_at_call 18; refine (hnext2 _ _ _ hr1).mono ?_; clear hnext2; rintro e w4 ⟨⟨v', rfl, hv'⟩, R2, hr2, hR2, hn2⟩; obtain ⟨va', vc', e2, -⟩ := hv'.shape; subst e2; rw [hb2]) | (go_at_call 16; refine (hheld _ _ _ hr2).mono ?_; clear hheld; rintro e w5 ⟨hw, rfl⟩; obtain rfl := hw.symm))
  go_ret
  have g1 := hbl2.size
  have g2 := hn1.size
  have g3 : ∀ k, R1 k → w.heap.size ≤ k := fun k hk => by rcases hR1 k hk with (h | h) | h <;> omega
  exact ⟨rfl, ((hbl1.trans (hbl2.mono hz1)).trans (hn1.below (by omega) (fun k hk => by omega))).trans (hn2.below (by omega) g3)⟩

end Go.Proofs.Ytfcbiiakhgeogaa
