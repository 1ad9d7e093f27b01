/-
  THE WALK OF ItemKinds. Conditions: the flag is a byte.
-/
import Derived.Test.YtlehomcodkbpmaaKin
namespace Go.Proofs.Ytlehomcodkbpmaa
open Go.ChangeShapes Go.WideShapes Go.ChangeAt Go.RowKit Go.Lib
set_option linter.unusedVariables false
set_option linter.unusedSimpArgs false
set_option maxRecDepth 20000

theorem kindF_in (c : Int) (h0 : 48 ≤ c) (h1 : c ≤ 54) : kindF c = c - 47 := by
  unfold kindF; rw [if_neg (by omega), if_pos ⟨h0, h1⟩]

set_option maxHeartbeats 8000000 in
theorem kinds_walk (f k : Int) (f0 : 0 ≤ f) (f1 : f ≤ 255) (s : ByteArray) (w : World) :
    Calls Try.prog 3 #[.int .u8 f, .int .i64 k, .string s] w fun e w' => e = .returned (.bool true) ∧ Below w.heap.size w w' := by
  by_cases hs : s.size ≤ 2000
  · have hsI : ¬ (2000 : Int) < (s.size : Int) := by omega
    have ht := told_ok k s (by omega)
    have hr := rtold_ok k s (by omega)
    have hk := kind_ok f
    have hrk := rkind_ok f f0 f1
    have hfl := flag_ok k
    generalize toldK k s = K at *
    generalize toldS k s = S at *
    generalize kindF f = F at *
    generalize hW : flagTo k 55 = W at *
    replace hW := hid hW
    go_enter Try.func3, Try.ntmps3
    go_wp2_with (go_at_call 5; refine (alive_ok _).mono ?_; rintro e w1 ⟨rfl, hb1⟩)
    go_loopw [7, 8] (fun y x wr => ∃ c : Int, y = .int .u8 (flagTo k c) ∧ x = .int .i64 c ∧ 48 ≤ c ∧ c ≤ 55 ∧ Below w.heap.size w wr) (fun _ x _ => (55 - RowKit.intOf x).toNat)
    case atStart => exact ⟨48, by unfold flagTo; rw [if_neg (by omega)], rfl, by omega, by omega, hb1⟩
    case round =>
      obtain ⟨c, rfl, rfl, hc0, hc1, hb⟩ := hrel
      by_cases hlt : c ≤ 54
      · have hck := rkind_ok c (by omega) (by omega)
        rw [kindF_in c hc0 hlt] at hck
        by_cases he : c - 47 = k
        · have E := hid (by unfold flagTo; rw [if_pos (by omega)]; omega : flagTo k (c + 1) = c)
          have heb : (c - 47 == k) = true := by simpa using he
          go_wp2_with (go_at_call 6; refine (hck _).mono ?_; rintro e w' ⟨hw, rfl⟩; obtain rfl := hw.symm)
          go_roundw
          case rel => exact ⟨c + 1, by rw [E.out], by go_num, by omega, by omega, hb⟩
          case measure => simp [RowKit.intOf]; omega
        · have E := hid (by unfold flagTo; by_cases h : 1 ≤ k ∧ k + 47 < c; rw [if_pos h, if_pos (by omega)]; rw [if_neg h, if_neg (by omega)] : flagTo k (c + 1) = flagTo k c)
          have heb : (c - 47 == k) = false := by simpa using he
          generalize flagTo k c = y at *
          go_wp2_with (go_at_call 6; refine (hck _).mono ?_; rintro e w' ⟨hw, rfl⟩; obtain rfl := hw.symm)
          go_roundw
          case rel => exact ⟨c + 1, by rw [E.out], by go_num, by omega, by omega, hb⟩
          case measure => simp [RowKit.intOf]; omega
      · obtain rfl : c = 55 := by omega
        rw [hW.out]
        clear hW
        go_wp2_with (first
          | (go_at_call 7; refine (ht _).mono ?_; rintro e w' ⟨hw, rfl⟩; obtain rfl := hw.symm)
          | (go_at_call 8; refine (hr _).mono ?_; rintro e w2 ⟨hb2, rfl⟩)
          | (go_at_call 9; refine (hk _).mono ?_; rintro e w' ⟨hw, rfl⟩; obtain rfl := hw.symm)
          | (go_at_call 6; refine (hrk _).mono ?_; rintro e w' ⟨hw, rfl⟩; obtain rfl := hw.symm)
          | (go_at_call 10; refine (hfl _).mono ?_; rintro e w' ⟨hw, rfl⟩; obtain rfl := hw.symm))
        all_goals go_ret
        all_goals exact ⟨rfl, hb.trans (hb2.mono hb.size)⟩
  · have hsI : (2000 : Int) < (s.size : Int) := by omega
    go_enter Try.func3, Try.ntmps3
    go_wp2_with (go_at_call 5; refine (alive_ok _).mono ?_; rintro e w1 ⟨rfl, hb1⟩)
    go_ret
    exact ⟨rfl, hb1⟩

end Go.Proofs.Ytlehomcodkbpmaa
