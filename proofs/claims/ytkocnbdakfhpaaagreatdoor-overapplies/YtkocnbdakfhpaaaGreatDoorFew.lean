/-
  WHETHER THE PAIRS ARE FEW. Conditions: how many bytes their texts may have together.
-/
import Derived.Test.YtkocnbdakfhpaaaGreatDoorPrt
namespace Go.Proofs.YtkocnbdakfhpaaaGreatDoor
open Go.ChangeShapes Go.WideShapes Go.ChangeAt Go.RowKit Go.Lib
set_option linter.unusedVariables false
set_option linter.unusedSimpArgs false
set_option maxRecDepth 20000

/-- the bytes of all texts -/
def totN : List (ByteArray × ByteArray) → Nat
  | [] => 0
  | p :: t => p.1.size + p.2.size + totN t

theorem tot_drop (l : List (ByteArray × ByteArray)) : ∀ i, totN (l.drop i) ≤ totN l := by
  induction l with
  | nil => intro i; simp
  | cons p t ih =>
    intro i
    cases i with
    | zero => simp
    | succ i => have := ih i; rw [List.drop_succ_cons, totN]; omega

set_option maxHeartbeats 4000000 in
theorem few_ok {w : World} {a : Option Addr} {n c : Nat} {l : List (ByteArray × ByteArray)} (h : Pys w a n c l) (ht : totN l ≤ 4611686018427387904) :
    Calls Tryz.prog 8 #[.slice a n c] w fun e w' => e = .returned (.bool (decide (n ≤ 50 ∧ totN l ≤ 3000))) ∧ Below w.heap.size w w' := by
  obtain ⟨hl, hlc, hm, ⟨rfl, rfl⟩ | ⟨h0, b, off, rfl, hc⟩⟩ := h
  · go_enter Tryz.func8, Tryz.ntmps8
    go_wp2
    refine wp_loop_rounds 1 ?_
    rw [rounds_succ]
    go_wp2
    go_ret
    exact ⟨rfl, Below.refl _ _⟩
  · obtain ⟨T, hT⟩ : ∃ T, T = totN l := ⟨_, rfl⟩
    rw [← hT] at ht ⊢
    have hl' := hid hl
    have hT' := hid hT
    clear hl hT
    go_enter Tryz.func8, Tryz.ntmps8
    go_wp2
    go_loopw [3, 4] (fun y x wr => ∃ (s k : Nat), y = .int .i64 s ∧ x = .int .i64 k ∧ Below w.heap.size w wr ∧ k ≤ n ∧ s ≤ T ∧ Hid (s + totN (l.drop k) = T)) (fun _ x _ => n - (RowKit.intOf x).toNat)
    case atStart => exact ⟨0, 0, rfl, rfl, Below.refl _ _, by omega, by omega, hid (by rw [hT'.out]; simp)⟩
    case round =>
      obtain ⟨s, k, rfl, rfl, hb, hk, hs, hr⟩ := hrel
      by_cases hlt : k < n
      · obtain ⟨ky, vl, hmem, hd, c0, c1⟩ := (hc.below hb).at k (by rw [hl'.out]; exact hlt)
        have hkI : (k : Int) < (n : Int) := by omega
        have E := hid (by have := hr.out; rw [hd.out, totN] at this; simp only at this; omega : s + ky.size + vl.size + totN (l.drop (k + 1)) = T)
        have hb1 : s + ky.size + vl.size ≤ T := by have := E.out; omega
        clear hr hd hmem
        go_wp2
        go_region
        go_wp2
        go_roundw
        case rel => exact ⟨s + ky.size + vl.size, k + 1, by go_num, by go_num, hb.drew, by omega, hb1, E⟩
        case measure => simp [RowKit.intOf]; omega
      · obtain rfl : k = n := by omega
        have E : s = T := by have := hr.out; rw [List.drop_eq_nil_iff.mpr (by rw [hl'.out]; exact Nat.le_refl _), totN] at this; omega
        subst E
        clear hr hT'
        by_cases g1 : k ≤ 50
        · by_cases g2 : s ≤ 3000
          · have i1 : (k : Int) ≤ 50 := by omega
            have i2 : (s : Int) ≤ 3000 := by omega
            go_wp2
            all_goals go_ret
            all_goals exact ⟨by simp [g1, g2], hb⟩
          · have i1 : (k : Int) ≤ 50 := by omega
            have i2 : ¬ (s : Int) ≤ 3000 := by omega
            go_wp2
            all_goals go_ret
            all_goals exact ⟨by simp [g1, g2], hb⟩
        · have i1 : ¬ (k : Int) ≤ 50 := by omega
          go_wp2
          all_goals go_ret
          all_goals exact ⟨by simp [g1], hb⟩

end Go.Proofs.YtkocnbdakfhpaaaGreatDoor
