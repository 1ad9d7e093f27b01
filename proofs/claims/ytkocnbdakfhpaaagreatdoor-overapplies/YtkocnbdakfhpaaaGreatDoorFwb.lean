/-
  WHETHER PAIRS ARE FEW, whatever they are. Conditions: a text has no more bytes than a machine reaches.
-/
import Derived.Test.YtkocnbdakfhpaaaGreatDoorFew
namespace Go.Proofs.YtkocnbdakfhpaaaGreatDoor
open Go.ChangeShapes Go.WideShapes Go.ChangeAt Go.RowKit Go.Lib
set_option linter.unusedVariables false
set_option linter.unusedSimpArgs false
set_option maxRecDepth 20000

theorem tot_le (M : Nat) : ∀ l : List (ByteArray × ByteArray), (∀ p ∈ l, p.1.size ≤ M ∧ p.2.size ≤ M) → totN l ≤ l.length * (2 * M)
  | [], _ => by simp [totN]
  | p :: t, h => by
    obtain ⟨h1, h2⟩ := h p (List.mem_cons_self ..)
    have := tot_le M t fun q hq => h q (List.mem_cons_of_mem _ hq)
    rw [totN, List.length_cons, Nat.add_mul]
    omega
theorem tot_mem : ∀ (l : List (ByteArray × ByteArray)) (p : ByteArray × ByteArray), p ∈ l → p.1.size + p.2.size ≤ totN l
  | q :: t, p, h => by
    rw [totN]
    rcases List.mem_cons.1 h with rfl | h
    · omega
    · have := tot_mem t p h; omega
theorem few_of {l : List (ByteArray × ByteArray)} (h1 : l.length ≤ 50) (h2 : totN l ≤ 3000) : _root_.Go.Proofs.YtkocnbdakfhpaaaGreatDoor.Few l := ⟨by omega, fun p hp => by have := tot_mem l p hp; omega⟩

set_option maxHeartbeats 4000000 in
theorem few_big {w : World} {a : Option Addr} {n c : Nat} {l : List (ByteArray × ByteArray)} (h : Pys w a n c l) (hn : 50 < n) :
    Calls Tryz.prog 8 #[.slice a n c] w fun e w' => e = .returned (.bool false) ∧ Below w.heap.size w w' := by
  obtain ⟨hl, hlc, hm, ⟨rfl, rfl⟩ | ⟨h0, b, off, rfl, hc⟩⟩ := h
  · omega
  · have hl' := hid hl
    clear hl
    go_enter Tryz.func8, Tryz.ntmps8
    go_wp2
    go_loopw [3, 4] (fun y x wr => ∃ (s : Int) (k : Nat), y = .int .i64 s ∧ x = .int .i64 k ∧ Below w.heap.size w wr ∧ k ≤ n) (fun _ x _ => n - (RowKit.intOf x).toNat)
    case atStart => exact ⟨0, 0, rfl, rfl, Below.refl _ _, by omega⟩
    case round =>
      obtain ⟨s, k, rfl, rfl, hb, hk⟩ := hrel
      by_cases hlt : k < n
      · obtain ⟨ky, vl, hmem, hd, c0, c1⟩ := (hc.below hb).at k (by rw [hl'.out]; exact hlt)
        have hkI : (k : Int) < (n : Int) := by omega
        clear hd hmem
        go_wp2
        go_region
        go_wp2
        go_roundw
        case rel => exact ⟨_, k + 1, rfl, by go_num, hb.drew, by omega⟩
        case measure => simp [RowKit.intOf]; omega
      · obtain rfl : k = n := by omega
        have i1 : ¬ (k : Int) ≤ 50 := by omega
        go_wp2
        all_goals go_ret
        all_goals exact ⟨rfl, hb⟩

theorem few_all {w : World} {a : Option Addr} {n c : Nat} {l : List (ByteArray × ByteArray)} (h : Pys w a n c l) (hs : ∀ p ∈ l, p.1.size ≤ 140737488351232 ∧ p.2.size ≤ 140737488351232) :
    Calls Tryz.prog 8 #[.slice a n c] w fun e w' => e = .returned (.bool (decide (n ≤ 50 ∧ totN l ≤ 3000))) ∧ Below w.heap.size w w' := by
  by_cases hn : n ≤ 50
  · refine few_ok h ?_
    have := tot_le 140737488351232 l hs
    have h1 := h.1
    omega
  · refine (few_big h (by omega)).mono fun e w' ⟨h1, h2⟩ => ⟨?_, h2⟩
    rw [h1, decide_eq_false (by omega)]

end Go.Proofs.YtkocnbdakfhpaaaGreatDoor
