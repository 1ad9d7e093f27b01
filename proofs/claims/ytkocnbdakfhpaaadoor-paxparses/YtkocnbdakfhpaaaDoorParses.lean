/-
  THE WALK OF PaxParses: it answers true at all bytes. Conditions: what the listed variables hold.
-/
import Derived.Test.YtkocnbdakfhpaaaDoorLive
import Derived.Test.YtkocnbdakfhpaaaDoorRps
import Derived.Test.YtkocnbdakfhpaaaDoorSmp
namespace Go.Proofs.YtkocnbdakfhpaaaDoor
open Go.ChangeShapes Go.WideShapes Go.ChangeAt Go.RowKit Go.Lib
set_option linter.unusedVariables false
set_option linter.unusedSimpArgs false
set_option maxRecDepth 20000

set_option maxHeartbeats 8000000 in
theorem parses_walk {w : World} {a : Option Addr} {n c : Nat} {l : List Int} (hB : Bys w a n c l) (hL : Laid w) :
    Calls Tryd.prog 3 #[.slice a n c] w fun e w' => e = .returned (.bool true) ∧ Below w.heap.size w w' := by
  have hal := alive_ok w hL
  have hbc := hB.2.1
  have hbm := hB.2.2.1
  by_cases hn : n ≤ 3000
  · have hnI : ¬ (3000 : Int) < (n : Int) := by omega
    have hp := fun w' (hb : Below w.heap.size w w') => parse_w (hB.below hb) (by omega) (hL.below hb)
    have hrp := fun w' (hb : Below w.heap.size w w') => rparse_ok (hB.below hb) hn
    cases hq : prs l with
    | none =>
      have t1 : prsC (prs l) = 6 := by rw [hq]; rfl
      have t2 : prsP (prs l) = [] := by rw [hq]; rfl
      have t3 : (prs l).isSome = false := by rw [hq]; rfl
      rw [t1, t2] at hp
      rw [t2, t3] at hrp
      clear t1 t2 t3 hq
      go_enter Tryd.func3, Tryd.ntmps3
      go_wp2_with (first
        | (go_at_call 6; refine hal.mono ?_; rintro e w1 ⟨rfl, hacc⟩; clear hal)
        | (go_at_call 7; refine (hp _ hacc).mono ?_; rintro e w2 ⟨a2, n2, c2, rfl, hp2, hb2⟩; obtain rfl : n2 = 0 := hp2.1.symm; replace hacc := hacc.trans (hb2.mono hacc.size); clear hp hb2)
        | (go_at_call 8; refine (hrp _ hacc).mono ?_; rintro e w3 ⟨a3, n3, c3, rfl, hp3, hb3⟩; replace hacc := hacc.trans (hb3.mono hacc.size); clear hrp hb3))
      all_goals go_ret
      all_goals exact ⟨rfl, hacc⟩
    | some m =>
      have t1 : prsC (prs l) = 0 := by rw [hq]; rfl
      have t2 : prsP (prs l) = m := by rw [hq]; rfl
      have t3 : (prs l).isSome = true := by rw [hq]; rfl
      rw [t1, t2] at hp
      rw [t2, t3] at hrp
      clear t1 t2 t3 hq
      go_enter Tryd.func3, Tryd.ntmps3
      go_wp2_with (first
        | (go_at_call 6; refine hal.mono ?_; rintro e w1 ⟨rfl, hacc⟩; clear hal)
        | (go_at_call 7; refine (hp _ hacc).mono ?_; rintro e w2 ⟨a2, n2, c2, rfl, hp2, hb2⟩; replace hacc := hacc.trans (hb2.mono hacc.size); clear hp hb2)
        | (go_at_call 8; refine (hrp _ hacc).mono ?_; rintro e w3 ⟨a3, n3, c3, rfl, hp3, hb3⟩; replace hp2 := hp2.below hb3; replace hacc := hacc.trans (hb3.mono hacc.size); clear hrp hb3)
        | (go_at_call 9; refine (same_ok hp2 hp3).mono ?_; rintro e w4 ⟨rfl, hb4⟩; replace hacc := hacc.trans (hb4.mono hacc.size)))
      all_goals go_ret
      all_goals exact ⟨rfl, hacc⟩
  · have hnI : (3000 : Int) < (n : Int) := by omega
    go_enter Tryd.func3, Tryd.ntmps3
    go_wp2_with (go_at_call 6; refine hal.mono ?_; rintro e w1 ⟨rfl, hacc⟩; clear hal)
    all_goals go_ret
    all_goals exact ⟨rfl, hacc⟩

end Go.Proofs.YtkocnbdakfhpaaaDoor
