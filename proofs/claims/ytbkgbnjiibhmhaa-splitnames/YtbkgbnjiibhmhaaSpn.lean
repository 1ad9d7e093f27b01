/-
  THE WALK OF SplitNames. No condition.
-/
import Derived.Test.YtbkgbnjiibhmhaaSpf
namespace Go.Proofs.Ytbkgbnjiibhmhaa
open Go.ChangeShapes Go.WideShapes Go.ChangeAt Go.RowKit Go.Lib
set_option linter.unusedVariables false
set_option linter.unusedSimpArgs false
set_option maxRecDepth 20000

set_option maxHeartbeats 8000000 in
theorem names_walk (s : ByteArray) (w : World) : Calls Try.prog 4 #[.string s] w fun e w' => e = .returned (.bool true) ∧ Below w.heap.size w w' := by
  by_cases hs : s.size ≤ 5000
  · have hsI : ¬ (5000 : Int) < (s.size : Int) := by omega
    have h1 := fun w => split_ok s (by omega) w
    have h2 := fun w => rsplit_ok s (by omega) w
    have h3 := fun w => cuts_ok s (by omega) w
    have h4 := fun w => rcuts_ok s (by omega) w
    have hql : (natI (cutsTo (nums s) s.size)).length ≤ 1000000 := by
      have := cutsTo_len (nums s) s.size
      rw [natI_len]; omega
    generalize natI (cutsTo (nums s) s.size) = q at *
    have h5 := fun (w : World) B1 B2 v u o1 o2 => same_ints q hql (w := w) (B1 := B1) (B2 := B2) (v := v) (u := u) o1 o2
    generalize spA s = A at *
    generalize spN s = N at *
    generalize spO s = O at *
    have hAA : (A.toList == A.toList) = true := str_beq.2 rfl
    have hNN : (N.toList == N.toList) = true := str_beq.2 rfl
    have hOO : (O == O) = true := by simp
    go_enter Try.func4, Try.ntmps4
    go_wp2_with (first
      | (go_at_call 15; refine (salive_ok _).mono ?_; rintro e w1 ⟨rfl, hb1⟩)
      | (go_at_call 16; refine (h1 _).mono ?_; rintro e w2 ⟨rfl, hb2⟩; replace hb2 := hb1.trans (hb2.mono hb1.size))
      | (go_at_call 17; refine (h2 _).mono ?_; rintro e w3 ⟨rfl, hb3⟩; replace hb3 := hb2.trans (hb3.mono hb2.size))
      | (go_at_call 19; refine (h3 _).mono ?_; rintro e w4 ⟨⟨v, rfl, ho⟩, hb4⟩; replace hb4 := hb3.trans (hb4.mono hb3.size))
      | (go_at_call 20; refine (h4 _).mono ?_; rintro e w5 ⟨⟨u, rfl, hu⟩, hb5⟩; replace ho := own_below hb5 ho; replace hb5 := hb4.trans (hb5.mono hb4.size))
      | (go_at_call 18; refine (h5 _ _ _ _ _ ho hu).mono ?_; rintro e w6 ⟨rfl, hb6⟩; replace hb6 := hb5.trans (hb6.mono hb5.size)))
    all_goals go_ret
    all_goals exact ⟨rfl, hb6⟩
  · have hsI : (5000 : Int) < (s.size : Int) := by omega
    go_enter Try.func4, Try.ntmps4
    go_wp2_with (go_at_call 15; refine (salive_ok _).mono ?_; rintro e w1 ⟨rfl, hb1⟩)
    go_ret
    exact ⟨rfl, hb1⟩

end Go.Proofs.Ytbkgbnjiibhmhaa
