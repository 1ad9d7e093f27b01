/-
  THE WALK OF ItemSame. Conditions: a text has no more bytes than a machine reaches.
-/
import Derived.Test.YtbkgbnjiibhmhaaIsm
namespace Go.Proofs.Ytbkgbnjiibhmhaa
open Go.ChangeShapes Go.WideShapes Go.ChangeAt Go.RowKit Go.Lib
set_option linter.unusedVariables false
set_option maxRecDepth 20000

theorem same_walk {w : World} {a1 a2 e1 e2 : Option Addr} {n1 c1 n2 c2 m1 f1 m2 f2 : Nat} {l1 l2 : PL} {d1 d2 : List Int} (h1 h2 : Hd) (hp1 : Pys w a1 n1 c1 l1) (hp2 : Pys w a2 n2 c2 l2) (hd1 : Bys w e1 m1 f1 d1) (hd2 : Bys w e2 m2 f2 d2) (hnl : a1 = none → n1 = 0 ∧ c1 = 0) (hdl : e1 = none → m1 = 0 ∧ f1 = 0)
    (hz1 : ∀ q ∈ l1, q.1.size ≤ 140737488351232 ∧ q.2.size ≤ 140737488351232) (hz2 : ∀ q ∈ l2, q.1.size ≤ 140737488351232 ∧ q.2.size ≤ 140737488351232)
    (hs1 : h1.name.size ≤ 140737488351232 ∧ h1.link.size ≤ 140737488351232 ∧ h1.user.size ≤ 140737488351232 ∧ h1.group.size ≤ 140737488351232) (hs2 : h2.name.size ≤ 140737488351232 ∧ h2.link.size ≤ 140737488351232 ∧ h2.user.size ≤ 140737488351232 ∧ h2.group.size ≤ 140737488351232)
    (hm1 : m1 ≤ 140737488351232) (hm2 : m2 ≤ 140737488351232) :
    Calls Try.prog 3 #[.agg (h1.it (.slice a1 n1 c1) (.slice e1 m1 f1)), .agg (h2.it (.slice a2 n2 c2) (.slice e2 m2 f2))] w fun e w' => e = .returned (.bool true) ∧ Below w.heap.size w w' := by
  have k1 := fun (wr : World) (hb : Below w.heap.size w wr) => many_all h1 (hp1.below hb) hz1 hs1.1 hs1.2.1 hs1.2.2.1 hs1.2.2.2
  have k2 := fun (wr : World) (hb : Below w.heap.size w wr) => many_all h2 (hp2.below hb) hz2 hs2.1 hs2.2.1 hs2.2.2.1 hs2.2.2.2
  cases b1 : decide (200000 < sumH h1 + totN l1 ∨ 40 < n1)
  · cases b2 : decide (200000 < sumH h2 + totN l2 ∨ 40 < n2)
    · rw [b1] at k1
      rw [b2] at k2
      have hn1 : n1 ≤ 40 := by
        have := of_decide_eq_false b1
        omega
      by_cases hmm : m1 + m2 ≤ 5000
      · exact same_main h1 h2 hp1 hp2 hd1 hd2 hnl hdl hn1 hmm k1 k2
      · exact same_early (l1 := l1) (l2 := l2) (d1 := d1) (d2 := d2) h1 h2 k1 k2 (by omega) (.inr (.inr (by omega)))
    · rw [b1] at k1
      rw [b2] at k2
      exact same_early (l1 := l1) (l2 := l2) (d1 := d1) (d2 := d2) h1 h2 k1 k2 (by omega) (.inr (.inl rfl))
  · rw [b1] at k1
    exact same_early (l1 := l1) (l2 := l2) (d1 := d1) (d2 := d2) h1 h2 k1 k2 (by omega) (.inl rfl)

end Go.Proofs.Ytbkgbnjiibhmhaa
