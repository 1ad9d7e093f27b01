/-
  THE WALK OF PaxPairs: it answers true at every pair. Conditions: a text has no more bytes than a machine reaches; what the listed variables hold.
-/
import Derived.Test.YtkocnbdakfhpaaaGreatDoorFwb
import Derived.Test.YtkocnbdakfhpaaaGreatDoorLive
import Derived.Test.YtkocnbdakfhpaaaGreatDoorRrg
import Derived.Test.YtkocnbdakfhpaaaGreatDoorRln
import Derived.Test.YtkocnbdakfhpaaaGreatDoorKnw
import Derived.BigRegion
namespace Go.Proofs.YtkocnbdakfhpaaaGreatDoor
open Go.ChangeShapes Go.WideShapes Go.ChangeAt Go.RowKit Go.Lib
set_option linter.unusedVariables false
set_option maxRecDepth 20000

theorem after_same' {P : Program} {f : FuncId} {args : Array Value} {w : World} {v : Value} (p : After w) (h : Calls P f args p.out fun e w' => w' = p.out ∧ e = .returned v) :
    Calls P f args p.out fun e w'' => e = .returned v ∧ ∃ p : After w, w'' = p.out :=
  h.mono fun _ _ ⟨hw, he⟩ => ⟨he, p, hw⟩

set_option maxHeartbeats 8000000 in
theorem pairs_walk (k v : ByteArray) (hk : k.size ≤ 140737488351232) (hv : v.size ≤ 140737488351232) (w : World) (hL : Laid w) :
    Calls Tryz.prog 3 #[.agg #[.string k, .string v]] w fun e w' => e = .returned (.bool true) ∧ Below w.heap.size w w' := by
  have hb0 := (Below.refl w.heap.size w).alloc (Nat.le_refl _) (.cells #[.string k, .string v] 23)
  have hal := alive_ok _ (hL.below hb0)
  have hfw := fun w' => few_all (one_pys w' k v) (by intro p hp; simp at hp; subst hp; exact ⟨hk, hv⟩)
  by_cases hf : k.size + v.size ≤ 3000
  · have hd : decide (1 ≤ 50 ∧ totN [(k, v)] ≤ 3000) = true := decide_eq_true ⟨by omega, by simp only [totN]; omega⟩
    rw [hd] at hfw
    clear hd
    go_enter Tryz.func3, Tryz.ntmps3
    go_wp2_with (first
      | (go_at_call 7; refine hal.mono ?_; rintro e w1 ⟨rfl, hb1⟩; obtain ⟨c0, c1⟩ := two_cells hb1; have hacc := hb0.trans (hb1.mono hb0.size); clear hal)
      | (go_at_call 8; refine (hfw _).mono ?_; rintro e w2 ⟨rfl, hb2⟩; have hnw := (Below.refl w1.heap.size w1).alloc (Nat.le_refl _) (.cells #[.string k, .string v] 23); replace hnw := hnw.trans (hb2.mono hnw.size); replace hacc := hacc.trans (hnw.mono hacc.size); replace c0 := cell_later hnw c0; replace c1 := cell_later hnw c1; clear hfw))
    have hne : Nonempty (After w2) := ⟨⟨w2, Below.refl _ _⟩⟩
    have g0 : ∀ p : After w2, p.out.cell? ⟨w.heap.size, 0, none⟩ = some (.string k) := fun p => cell_later p.bel c0
    have g1 : ∀ p : After w2, p.out.cell? ⟨w.heap.size, 1, none⟩ = some (.string v) := fun p => cell_later p.bel c1
    have hLp : ∀ p : After w2, Laid p.out := fun p => hL.below (hacc.trans (p.bel.mono hacc.size))
    have r1 := fun p : After w2 => right_ok k v (by omega) (by omega) p.out (hLp p)
    have r2 := fun p : After w2 => rr_ok k v (by omega) (by omega) p.out
    have r3 := fun p : After w2 => known_ok k p.out
    have r4 := fun p : After w2 => which_ok k p.out
    have r5 := fun p : After w2 => len_ok k v (by omega) (by omega) p.out (hLp p)
    have r6 := fun p : After w2 => rlen_ok k v (by omega) (by omega) p.out
    have hwk : (whichK (bs k) = -1 ∧ kindK (bs k) = 0) ∨ (0 ≤ whichK (bs k) ∧ (kindK (bs k) != 0) = true) := by
      rcases which_kind (bs k) with ⟨e1, e2⟩ | ⟨e0, e1, e2⟩ | ⟨e0, e1, e2⟩ | ⟨e1, e2⟩
      · exact .inl ⟨e1, e2⟩
      · exact .inr ⟨e0, by rw [e2]; rfl⟩
      · exact .inr ⟨by omega, by rw [e2]; rfl⟩
      · exact .inr ⟨by omega, by rw [e2]; rfl⟩
    generalize rightP (bs k) (bs v) = q at *
    generalize lenN (restN k v) = m at *
    have hqq : (q == q) = true := by simp
    have hmm : ((m : Int) == (m : Int)) = true := by simp
    rcases hwk with ⟨e1, e2⟩ | ⟨e1, e2⟩
    · rw [e1] at r4
      have e3 : ((0 : Int) != 0) = false := rfl
      rw [e2, e3] at r3
      clear e1 e2 e3 hLp hb0 c0 c1 hL
      refine wp_region_after (by kernel_rfl) (by kernel_rfl) ?_
      repeat (go_big_quiet_step ((first
          | (go_at_call 9; exact after_below _ (r1 _))
          | (go_at_call 10; exact after_below _ (r2 _))
          | (go_at_call 11; exact after_same' _ (r3 _))
          | (go_at_call 12; exact after_below _ (r4 _))
          | (go_at_call 13; exact after_below _ (r5 _))
          | (go_at_call 14; exact after_below _ (r6 _)))))
      refine wpQuiet_nil ?_
      intro wq hw'
      obtain ⟨⟨x, hwq⟩, hx⟩ := hw'
      simp only at hx
      subst hx
      go_wp2
      go_ret
      exact ⟨rfl, hacc.trans (hwq.mono hacc.size)⟩
    · rw [e2] at r3
      generalize whichK (bs k) = W at *
      have hW : decide (0 ≤ W) = true := decide_eq_true e1
      clear e2 hLp hb0 c0 c1 hL
      refine wp_region_after (by kernel_rfl) (by kernel_rfl) ?_
      repeat (go_big_quiet_step ((first
          | (go_at_call 9; exact after_below _ (r1 _))
          | (go_at_call 10; exact after_below _ (r2 _))
          | (go_at_call 11; exact after_same' _ (r3 _))
          | (go_at_call 12; exact after_below _ (r4 _))
          | (go_at_call 13; exact after_below _ (r5 _))
          | (go_at_call 14; exact after_below _ (r6 _)))))
      refine wpQuiet_nil ?_
      intro wq hw'
      obtain ⟨⟨x, hwq⟩, hx⟩ := hw'
      simp only at hx
      subst hx
      go_wp2
      go_ret
      exact ⟨rfl, hacc.trans (hwq.mono hacc.size)⟩
  · have hd : decide (1 ≤ 50 ∧ totN [(k, v)] ≤ 3000) = false := decide_eq_false (by simp only [totN]; omega)
    rw [hd] at hfw
    clear hd
    go_enter Tryz.func3, Tryz.ntmps3
    go_wp2_with (first
      | (go_at_call 7; refine hal.mono ?_; rintro e w1 ⟨rfl, hb1⟩; obtain ⟨c0, c1⟩ := two_cells hb1; have hacc := hb0.trans (hb1.mono hb0.size); clear hal)
      | (go_at_call 8; refine (hfw _).mono ?_; rintro e w2 ⟨rfl, hb2⟩; have hnw := (Below.refl w1.heap.size w1).alloc (Nat.le_refl _) (.cells #[.string k, .string v] 23); replace hnw := hnw.trans (hb2.mono hnw.size); replace hacc := hacc.trans (hnw.mono hacc.size); clear hfw))
    all_goals go_ret
    all_goals exact ⟨rfl, hacc⟩

end Go.Proofs.YtkocnbdakfhpaaaGreatDoor
