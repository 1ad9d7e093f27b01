/-
  THE CHAPTER's EXAMPLE; WHAT EITHER GIVES; WHAT NO QUEUE TELLS. Conditions: none.
-/
import Derived.Test.YtekacaocijfepaaQmi
namespace Go.Proofs.Ytekacaocijfepaa
open Go.ChangeShapes Go.WideShapes Go.ChangeAt Go.RowKit Go.Conc
set_option linter.unusedVariables false
set_option linter.unusedSimpArgs false
set_option maxRecDepth 100000

theorem own_slice {w : World} {B n : Nat} {e : TypeId} {v : Value} {xs : List Value} (h : w.ownsRow B e 1 v n xs) : ∃ a c, v = .slice a n c := by
  rcases h.2 with ⟨rfl, rfl⟩ | ⟨g, cap, cur, rfl, hb, hg, hnc, hcm, hcs, htake⟩
  · have := h.1; simp at this; subst this; exact ⟨none, 0, rfl⟩
  · exact ⟨_, cap, rfl⟩

theorem alive_ok (w : World) : Calls Try.prog 6 #[] w fun e w' => e = .returned (.bool true) ∧ Below w.heap.size w w' := by
  have hnew := new_i 1 w
  rw [show roomC 1 = 1 by decide] at hnew
  have hp1 : ∀ {w B q ch}, Qu w B q 1 ch [] → Calls Try.prog 17 #[q, .int .i64 5] w fun e w' => e = .returned (.bool true) ∧ Qu w' B q 1 ch [.int .i64 5] ∧ Near (Of ch) w w' := fun h => push_i 5 h
  have hp2 : ∀ {w B q ch}, Qu w B q 1 ch [.int .i64 5] → Calls Try.prog 17 #[q, .int .i64 6] w fun e w' => e = .returned (.bool false) ∧ Qu w' B q 1 ch [.int .i64 5] ∧ Near (Of ch) w w' := fun h => push_i 6 h
  have hpop : ∀ {w B q ch}, Qu w B q 1 ch [.int .i64 5] → Calls Try.prog 15 #[q] w fun e w' => e = .returned (.tuple #[.int .i64 5, .bool true]) ∧ Qu w' B q 1 ch [] ∧ Near (Of ch) w w' := fun h => pop_i_y 5 h
  go_enter Try.func6, Try.ntmps6
  go_wp2_with (first | (go_at_call 7; refine hnew.mono ?_; clear hnew; rintro e w1 ⟨⟨q, rfl, ch, hq, hch⟩, hb⟩) | (go_at_call 17; refine (hp1 hq).mono ?_; clear hp1; rintro e w2 ⟨rfl, hq2, hn2⟩) | (go_at_call 17; refine (hp2 hq2).mono ?_; clear hp2; rintro e w3 ⟨rfl, hq3, hn3⟩) | (go_at_call 15; refine (hpop hq3).mono ?_; clear hpop; rintro e w4 ⟨rfl, hq4, hn4⟩))
  go_ret
  exact ⟨rfl, hb.trans (((hn2.trans hn3).trans hn4).below hb.size hq.ge)⟩

theorem either_i_nil (w : World) : Calls Try.prog 16 #[.pointer none, .pointer none] w fun e w' => e = .returned (.tuple #[.int .i64 0, .int .i64 0]) ∧ w' = w := by
  have hpop := fun w => pop_i_nil w
  go_enter Try.func16, Try.ntmps16
  go_wp2_with (first | (go_at_call 15; refine (hpop _).mono ?_; rintro e w' ⟨rfl, hw⟩; obtain rfl := hw.symm))
  go_ret2
  exact ⟨rfl, rfl⟩

theorem qnil (w : World) (B : Nat) : Qu w B (.pointer none) 0 none [] := .inl ⟨rfl, rfl, rfl, rfl⟩

set_option maxHeartbeats 2000000 in
theorem nil_walk (x n : Int) (w : World) : Calls Try.prog 5 #[.int .i64 x, .int .i64 n] w fun e w' => e = .returned (.bool true) ∧ Below w.heap.size w w' := by
  have halive := alive_ok w
  have hnew := fun w => new_i 3 w
  rw [show roomC 3 = 3 by decide] at hnew
  have hpop := fun w => pop_i_nil w
  have heit := fun w => either_i_nil w
  have hpush := fun w => push_i_nil x w
  have hlen := fun w => len_i (qnil w 0)
  have hroom := fun w => room_i (qnil w 0)
  have hall := fun w => all_i [] (qnil w 0)
  simp only [List.length_nil, Int.natCast_zero, Int.sub_zero] at hlen hroom hall
  have hm1 : ∀ {w B p ch}, Qu w B p 3 ch [] → Calls Try.prog 20 #[.pointer none, p, .int .i64 n] w fun e w' => e = .returned (.int .i64 0) ∧ Qu w' B p 3 ch [] ∧ Near (Of ch) w w' := fun {w B p ch} h => by
    have hc : ¬ none = ch := by
      rcases h with ⟨-, -, h, -⟩ | ⟨hd, c, s, r, gs, -, rfl, -⟩
      · omega
      · intro e; cases e
    refine (move_i_two n [] [] (qnil w 0) h hc).mono ?_
    have e0 : moveN n ([] : List Int).length 3 ([] : List Int).length = 0 := by unfold moveN; simp
    rw [e0]
    rintro e w' ⟨rfl, -, hq, hn⟩
    exact ⟨rfl, hq, hn.mono fun k hk => hk.resolve_left (fun e => by cases e)⟩
  have hm2 : ∀ {w B p ch}, Qu w B p 3 ch [] → Calls Try.prog 20 #[p, .pointer none, .int .i64 n] w fun e w' => e = .returned (.int .i64 0) ∧ Qu w' B p 3 ch [] ∧ Near (Of ch) w w' := fun {w B p ch} h => by
    have hc : ¬ ch = none := by
      rcases h with ⟨-, -, h, -⟩ | ⟨hd, c, s, r, gs, -, rfl, -⟩
      · omega
      · intro e; cases e
    refine (move_i_two n [] [] h (qnil w 0) hc).mono ?_
    have e0 : moveN n ([] : List Int).length 0 ([] : List Int).length = 0 := by unfold moveN; simp
    rw [e0]
    rintro e w' ⟨rfl, hq, -, hn⟩
    exact ⟨rfl, hq, hn.mono fun k hk => hk.resolve_right (fun e => by cases e)⟩
  go_enter Try.func5, Try.ntmps5
  go_wp2_with (first | (go_at_call 6; refine halive.mono ?_; clear halive; rintro e w0 ⟨rfl, hb0⟩) | (go_at_call 7; refine (hnew _).mono ?_; clear hnew; rintro e w1 ⟨⟨p, rfl, ch, hq1, hch⟩, hb1⟩) | (go_at_call 15; refine (hpop _).mono ?_; clear hpop; rintro e w2 ⟨rfl, hw⟩; obtain rfl := hw.symm) | (go_at_call 16; refine (heit _).mono ?_; clear heit; rintro e w3 ⟨rfl, hw⟩; obtain rfl := hw.symm) | (go_at_call 17; refine (hpush _).mono ?_; clear hpush; rintro e w4 ⟨rfl, hb4⟩; have hq4 := hq1.below hb4) | (go_at_call 18; refine (hlen _).mono ?_; clear hlen; rintro e w5 ⟨hw, rfl⟩; obtain rfl := hw.symm) | (go_at_call 19; refine (hroom _).mono ?_; clear hroom; rintro e w6 ⟨hw, rfl⟩; obtain rfl := hw.symm) | (go_at_call 20; refine (hm1 hq4).mono ?_; clear hm1; rintro e w7 ⟨rfl, hq7, hn7⟩) | (go_at_call 20; refine (hm2 hq7).mono ?_; clear hm2; rintro e w8 ⟨rfl, hq8, hn8⟩) | (go_at_call 21; refine (hall _).mono ?_; clear hall; rintro e w9 ⟨⟨v, rfl, hown⟩, -, hn9⟩; obtain ⟨a, c, rfl⟩ := own_slice hown))
  go_ret
  have s0 := hb0.size
  have s1 := hb1.size
  have s4 := hb4.size
  exact ⟨rfl, (((hb0.trans (hb1.mono s0)).trans (hb4.mono (by omega))).trans ((hn7.trans hn8).below (by omega) (fun k hk => by have := hq1.ge k hk; omega))).trans ((hn9.below (B := w.heap.size) (by have := hn7.size; have := hn8.size; omega) (fun k hk => by cases hk)))⟩

end Go.Proofs.Ytekacaocijfepaa
