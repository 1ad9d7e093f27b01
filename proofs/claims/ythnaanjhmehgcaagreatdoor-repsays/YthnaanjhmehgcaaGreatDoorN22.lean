/-
  THE DOCUMENT's Slash, Fulls AND name. Conditions: how long the texts may be.
-/
import Derived.Test.YthnaanjhmehgcaaGreatDoorN20
import Derived.Test.YthnaanjhmehgcaaGreatDoorN21
namespace Go.Proofs.YthnaanjhmehgcaaGreatDoor
open Go.ChangeShapes Go.WideShapes Go.ChangeAt Go.RowKit Go.Lib
set_option linter.unusedVariables false
set_option linter.unusedSimpArgs false
set_option maxRecDepth 20000

set_option maxHeartbeats 2000000 in
theorem rslash_ok (s : ByteArray) (hs : s.size ≤ 9000000000000000000) (w : World) : Calls Tryz.prog 37 #[.string s] w fun e w' => w' = w ∧ e = .returned (.bool (endsS s)) := by
  by_cases h0 : 0 < s.size
  · have h1 : (1 : Int) ≤ (s.size : Int) := by omega
    have e1 : ((s.size : Int) - 1).toNat = s.size - 1 := by omega
    have hne : (s.toList == []) = false := by
      rw [toList_data]; simp; intro e; have : s.size = 0 := by show s.data.size = 0; rw [← Array.length_toList, e]; rfl
      omega
    have hat := nums_at s (s.size - 1) (by omega)
    have E : endsS s = ((nums s).getD (s.size - 1) 0 == 47) := by unfold endsS; simp [h0]
    rw [E]
    replace E := hid E
    go_enter Tryz.func37, Tryz.ntmps37
    go_wp2
    all_goals go_ret
    all_goals exact ⟨rfl, ret_bool (by simp_all)⟩
  · have e0 : s.size = 0 := by omega
    have hne : (s.toList == []) = true := by
      rw [toList_data]; simp; apply Array.eq_empty_of_size_eq_zero; exact e0
    go_enter Tryz.func37, Tryz.ntmps37
    go_wp2
    all_goals go_ret
    all_goals exact ⟨rfl, ret_bool (by unfold endsS; simp_all)⟩

set_option maxHeartbeats 4000000 in
theorem rfulls_ok (h : Hd) (x : Value) (hs : h.name.size ≤ 9000000000000000) (w : World) :
    Calls Tryz.prog 36 #[.agg (h.cs x)] w fun e w' => ∃ g n, e = .returned (.slice (some ⟨g, 0, none⟩) n n) ∧ n = (fulls h.kind h.name).length ∧ Sts w' g (fulls h.kind h.name) ∧ Below w.heap.size w w' := by
  have hc := rslash_ok h.name (by omega)
  have E := str_sl h.name
  unfold Hd.cs
  unfold fulls
  by_cases h6 : h.kind = 6
  · rw [if_pos h6]
    have hk : (h.kind != 6) = false := by simp [h6]
    cases he : endsS h.name
    · rw [if_neg (by simp)]
      rw [he] at hc
      go_enter Tryz.func36, Tryz.ntmps36
      go_wp2_with (go_at_call 37; refine (hc _).mono ?_; rintro e w' ⟨hw, rfl⟩; obtain rfl := hw.symm)
      go_ret
      exact ⟨_, _, rfl, rfl, (two_new _ _ _).2, (two_new _ _ _).1⟩
    · rw [he] at hc
      by_cases hq : h.name = ⟨#[47]⟩
      · rw [if_neg (by simp [hq])]
        rw [decide_eq_true hq] at E
        have hq' := hid hq
        clear hq
        go_enter Tryz.func36, Tryz.ntmps36
        go_wp2_with (go_at_call 37; refine (hc _).mono ?_; rintro e w' ⟨hw, rfl⟩; obtain rfl := hw.symm)
        go_ret
        exact ⟨_, _, rfl, rfl, (two_new _ _ _).2, (two_new _ _ _).1⟩
      · rw [if_pos (by simp [hq])]
        rw [decide_eq_false hq] at E
        go_enter Tryz.func36, Tryz.ntmps36
        go_wp2_with (go_at_call 37; refine (hc _).mono ?_; rintro e w' ⟨hw, rfl⟩; obtain rfl := hw.symm)
        go_ret
        exact ⟨_, _, rfl, rfl, (two_new _ _ _).2, (two_new _ _ _).1⟩
  · rw [if_neg h6]
    have hk : (h.kind != 6) = true := by simp [h6]
    go_enter Tryz.func36, Tryz.ntmps36
    go_wp2
    go_ret
    exact ⟨_, _, rfl, rfl, (two_new _ _ _).2, (two_new _ _ _).1⟩

set_option maxHeartbeats 2000000 in
theorem rname_ok (s : ByteArray) (hs : s.size ≤ 1000000) (w : World) : Calls Tryz.prog 70 #[.string s] w fun e w' => e = .returned (.bool (namR s)) ∧ Below w.heap.size w w' := by
  have hc := rclean_walk s hs
  rw [clean_has] at hc
  unfold namR txtR
  generalize has 0 (bs s) = q at *
  cases h : (s.toList == [])
  · by_cases h2 : s.size ≤ 65536
    · have hI : (s.size : Int) ≤ 65536 := by omega
      rw [decide_eq_true h2]
      go_enter Tryz.func70, Tryz.ntmps70
      go_wp2_with (go_at_call 104; refine (hc _).mono ?_; rintro e w1 ⟨rfl, hb⟩)
      go_ret
      exact ⟨rfl, hb⟩
    · have hI : ¬ (s.size : Int) ≤ 65536 := by omega
      rw [decide_eq_false h2]
      go_enter Tryz.func70, Tryz.ntmps70
      go_wp2
      go_ret
      exact ⟨rfl, Below.refl _ _⟩
  · go_enter Tryz.func70, Tryz.ntmps70
    go_wp2
    go_ret
    exact ⟨rfl, Below.refl _ _⟩

end Go.Proofs.YthnaanjhmehgcaaGreatDoor
