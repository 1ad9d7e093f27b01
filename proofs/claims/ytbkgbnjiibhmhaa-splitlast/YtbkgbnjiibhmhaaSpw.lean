/-
  THE WALK OF SplitWhole. No condition.
-/
import Derived.Test.YtbkgbnjiibhmhaaSpf
namespace Go.Proofs.Ytbkgbnjiibhmhaa
open Go.ChangeShapes Go.WideShapes Go.ChangeAt Go.RowKit Go.Lib
set_option linter.unusedVariables false
set_option linter.unusedSimpArgs false
set_option maxRecDepth 20000

theorem ext_size (s : ByteArray) (a b : Nat) (h : b ≤ s.size) : (s.extract a b).size = b - a := by
  have := congrArg List.length (nums_extract s a b)
  rw [nums_length] at this
  rw [this]
  simp [nums_length]; omega

set_option maxHeartbeats 8000000 in
theorem whole_cut (s A N : ByteArray) (hs : s.size ≤ 5000) (hA1 : 1 ≤ A.size) (hA2 : A.size ≤ 155) (hN1 : 1 ≤ N.size) (hN2 : N.size ≤ 100) (hj : A ++ ⟨#[47]⟩ ++ N = s) (hm : s.size ≤ 256) (w : World)
    (h1 : ∀ w, Calls Try.prog 16 #[.string s] w fun e w' => e = .returned (.tuple #[.string A, .string N, .bool true]) ∧ Below w.heap.size w w') :
    Calls Try.prog 5 #[.string s] w fun e w' => e = .returned (.bool true) ∧ Below w.heap.size w w' := by
  have hsI : ¬ (5000 : Int) < (s.size : Int) := by omega
  have hmI : (s.size : Int) ≤ 256 := by omega
  have hA : (A.size : Int) ≤ 155 := by omega
  have hN : (N.size : Int) ≤ 100 := by omega
  have hAe := toList_ne A (by omega)
  have hAe' : A.toList.isEmpty = false := by simpa using hAe
  have hNe := toList_ne N (by omega)
  have hNe' : N.toList.isEmpty = false := by simpa using hNe
  have hss : ((A ++ ⟨#[47]⟩ ++ N).toList == s.toList) = true := str_beq.2 hj
  have g1 : ¬ 9223372036854775807 < A.size + (ByteArray.mk #[47]).size := by have : (ByteArray.mk #[47]).size = 1 := rfl; omega
  have g2 : ¬ 9223372036854775807 < (A ++ (ByteArray.mk #[47])).size + N.size := by have : (ByteArray.mk #[47]).size = 1 := rfl; rw [ByteArray.size_append]; omega
  clear hj
  go_enter Try.func5, Try.ntmps5
  go_wp2_with (first
    | (go_at_call 15; refine (salive_ok _).mono ?_; rintro e w1 ⟨rfl, hb1⟩)
    | (go_at_call 16; refine (h1 _).mono ?_; rintro e w2 ⟨rfl, hb2⟩; replace hb2 := hb1.trans (hb2.mono hb1.size))
    | (go_at_call 21; refine (most_ok _).mono ?_; rintro e w' ⟨hw, rfl⟩; obtain rfl := hw.symm))
  all_goals go_ret
  all_goals exact ⟨rfl, hb2⟩

set_option maxHeartbeats 8000000 in
theorem whole_fit (s : ByteArray) (hs1 : 1 ≤ s.size) (hs2 : s.size ≤ 100) (w : World)
    (h1 : ∀ w, Calls Try.prog 16 #[.string s] w fun e w' => e = .returned (.tuple #[.string ⟨#[]⟩, .string s, .bool true]) ∧ Below w.heap.size w w') :
    Calls Try.prog 5 #[.string s] w fun e w' => e = .returned (.bool true) ∧ Below w.heap.size w w' := by
  have hsI : ¬ (5000 : Int) < (s.size : Int) := by omega
  have hmI : (s.size : Int) ≤ 256 := by omega
  have hN : (s.size : Int) ≤ 100 := by omega
  have hNe := toList_ne s (by omega)
  have hNe' : s.toList.isEmpty = false := by simpa using hNe
  have hss : (s.toList == s.toList) = true := str_beq.2 rfl
  go_enter Try.func5, Try.ntmps5
  go_wp2_with (first
    | (go_at_call 15; refine (salive_ok _).mono ?_; rintro e w1 ⟨rfl, hb1⟩)
    | (go_at_call 16; refine (h1 _).mono ?_; rintro e w2 ⟨rfl, hb2⟩; replace hb2 := hb1.trans (hb2.mono hb1.size))
    | (go_at_call 21; refine (most_ok _).mono ?_; rintro e w' ⟨hw, rfl⟩; obtain rfl := hw.symm))
  all_goals go_ret
  all_goals exact ⟨rfl, hb2⟩

set_option maxHeartbeats 8000000 in
theorem whole_none (s : ByteArray) (hs : s.size ≤ 5000) (hz : s.size = 0 ∨ 100 < s.size) (hno : ∀ k (hk : k < s.size), 1 ≤ k → k ≤ 155 → k + 2 ≤ s.size → s.size ≤ k + 101 → ((s[k]'hk).toNat : Int) ≠ 47) (w : World)
    (h1 : ∀ w, Calls Try.prog 16 #[.string s] w fun e w' => e = .returned (.tuple #[.string ⟨#[]⟩, .string ⟨#[]⟩, .bool false]) ∧ Below w.heap.size w w') :
    Calls Try.prog 5 #[.string s] w fun e w' => e = .returned (.bool true) ∧ Below w.heap.size w w' := by
  have hsI : ¬ (5000 : Int) < (s.size : Int) := by omega
  go_enter Try.func5, Try.ntmps5
  go_wp2_with (first
    | (go_at_call 15; refine (salive_ok _).mono ?_; rintro e w1 ⟨rfl, hb1⟩)
    | (go_at_call 16; refine (h1 _).mono ?_; rintro e w2 ⟨rfl, hb2⟩; replace hb2 := hb1.trans (hb2.mono hb1.size)))
  go_loop [7] (fun y => ∃ i : Nat, y = .int .i64 i ∧ 1 ≤ i ∧ i ≤ s.size + 1) (fun y => s.size + 2 - (RowKit.intOf y).toNat)
  case atStart => exact ⟨1, by go_num, by omega, by omega⟩
  case round =>
    obtain ⟨i, rfl, hi, hi2⟩ := hrel
    by_cases hlt : i + 1 < s.size
    · have hik : i < s.size := by omega
      have hn := hno i hik hi
      have hI : (i : Int) + 1 < (s.size : Int) := by omega
      obtain ⟨c, hc⟩ : ∃ c : Int, ((s[i]'hik).toNat : Int) = c := ⟨_, rfl⟩
      rw [hc] at hn
      clear hno h1
      by_cases h47 : c = 47
      · subst h47
        by_cases h155 : i ≤ 155
        · have hq : ¬ (s.size : Int) - 1 - (i : Int) ≤ 100 := fun h => hn h155 (by omega) (by omega) rfl
          clear hn
          go_wp2
          go_round
          case rel => exact ⟨i + 1, by go_num, by omega, by omega⟩
          case measure => simp [RowKit.intOf]; omega
        · clear hn
          go_wp2
          go_round
          case rel => exact ⟨i + 1, by go_num, by omega, by omega⟩
          case measure => simp [RowKit.intOf]; omega
      · have hneq : (c == 47) = false := by simpa using h47
        clear hn
        go_wp2
        go_round
        case rel => exact ⟨i + 1, by go_num, by omega, by omega⟩
        case measure => simp [RowKit.intOf]; omega
    · have hI : ¬ (i : Int) + 1 < (s.size : Int) := by omega
      clear hno h1
      rcases hz with h0 | h100
      · have he : (s.toList == []) = true := by rw [Lib.toList_data]; obtain rfl := empty_of s h0; rfl
        have he2 : s.toList = [] := by simpa using he
        go_wp2
        go_ret
        exact ⟨rfl, hb2⟩
      · have hne := toList_ne s (by omega)
        have he : s.toList.isEmpty = false := by simpa using hne
        have hI2 : (100 : Int) < (s.size : Int) := by omega
        go_wp2
        go_ret
        exact ⟨rfl, hb2⟩

set_option maxHeartbeats 4000000 in
theorem whole_walk (s : ByteArray) (w : World) : Calls Try.prog 5 #[.string s] w fun e w' => e = .returned (.bool true) ∧ Below w.heap.size w w' := by
  by_cases hs : s.size ≤ 5000
  · have h1 := fun w => split_ok s (by omega) w
    cases hf : fitB s
    · by_cases h0 : lastC (nums s) s.size = 0
      · obtain ⟨e1, e2, e3⟩ := sp_none hf h0
        rw [e1, e2, e3] at h1
        refine whole_none s hs (by unfold fitB at hf; simp at hf; omega) (fun k hk k1 k2 k3 k4 h47 => ?_) w h1
        rw [nums_at] at h47
        have := cutB_iff.2 ⟨h47, k1, k2, by rw [nums_length]; exact k3, by rw [nums_length]; exact k4⟩
        rw [no_cut h0 k hk] at this
        cases this
      · obtain ⟨e1, e2, e3⟩ := sp_cut hf h0
        rw [e3] at h1
        obtain ⟨hc, hlt⟩ := (lastC_is (nums s) s.size).resolve_left h0
        obtain ⟨c1, c2, c3, c4, c5⟩ := cutB_iff.1 hc
        rw [nums_length] at c4 c5
        refine whole_cut s (spA s) (spN s) hs ?_ ?_ ?_ ?_ ?_ (by omega) w h1
        · rw [e1, ext_size _ _ _ (by omega)]; omega
        · rw [e1, ext_size _ _ _ (by omega)]; omega
        · rw [e2, ext_size _ _ _ (by omega)]; omega
        · rw [e2, ext_size _ _ _ (by omega)]; omega
        · rw [e1, e2]; exact join_cut s _ hlt c1
    · obtain ⟨e1, e2, e3⟩ := sp_fit hf
      rw [e1, e2, e3] at h1
      unfold fitB at hf
      simp only [decide_eq_true_eq] at hf
      exact whole_fit s hf.1 hf.2 w h1
  · have hsI : (5000 : Int) < (s.size : Int) := by omega
    go_enter Try.func5, Try.ntmps5
    go_wp2_with (go_at_call 15; refine (salive_ok _).mono ?_; rintro e w1 ⟨rfl, hb1⟩)
    go_ret
    exact ⟨rfl, hb1⟩

end Go.Proofs.Ytbkgbnjiibhmhaa
