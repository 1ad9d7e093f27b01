/-
  KINDS AND FLAGS: item.Kind, item.Flag, the document's Kind, Slash and Told. Conditions: how long the text may be.
-/
import Derived.Test.YtlehomcodkbpmaaAlv
namespace Go.Proofs.Ytlehomcodkbpmaa
open Go.ChangeShapes Go.WideShapes Go.ChangeAt Go.RowKit Go.Lib
set_option linter.unusedVariables false
set_option linter.unusedSimpArgs false
set_option maxRecDepth 20000

/-- the kind of a flag -/
def kindF (f : Int) : Int := if f = 0 ∨ f = 55 then 1 else if 48 ≤ f ∧ f ≤ 54 then f - 47 else 0
/-- the flag of a kind, looked for up to c -/
def flagTo (k c : Int) : Int := if 1 ≤ k ∧ k + 47 < c then k + 47 else 0

set_option maxHeartbeats 4000000 in
theorem kind_ok (f : Int) (w : World) : Calls Try.prog 9 #[.int .u8 f] w fun e w' => w' = w ∧ e = .returned (.int .i64 (kindF f)) := by
  generalize hK : kindF f = K
  replace hK := hid hK
  by_cases hc : f = 0 ∨ f = 48 ∨ f = 55 ∨ f = 49 ∨ f = 50 ∨ f = 51 ∨ f = 52 ∨ f = 53 ∨ f = 54
  · rcases hc with rfl | rfl | rfl | rfl | rfl | rfl | rfl | rfl | rfl
    all_goals go_enter Try.func9, Try.ntmps9
    all_goals go_wp2
    all_goals go_ret
    all_goals exact ⟨rfl, ret_int (by rw [← hK.out]; rfl)⟩
  · have g0 : (f == 0) = false := by simp; omega
    have g1 : (f == 48) = false := by simp; omega
    have g2 : (f == 55) = false := by simp; omega
    have g3 : (f == 49) = false := by simp; omega
    have g4 : (f == 50) = false := by simp; omega
    have g5 : (f == 51) = false := by simp; omega
    have g6 : (f == 52) = false := by simp; omega
    have g7 : (f == 53) = false := by simp; omega
    have g8 : (f == 54) = false := by simp; omega
    have E : kindF f = 0 := by unfold kindF; rw [if_neg (by omega), if_neg (by omega)]
    replace E := hid E
    clear hc
    go_enter Try.func9, Try.ntmps9
    go_wp2
    go_ret
    exact ⟨rfl, ret_int (by rw [← hK.out, E.out])⟩

set_option maxHeartbeats 4000000 in
theorem rkind_ok (f : Int) (h0 : 0 ≤ f) (h1 : f ≤ 255) (w : World) : Calls Try.prog 6 #[.int .u8 f] w fun e w' => w' = w ∧ e = .returned (.int .i64 (kindF f)) := by
  generalize hK : kindF f = K
  replace hK := hid hK
  by_cases hc : f = 0 ∨ f = 48 ∨ f = 55 ∨ f = 49 ∨ f = 50 ∨ f = 51 ∨ f = 52 ∨ f = 53 ∨ f = 54
  · rcases hc with rfl | rfl | rfl | rfl | rfl | rfl | rfl | rfl | rfl
    all_goals go_enter Try.func6, Try.ntmps6
    all_goals go_wp2
    all_goals go_ret
    all_goals exact ⟨rfl, ret_int (by rw [← hK.out]; rfl)⟩
  · have g0 : (f == 0) = false := by simp; omega
    have g2 : (f == 55) = false := by simp; omega
    have E : kindF f = 0 := by unfold kindF; rw [if_neg (by omega), if_neg (by omega)]
    replace E := hid E
    by_cases hl : 48 ≤ f
    · have hl2 : ¬ f ≤ 54 := by omega
      clear hc
      go_enter Try.func6, Try.ntmps6
      go_wp2
      go_ret
      exact ⟨rfl, ret_int (by rw [← hK.out, E.out])⟩
    · clear hc
      go_enter Try.func6, Try.ntmps6
      go_wp2
      go_ret
      exact ⟨rfl, ret_int (by rw [← hK.out, E.out])⟩

set_option maxHeartbeats 4000000 in
theorem flag_ok (k : Int) (w : World) : Calls Try.prog 10 #[.int .i64 k] w fun e w' => w' = w ∧ e = .returned (.int .u8 (flagTo k 55)) := by
  generalize hK : flagTo k 55 = K
  replace hK := hid hK
  by_cases hc : k = 1 ∨ k = 2 ∨ k = 3 ∨ k = 4 ∨ k = 5 ∨ k = 6 ∨ k = 7
  · rcases hc with rfl | rfl | rfl | rfl | rfl | rfl | rfl
    all_goals go_enter Try.func10, Try.ntmps10
    all_goals go_wp2
    all_goals go_ret
    all_goals exact ⟨rfl, ret_int (by rw [← hK.out]; rfl)⟩
  · have g1 : (k == 1) = false := by simp; omega
    have g2 : (k == 2) = false := by simp; omega
    have g3 : (k == 3) = false := by simp; omega
    have g4 : (k == 4) = false := by simp; omega
    have g5 : (k == 5) = false := by simp; omega
    have g6 : (k == 6) = false := by simp; omega
    have g7 : (k == 7) = false := by simp; omega
    have E : flagTo k 55 = 0 := by unfold flagTo; rw [if_neg (by omega)]
    replace E := hid E
    clear hc
    go_enter Try.func10, Try.ntmps10
    go_wp2
    go_ret
    exact ⟨rfl, ret_int (by rw [← hK.out, E.out])⟩

set_option maxHeartbeats 2000000 in
theorem rslash_ok (s : ByteArray) (hs : s.size ≤ 9000000000000000000) (w : World) : Calls Try.prog 21 #[.string s] w fun e w' => w' = w ∧ e = .returned (.bool (endsS s)) := by
  by_cases h0 : 0 < s.size
  · have h1 : (1 : Int) ≤ (s.size : Int) := by omega
    have e1 : ((s.size : Int) - 1).toNat = s.size - 1 := by omega
    have hne : (s.toList == []) = false := by
      rw [toList_data]; simp; intro e; have : s.size = 0 := by show s.data.size = 0; rw [← Array.length_toList, e]; rfl
      omega
    have hat := nums_at s (s.size - 1) (by omega)
    have E : endsS s = ((nums s).getD (s.size - 1) 0 == 47) := by unfold endsS; simp [h0]
    rw [E]
    replace E := hid E
    go_enter Try.func21, Try.ntmps21
    go_wp2
    all_goals go_ret
    all_goals exact ⟨rfl, ret_bool (by simp_all)⟩
  · have e0 : s.size = 0 := by omega
    have hne : (s.toList == []) = true := by
      rw [toList_data]; simp; apply Array.eq_empty_of_size_eq_zero; exact e0
    go_enter Try.func21, Try.ntmps21
    go_wp2
    all_goals go_ret
    all_goals exact ⟨rfl, ret_bool (by unfold endsS; simp_all)⟩

set_option maxHeartbeats 2000000 in
theorem rtold_ok (k : Int) (s : ByteArray) (hs : s.size ≤ 9000000000000000000) (w : World) : Calls Try.prog 8 #[.int .i64 k, .string s] w fun e w' => Below w.heap.size w w' ∧ e = .returned (.tuple #[.int .i64 (toldK k s), .string (toldS k s)]) := by
  have hc := rslash_ok s hs
  have E := str_sl s
  generalize hK : toldK k s = K
  generalize hS : toldS k s = S
  unfold toldS toldK at hS
  unfold toldK at hK
  replace hK := hid hK
  replace hS := hid hS
  cases he : endsS s
  · rw [he] at hc
    by_cases h1 : k = 1
    · subst h1
      go_enter Try.func8, Try.ntmps8
      go_wp2_with (go_at_call 21; refine (hc _).mono ?_; rintro e w' ⟨hw, rfl⟩; obtain rfl := hw.symm)
      go_ret2
      exact ⟨Below.refl _ _, ret_is (by rw [← hK.out]; simp [he]) (by rw [← hS.out]; simp [he])⟩
    · have hk1 : (k == 1) = false := by simpa using h1
      by_cases h6 : k = 6
      · subst h6
        go_enter Try.func8, Try.ntmps8
        go_wp2_with (go_at_call 21; refine (hc _).mono ?_; rintro e w' ⟨hw, rfl⟩; obtain rfl := hw.symm)
        go_ret2
        exact ⟨Below.refl _ _, ret_is (by rw [← hK.out]; simp [he]) (by rw [← hS.out]; simp [he])⟩
      · have hk6 : (k == 6) = false := by simpa using h6
        go_enter Try.func8, Try.ntmps8
        go_wp2
        go_ret2
        exact ⟨Below.refl _ _, ret_is (by rw [← hK.out]; simp [he]) (by rw [← hS.out]; simp [he])⟩
  · rw [he] at hc
    have h0 : 0 < s.size := by unfold endsS at he; simp at he; exact he.1
    have z1 : (1 : Int) ≤ (s.size : Int) := by omega
    have e1 : ((s.size : Int) - 1).toNat = s.size - 1 := by omega
    by_cases h16 : k = 1 ∨ k = 6
    · have hS' := hid (by rw [← hS.out]; rcases h16 with rfl | rfl <;> by_cases hq2 : s = ⟨#[47]⟩ <;> simp [he, hq2] : S = if s = ⟨#[47]⟩ then s else cutS s)
      have hK' := hid (by rw [← hK.out]; rcases h16 with rfl | rfl <;> simp [he] : K = 6)
      by_cases hq : s = ⟨#[47]⟩
      · have hS2 := hid (by rw [hS'.out, if_pos hq] : S = s)
        rw [decide_eq_true hq] at E
        clear hS' hS hK
        subst hq
        rcases h16 with rfl | rfl
        all_goals go_enter Try.func8, Try.ntmps8
        all_goals go_wp2_with (go_at_call 21; refine (hc _).mono ?_; rintro e w' ⟨hw, rfl⟩; obtain rfl := hw.symm)
        all_goals go_ret2
        all_goals exact ⟨Below.refl _ _, ret_is hK'.out.symm hS2.out.symm⟩
      · have hS2 := hid (by rw [hS'.out, if_neg hq] : S = cutS s)
        rw [decide_eq_false hq] at E
        clear hS' hS hK
        rcases h16 with rfl | rfl
        all_goals go_enter Try.func8, Try.ntmps8
        all_goals go_wp2_with (go_at_call 21; refine (hc _).mono ?_; rintro e w' ⟨hw, rfl⟩; obtain rfl := hw.symm)
        all_goals go_region
        all_goals go_wp2
        all_goals go_ret2
        all_goals exact ⟨(Below.refl _ _).drew, ret_is hK'.out.symm (by rw [hS2.out]; unfold cutS; simp [e1])⟩
    · have hk1 : (k == 1) = false := by simp; omega
      have hk6 : (k == 6) = false := by simp; omega
      have hK' := hid (by rw [← hK.out, if_neg (by omega)] : K = k)
      have hS' := hid (by rw [← hS.out, if_neg (by simp; omega)] : S = s)
      clear hS hK h16
      go_enter Try.func8, Try.ntmps8
      go_wp2
      go_ret2
      exact ⟨Below.refl _ _, ret_is hK'.out.symm hS'.out.symm⟩

end Go.Proofs.Ytlehomcodkbpmaa
