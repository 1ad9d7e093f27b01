/-
  PAIRS THAT ARE RIGHT, on lists of bytes; the byte that a text has. No condition.; AND WHAT FOLLOWS OF IT. Conditions: those that each part names.
-/
import Derived.Test.YthnaanjhmehgcaaGreatDoorN05
import Derived.Test.YthnaanjhmehgcaaGreatDoorN08
import Derived.Lib.IndexAny
/-
  PAIRS THAT ARE RIGHT, on lists of bytes; the byte that a text has. No condition.
-/
namespace Go.Proofs.YthnaanjhmehgcaaGreatDoor
open Go.ChangeShapes Go.WideShapes Go.ChangeAt Go.RowKit Go.Lib
set_option linter.unusedVariables false
set_option maxRecDepth 20000

/-- has a text a byte? -/
def has (c : UInt8) (l : List UInt8) : Bool := decide (c ∈ l)
/-- is it a number's text, a time's? -/
def isNum (l : List UInt8) : Bool := match nat63 l with | some u => decide (u ≤ 9223372036854775807) | none => false
def isTim (l : List UInt8) : Bool := (timeOf l).isSome

/-- the known keys, by their kinds -/
def keysN : List (List UInt8) := [[112, 97, 116, 104], [108, 105, 110, 107, 112, 97, 116, 104], [117, 110, 97, 109, 101], [103, 110, 97, 109, 101]]
def keysU : List (List UInt8) := [[117, 105, 100], [103, 105, 100], [115, 105, 122, 101]]
def keysT : List (List UInt8) := [[109, 116, 105, 109, 101]]
def kindK (k : List UInt8) : Int := if k ∈ keysN then 1 else if k ∈ keysU then 2 else if k ∈ keysT then 3 else 0
/-- may a value of a kind be so? -/
def holdK (k : Int) (v : List UInt8) : Bool := if k = 1 then !has 0 v else if k = 2 then isNum v else if k = 3 then isTim v else true
/-- is a key right? -/
def keyR (k : List UInt8) : Bool := decide (k ≠ []) && (!(has 61 k || has 0 k) && decide (firstL k < 0))
/-- is a pair right? -/
def rightP (k v : List UInt8) : Bool := keyR k && decide (firstL v < 0) && (decide (v = []) || holdK (kindK k) v)

theorem kindK_is (k : List UInt8) : kindK k = 0 ∨ kindK k = 1 ∨ kindK k = 2 ∨ kindK k = 3 := by
  unfold kindK
  repeat' split
  all_goals simp

theorem indexByte_mem (c : UInt8) : ∀ l : List UInt8, decide (0 ≤ indexByte l c) = has c l
  | [] => by simp [indexByte, has]
  | b :: l => by
    have ih := indexByte_mem c l
    have hge : -1 ≤ indexByte l c := indexByte_ge l c
    unfold has at ih ⊢
    by_cases hb : b = c
    · subst hb; simp [indexByte]
    · have hb' : (b == c) = false := by simpa using hb
      have hb2 : ¬ c = b := fun e => hb e.symm
      by_cases hm : c ∈ l
      · have h0 : 0 ≤ indexByte l c := by simpa [hm] using ih
        have h1 : (indexByte l c == -1) = false := by simp; omega
        simp [indexByte, hb', h1, hm]; omega
      · have h0 : ¬ 0 ≤ indexByte l c := by simpa [hm] using ih
        have h1 : indexByte l c = -1 := by omega
        simp [indexByte, hb', h1, hm, hb2]

theorem indexAny_mem : ∀ l : List UInt8, decide (0 ≤ indexAny l [61, 0]) = (has 61 l || has 0 l)
  | [] => by simp [indexAny, has]
  | b :: l => by
    have ih := indexAny_mem l
    have hge := indexAny_ge [61, 0] l
    unfold has at ih ⊢
    by_cases hb : b = 61 ∨ b = 0
    · rcases hb with rfl | rfl <;> simp [indexAny]
    · have hb' : ([61, 0] : List UInt8).contains b = false := by simpa using hb
      have hb1 : ¬ (61 : UInt8) = b := fun e => hb (.inl e.symm)
      have hb2 : ¬ (0 : UInt8) = b := fun e => hb (.inr e.symm)
      by_cases hm : 61 ∈ l ∨ 0 ∈ l
      · have h0 : 0 ≤ indexAny l [61, 0] := by
          have e : (decide ((61 : UInt8) ∈ l) || decide ((0 : UInt8) ∈ l)) = true := by simpa using hm
          rw [e] at ih
          exact of_decide_eq_true ih
        have h1 : (indexAny l [61, 0] == -1) = false := by simp; omega
        simp only [indexAny, hb', h1]
        rcases hm with hm | hm <;> simp [hm] <;> omega
      · have h2 : ¬ (61 : UInt8) ∈ l := fun e => hm (.inl e)
        have h3 : ¬ (0 : UInt8) ∈ l := fun e => hm (.inr e)
        have h0 : ¬ 0 ≤ indexAny l [61, 0] := by
          rw [decide_eq_false h2, decide_eq_false h3] at ih
          exact of_decide_eq_false ih
        have h1 : indexAny l [61, 0] = -1 := by omega
        simp only [indexAny, hb', h1]
        simp [h2, h3, hb1, hb2]

theorem str_is (s : ByteArray) (l : List UInt8) : (s.toList == l) = decide (bs s = l) := by
  rw [toList_data, Bool.eq_iff_iff]
  unfold bs
  simp

end Go.Proofs.YthnaanjhmehgcaaGreatDoor

/-
  WHICH KIND A KEY IS OF, AND WHAT ITS VALUES MAY BE; whether a key is right. Conditions: how many bytes a text may have; what the listed variables hold.
-/
namespace Go.Proofs.YthnaanjhmehgcaaGreatDoor
open Go.ChangeShapes Go.WideShapes Go.ChangeAt Go.RowKit Go.Lib
set_option linter.unusedVariables false
set_option maxRecDepth 20000

set_option maxHeartbeats 1000000 in
theorem kind_ok (s : ByteArray) (w : World) : Calls Tryz.prog 93 #[.string s] w fun e w' => w' = w ∧ e = .returned (.int .i64 (kindK (bs s))) := by
  have E := str_is s
  by_cases k0 : bs s = [112, 97, 116, 104]
  · have e0 : (s.toList == [112, 97, 116, 104]) = true := by rw [E, decide_eq_true k0]
    have hk : kindK (bs s) = 1 := by rw [k0]; decide
    rw [hk]
    clear hk E k0
    go_enter Tryz.func93, Tryz.ntmps93
    go_wp2
    all_goals go_ret
    all_goals exact ⟨rfl, rfl⟩
  have e0 : (s.toList == [112, 97, 116, 104]) = false := by rw [E, decide_eq_false k0]
  by_cases k1 : bs s = [108, 105, 110, 107, 112, 97, 116, 104]
  · have e1 : (s.toList == [108, 105, 110, 107, 112, 97, 116, 104]) = true := by rw [E, decide_eq_true k1]
    have hk : kindK (bs s) = 1 := by rw [k1]; decide
    rw [hk]
    clear hk E k0 k1
    go_enter Tryz.func93, Tryz.ntmps93
    go_wp2
    all_goals go_ret
    all_goals exact ⟨rfl, rfl⟩
  have e1 : (s.toList == [108, 105, 110, 107, 112, 97, 116, 104]) = false := by rw [E, decide_eq_false k1]
  by_cases k2 : bs s = [117, 110, 97, 109, 101]
  · have e2 : (s.toList == [117, 110, 97, 109, 101]) = true := by rw [E, decide_eq_true k2]
    have hk : kindK (bs s) = 1 := by rw [k2]; decide
    rw [hk]
    clear hk E k0 k1 k2
    go_enter Tryz.func93, Tryz.ntmps93
    go_wp2
    all_goals go_ret
    all_goals exact ⟨rfl, rfl⟩
  have e2 : (s.toList == [117, 110, 97, 109, 101]) = false := by rw [E, decide_eq_false k2]
  by_cases k3 : bs s = [103, 110, 97, 109, 101]
  · have e3 : (s.toList == [103, 110, 97, 109, 101]) = true := by rw [E, decide_eq_true k3]
    have hk : kindK (bs s) = 1 := by rw [k3]; decide
    rw [hk]
    clear hk E k0 k1 k2 k3
    go_enter Tryz.func93, Tryz.ntmps93
    go_wp2
    all_goals go_ret
    all_goals exact ⟨rfl, rfl⟩
  have e3 : (s.toList == [103, 110, 97, 109, 101]) = false := by rw [E, decide_eq_false k3]
  by_cases k4 : bs s = [117, 105, 100]
  · have e4 : (s.toList == [117, 105, 100]) = true := by rw [E, decide_eq_true k4]
    have hk : kindK (bs s) = 2 := by rw [k4]; decide
    rw [hk]
    clear hk E k0 k1 k2 k3 k4
    go_enter Tryz.func93, Tryz.ntmps93
    go_wp2
    all_goals go_ret
    all_goals exact ⟨rfl, rfl⟩
  have e4 : (s.toList == [117, 105, 100]) = false := by rw [E, decide_eq_false k4]
  by_cases k5 : bs s = [103, 105, 100]
  · have e5 : (s.toList == [103, 105, 100]) = true := by rw [E, decide_eq_true k5]
    have hk : kindK (bs s) = 2 := by rw [k5]; decide
    rw [hk]
    clear hk E k0 k1 k2 k3 k4 k5
    go_enter Tryz.func93, Tryz.ntmps93
    go_wp2
    all_goals go_ret
    all_goals exact ⟨rfl, rfl⟩
  have e5 : (s.toList == [103, 105, 100]) = false := by rw [E, decide_eq_false k5]
  by_cases k6 : bs s = [115, 105, 122, 101]
  · have e6 : (s.toList == [115, 105, 122, 101]) = true := by rw [E, decide_eq_true k6]
    have hk : kindK (bs s) = 2 := by rw [k6]; decide
    rw [hk]
    clear hk E k0 k1 k2 k3 k4 k5 k6
    go_enter Tryz.func93, Tryz.ntmps93
    go_wp2
    all_goals go_ret
    all_goals exact ⟨rfl, rfl⟩
  have e6 : (s.toList == [115, 105, 122, 101]) = false := by rw [E, decide_eq_false k6]
  by_cases k7 : bs s = [109, 116, 105, 109, 101]
  · have e7 : (s.toList == [109, 116, 105, 109, 101]) = true := by rw [E, decide_eq_true k7]
    have hk : kindK (bs s) = 3 := by rw [k7]; decide
    rw [hk]
    clear hk E k0 k1 k2 k3 k4 k5 k6 k7
    go_enter Tryz.func93, Tryz.ntmps93
    go_wp2
    all_goals go_ret
    all_goals exact ⟨rfl, rfl⟩
  have e7 : (s.toList == [109, 116, 105, 109, 101]) = false := by rw [E, decide_eq_false k7]
  have hk : kindK (bs s) = 0 := by
    unfold kindK keysN keysU keysT
    rw [if_neg (by simp [k0, k1, k2, k3]), if_neg (by simp [k4, k5, k6]), if_neg (by simp [k7])]
  rw [hk]
  clear hk E k0 k1 k2 k3 k4 k5 k6 k7
  go_enter Tryz.func93, Tryz.ntmps93
  go_wp2
  all_goals go_ret
  all_goals exact ⟨rfl, rfl⟩

theorem num_code (l : List UInt8) : ((match nat63 l with | some u => if u ≤ 9223372036854775807 then (0 : Int) else 15 | none => 15) == 0) = isNum l := by
  unfold isNum
  cases nat63 l with
  | none => rfl
  | some u =>
    simp only
    by_cases h : u ≤ 9223372036854775807
    · rw [if_pos h, decide_eq_true h]; rfl
    · rw [if_neg h, decide_eq_false h]; rfl

set_option maxHeartbeats 1000000 in
theorem holds_ok (k : Int) (v : ByteArray) (hk : k = 0 ∨ k = 1 ∨ k = 2 ∨ k = 3) (hs : v.size ≤ 281474976710656) (w : World) (hL : Laid w) : Calls Tryz.prog 94 #[.int .i64 k, .string v] w fun e w' => e = .returned (.bool (holdK k (bs v))) ∧ Below w.heap.size w w' := by
  rcases hk with rfl | rfl | rfl | rfl
  · have E : holdK 0 (bs v) = true := rfl
    rw [E]
    clear E
    go_enter Tryz.func94, Tryz.ntmps94
    go_wp2
    all_goals go_ret
    all_goals exact ⟨rfl, Below.refl _ _⟩
  · have hc := fun w => Tryz.strings_Contains_one v 0 w
    have E : holdK 1 (bs v) = !decide (0 ≤ indexByte v.data.toList 0) := by rw [indexByte_mem]; rfl
    rw [E]
    clear E
    generalize decide (0 ≤ indexByte v.data.toList 0) = q at *
    go_enter Tryz.func94, Tryz.ntmps94
    go_wp2_with (go_at_call 118; refine (hc _).mono ?_; rintro e w' ⟨rfl, hw⟩; obtain rfl := hw.symm)
    all_goals go_ret
    all_goals exact ⟨rfl, Below.refl _ _⟩
  · obtain ⟨r, hr⟩ : ∃ r : Int, r = match nat63 (bs v) with | some u => if u ≤ 9223372036854775807 then (u : Int) else 0 | none => 0 := ⟨_, rfl⟩
    obtain ⟨c, hc⟩ : ∃ c : Int, c = match nat63 (bs v) with | some u => if u ≤ 9223372036854775807 then (0 : Int) else 15 | none => 15 := ⟨_, rfl⟩
    have hn := number_ok v hs w hL r c hr hc
    have E : holdK 2 (bs v) = (c == 0) := by rw [hc, num_code]; rfl
    rw [E]
    clear E hr hc
    go_enter Tryz.func94, Tryz.ntmps94
    go_wp2_with (go_at_call 95; refine hn.mono ?_; rintro e w1 ⟨rfl, hb⟩)
    all_goals go_ret
    all_goals exact ⟨rfl, hb⟩
  · have hT : ∃ a b c : Int, (timeOf (bs v) = some (a, b) ∧ c = 0 ∨ timeOf (bs v) = none ∧ a = 0 ∧ b = 0 ∧ c = 15) ∧ holdK 3 (bs v) = (c == 0) := by
      cases h : timeOf (bs v) with
      | none => exact ⟨0, 0, 15, .inr ⟨rfl, rfl, rfl, rfl⟩, by show isTim (bs v) = _; unfold isTim; rw [h]; rfl⟩
      | some p => exact ⟨p.1, p.2, 0, .inl ⟨rfl, rfl⟩, by show isTim (bs v) = _; unfold isTim; rw [h]; rfl⟩
    obtain ⟨a, b, c, ht, E⟩ := hT
    have hn := time_ok v hs w hL a b c ht
    rw [E]
    clear E ht
    go_enter Tryz.func94, Tryz.ntmps94
    go_wp2_with (go_at_call 96; refine hn.mono ?_; rintro e w1 ⟨rfl, hb⟩)
    all_goals go_ret
    all_goals exact ⟨rfl, hb⟩

end Go.Proofs.YthnaanjhmehgcaaGreatDoor
