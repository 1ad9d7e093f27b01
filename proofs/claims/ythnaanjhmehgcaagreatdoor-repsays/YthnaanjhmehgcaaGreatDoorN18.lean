/-
  WHETHER A TIME IS RIGHT: dec.Right. No condition.; AND WHAT FOLLOWS OF IT. Conditions: those that each part names.
-/
import Derived.Test.YthnaanjhmehgcaaGreatDoorN05
/-
  WHETHER A TIME IS RIGHT: dec.Right. No condition.
-/
namespace Go.Proofs.YthnaanjhmehgcaaGreatDoor
open Go.ChangeShapes Go.WideShapes Go.ChangeAt Go.RowKit Go.Lib
set_option linter.unusedVariables false
set_option linter.unusedSimpArgs false
set_option maxRecDepth 20000

theorem dright_ok (a b : Int) (w : World) :
    Calls Tryz.prog 87 #[.agg #[.int .i64 a, .int .i64 b]] w fun e w' => e = .returned (.bool (decide (0 ≤ b ∧ b < 1000000000))) ∧ Below w.heap.size w w' := by
  by_cases h0 : 0 ≤ b
  · by_cases h1 : b < 1000000000
    · have hd : decide (0 ≤ b ∧ b < 1000000000) = true := decide_eq_true ⟨h0, h1⟩
      rw [hd]
      go_enter Tryz.func87, Tryz.ntmps87
      go_wp2
      go_ret
      refine ⟨rfl, ?_⟩
      first | exact (Below.refl _ _).alloc (Nat.le_refl _) _ | exact ((Below.refl _ _).alloc (Nat.le_refl _) _).drew
    · have hd : decide (0 ≤ b ∧ b < 1000000000) = false := decide_eq_false fun h => h1 h.2
      rw [hd]
      go_enter Tryz.func87, Tryz.ntmps87
      go_wp2
      go_ret
      refine ⟨rfl, ?_⟩
      first | exact (Below.refl _ _).alloc (Nat.le_refl _) _ | exact ((Below.refl _ _).alloc (Nat.le_refl _) _).drew
  · have hd : decide (0 ≤ b ∧ b < 1000000000) = false := decide_eq_false fun h => h0 h.1
    rw [hd]
    go_enter Tryz.func87, Tryz.ntmps87
    go_wp2
    go_ret
    refine ⟨rfl, ?_⟩
    first | exact (Below.refl _ _).alloc (Nat.le_refl _) _ | exact ((Below.refl _ _).alloc (Nat.le_refl _) _).drew


end Go.Proofs.YthnaanjhmehgcaaGreatDoor

/-
  The program's printing of times.
  Conditions: the package variables that the library reads hold what the program's text lays.
-/
namespace Go.Proofs.YthnaanjhmehgcaaGreatDoor
open Go.ChangeShapes Go.WideShapes Go.ChangeAt Go.RowKit Go.Lib Go.Sort
set_option linter.unusedVariables false
set_option linter.unusedSimpArgs false

theorem size9 : (({ data := #[48, 48, 48, 48, 48, 48, 48, 48, 48] } : ByteArray)).size = 9 := rfl

/-- behindPoint. -/
theorem behind_ok (p : Nat) (hp : p < 1000000000) (w : World) (hL : Laid w) :
    Calls Tryz.prog 131 #[.int .u64 p] w fun e w' => e = .returned (.string (txt (tail9 p))) ∧ Below w.heap.size w w' := by
  by_cases h0 : p = 0
  · subst h0
    go_enter Tryz.func131, Tryz.ntmps131
    go_wp2
    go_ret
    exact ⟨rfl, Below.refl _ _⟩
  · have hi : ¬ ((p : Int) = 0) := by omega
    have hlen : (decDigits (1000000000 + p)).length = 10 := by
      rw [decDigits_length]
      exact nDigits_unique 9 _ (by omega) (by omega)
    have hw : IntKind.u64.wrap (1000000000 + (p : Int)) = ((1000000000 + p : Nat) : Int) := by rw [IntKind.wrap_u64]; omega
    have ht : tail9 p = [46] ++ trimRightB ((decDigits (1000000000 + p)).drop 1) 48 := by unfold tail9; rw [if_neg h0]; rfl
    have hf := fmt_ok (1000000000 + p) (by omega) w hL
    rw [ht]
    have hcs : (txt (decDigits (1000000000 + p))).size = 10 := by rw [txt_size, hlen]
    have hc1 : (1 : Int) ≤ (txt (decDigits (1000000000 + p))).size := by omega
    have hx : (txt (decDigits (1000000000 + p))).extract 1 (txt (decDigits (1000000000 + p))).size = txt ((decDigits (1000000000 + p)).drop 1) := by rw [ext_from, bs_txt]
    have hxs : (txt ((decDigits (1000000000 + p)).drop 1)).size = 9 := by rw [txt_size, List.length_drop, hlen]
    have htr : ∀ w, Calls Tryz.prog 161 #[.string (txt ((decDigits (1000000000 + p)).drop 1)), .string ⟨#[48]⟩] w fun e w' => e = .returned (.string (txt (trimRightB ((decDigits (1000000000 + p)).drop 1) 48))) ∧ w' = w := fun w => by
      have := Tryz.strings_TrimRight_one (txt ((decDigits (1000000000 + p)).drop 1)) 48 (by decide) w (by omega)
      have e : (txt ((decDigits (1000000000 + p)).drop 1)).data.toList = (decDigits (1000000000 + p)).drop 1 := bs_txt _
      rw [e] at this
      exact this
    have hts : (txt (trimRightB ((decDigits (1000000000 + p)).drop 1) 48)).size ≤ 9 := by
      rw [txt_size]
      unfold trimRightB
      rw [List.length_reverse]
      have h1 := (List.dropWhile_suffix (p := (· == (48 : UInt8))) (l := ((decDigits (1000000000 + p)).drop 1).reverse)).length_le
      rw [List.length_reverse, List.length_drop, hlen] at h1
      exact h1
    clear ht hlen hcs hxs
    generalize decDigits (1000000000 + p) = D at *
    generalize D.drop 1 = DD at *
    generalize hT : trimRightB DD 48 = T at *
    have hcat : ¬ 9223372036854775807 < 1 + (txt T).size := by omega
    clear hT hts
    go_enter Tryz.func131, Tryz.ntmps131
    go_wp2_with (first
      | (go_at_call 124; refine hf.mono ?_; rintro e w' ⟨rfl, hb⟩)
      | (go_at_call 161; refine (htr _).mono ?_; rintro e w'' ⟨rfl, rfl⟩))
    go_ret
    exact ⟨ret_string (txt_app [46] T), hb⟩

/-- What lies in the block of an argument, behind calls. -/
theorem boxed {w w1 : World} {t : TypeId} {a b : Int} (hb : Below (w.alloc (Obj.cells #[.int .i64 a, .int .i64 b] t)).heap.size (w.alloc (Obj.cells #[.int .i64 a, .int .i64 b] t)) w1) :
    w.heap.size < w1.heap.size ∧ w1.cell? ⟨w.heap.size, 0, none⟩ = some (.int .i64 a) ∧ w1.cell? ⟨w.heap.size, 1, none⟩ = some (.int .i64 b) ∧ Below w.heap.size w w1 := by
  have hlt : w.heap.size < w1.heap.size := by have := hb.size; simp at this; omega
  refine ⟨hlt, (hb.cell (p := ⟨w.heap.size, 0, none⟩) (by simp)).trans (by simp), (hb.cell (p := ⟨w.heap.size, 1, none⟩) (by simp)).trans (by simp), ?_⟩
  exact ((Below.refl _ w).alloc (Nat.le_refl _) _).trans (hb.mono (by simp))

theorem tail_size (p : Nat) (h : p < 1000000000) : (txt (tail9 p)).size ≤ 10 := by
  rw [txt_size, tail9_eq h]
  split
  · simp
  · rw [List.length_cons]; have := tl_len 9 p; omega

set_option maxHeartbeats 4000000 in
set_option maxRecDepth 20000 in
/-- Print: not right. -/
theorem print_no (a b : Int) (h : ¬ (0 ≤ b ∧ b < 1000000000)) (w : World) :
    Calls Tryz.prog 107 #[.agg #[.int .i64 a, .int .i64 b]] w fun e w' => e = .returned (.tuple #[.string (txt []), .int .u8 15]) ∧ Below w.heap.size w w' := by
  have hr := dright_ok a b
  rw [decide_eq_false h] at hr
  clear h
  go_enter Tryz.func107, Tryz.ntmps107
  go_wp2_with (first
    | (go_at_call 87; refine (hr _).mono ?_; rintro e w1 ⟨rfl, hb1⟩; obtain ⟨hlt, q0, q1, hB⟩ := boxed hb1; clear hb1))
  go_ret2
  exact ⟨rfl, hB⟩

set_option maxHeartbeats 4000000 in
set_option maxRecDepth 20000 in
/-- Print: a right time. -/
theorem print_yes (a b : Int) (ha0 : -9223372036854775808 ≤ a) (ha1 : a ≤ 9223372036854775807) (h : 0 ≤ b ∧ b < 1000000000) (w : World) (hL : Laid w) :
    Calls Tryz.prog 107 #[.agg #[.int .i64 a, .int .i64 b]] w fun e w' => e = .returned (.tuple #[.string (txt (printOf a b)), .int .u8 0]) ∧ Below w.heap.size w w' := by
  have hr := dright_ok a b
  rw [decide_eq_true h] at hr
  have hap := apart_ok a ha0 ha1
  obtain ⟨W, hW⟩ : ∃ W, W = wholeOf a b := ⟨_, rfl⟩
  obtain ⟨P, hP⟩ : ∃ P, P = partOf a b := ⟨_, rfl⟩
  have hPl : P < 1000000000 := by rw [hP]; unfold partOf; split <;> omega
  have hWl : W < 18446744073709551616 := by rw [hW]; unfold wholeOf; split <;> omega
  have hpr : txt (printOf a b) = txt (signOf a) ++ txt (decDigits W) ++ txt (tail9 P) := by
    rw [txt_app, txt_app, hW, hP]; rfl
  rw [hpr]
  have hfm : ∀ w, Laid w → _ := fun w hL => fmt_ok W hWl w hL
  have hbh : ∀ w, Laid w → _ := fun w hL => behind_ok P hPl w hL
  have s1 := sign_size a
  have s2 := dec_size W hWl
  have s3 := tail_size P hPl
  have c1 : ¬ 9223372036854775807 < (txt (signOf a)).size + (txt (decDigits W)).size := by omega
  have c2 : ¬ 9223372036854775807 < (txt (signOf a)).size + (txt (decDigits W)).size + (txt (tail9 P)).size := by omega
  have c2' : ¬ 9223372036854775807 < (txt (signOf a) ++ txt (decDigits W)).size + (txt (tail9 P)).size := by rw [ByteArray.size_append]; omega
  clear s1 s2 s3 hpr
  have hconv : IntKind.u64.wrap b = b := by rw [IntKind.wrap_u64]; omega
  have hb0 : (0 : Int) ≤ b := h.1
  have hb9 : b < 1000000000 := h.2
  by_cases hneg : a < 0 ∧ 0 < b
  · have hn1 := hneg.1
    have hn2 := hneg.2
    unfold wholeOf at hW
    unfold partOf at hP
    rw [if_pos hneg] at hW hP
    have w1 : IntKind.u64.wrap ((a.natAbs : Int) - 1) = W := by rw [IntKind.wrap_u64]; omega
    have w2 : IntKind.u64.wrap (1000000000 - b) = P := by rw [IntKind.wrap_u64]; omega
    generalize txt (signOf a) = SG at *
    generalize a.natAbs = A at *
    clear hW hP hPl hWl hneg h
    go_enter Tryz.func107, Tryz.ntmps107
    go_wp2_with (first
      | (go_at_call 87; refine (hr _).mono ?_; rintro e w1 ⟨rfl, hb1⟩; obtain ⟨hlt, q0, q1, hB⟩ := boxed hb1; clear hb1)
      | (go_at_call 123; refine (hap _).mono ?_; rintro e w' ⟨hw, rfl⟩; obtain rfl := hw.symm)
      | (go_at_call 124; refine (hfm _ (hL.below hB)).mono ?_; rintro e w2 ⟨rfl, hb2⟩; replace hB := hB.trans (hb2.mono hB.size))
      | (go_at_call 131; refine (hbh _ (hL.below hB)).mono ?_; rintro e w3 ⟨rfl, hb3⟩; replace hB := hB.trans (hb3.mono hB.size)))
    go_ret2
    exact ⟨rfl, hB⟩
  · unfold wholeOf at hW
    unfold partOf at hP
    rw [if_neg hneg] at hW hP
    have hPi : (P : Int) = b := by omega
    subst hW
    generalize txt (signOf a) = SG at *
    generalize hA : a.natAbs = A at *
    by_cases hn : a < 0
    · obtain rfl : b = 0 := by omega
      obtain rfl : P = 0 := by omega
      clear hPl hWl hneg h hP hA hPi
      go_enter Tryz.func107, Tryz.ntmps107
      go_wp2_with (first
        | (go_at_call 87; refine (hr _).mono ?_; rintro e w1 ⟨rfl, hb1⟩; obtain ⟨hlt, q0, q1, hB⟩ := boxed hb1; clear hb1)
        | (go_at_call 123; refine (hap _).mono ?_; rintro e w' ⟨hw, rfl⟩; obtain rfl := hw.symm)
        | (go_at_call 124; refine (hfm _ (hL.below hB)).mono ?_; rintro e w2 ⟨rfl, hb2⟩; replace hB := hB.trans (hb2.mono hB.size))
        | (go_at_call 131; refine (hbh _ (hL.below hB)).mono ?_; rintro e w3 ⟨rfl, hb3⟩; replace hB := hB.trans (hb3.mono hB.size)))
      go_ret2
      exact ⟨rfl, hB⟩
    · obtain ⟨Q, hQ⟩ : ∃ Q : Int, (P : Int) = Q := ⟨_, rfl⟩
      rw [hQ] at hbh
      obtain rfl : Q = b := by omega
      have hn' : 0 ≤ a := by omega
      clear hPl hWl hneg h hP hA hn hPi hQ
      go_enter Tryz.func107, Tryz.ntmps107
      go_wp2_with (first
        | (go_at_call 87; refine (hr _).mono ?_; rintro e w1 ⟨rfl, hb1⟩; obtain ⟨hlt, q0, q1, hB⟩ := boxed hb1; clear hb1)
        | (go_at_call 123; refine (hap _).mono ?_; rintro e w' ⟨hw, rfl⟩; obtain rfl := hw.symm)
        | (go_at_call 124; refine (hfm _ (hL.below hB)).mono ?_; rintro e w2 ⟨rfl, hb2⟩; replace hB := hB.trans (hb2.mono hB.size))
        | (go_at_call 131; refine (hbh _ (hL.below hB)).mono ?_; rintro e w3 ⟨rfl, hb3⟩; replace hB := hB.trans (hb3.mono hB.size)))
      go_ret2
      exact ⟨rfl, hB⟩

end Go.Proofs.YthnaanjhmehgcaaGreatDoor
