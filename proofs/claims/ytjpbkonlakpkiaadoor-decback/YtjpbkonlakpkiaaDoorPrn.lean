/-
  The program's printing of times, and which of two is the earlier one: what they answer.
  Conditions: the package variables that the library reads hold what the program's text lays.
-/
import Derived.Test.YtjpbkonlakpkiaaDoorTim
namespace Go.Proofs.YtjpbkonlakpkiaaDoor
open Go.ChangeShapes Go.WideShapes Go.ChangeAt Go.RowKit Go.Lib Go.Sort

/-- What lies in the block of an argument, behind calls. -/
theorem boxed {w w1 : World} {t : TypeId} {a b : Int} (hb : Below (w.alloc (Obj.cells #[.int .i64 a, .int .i64 b] t)).heap.size (w.alloc (Obj.cells #[.int .i64 a, .int .i64 b] t)) w1) :
    w.heap.size < w1.heap.size ∧ w1.cell? ⟨w.heap.size, 0, none⟩ = some (.int .i64 a) ∧ w1.cell? ⟨w.heap.size, 1, none⟩ = some (.int .i64 b) ∧ Below w.heap.size w w1 := by
  have hlt : w.heap.size < w1.heap.size := by have := hb.size; simp at this; omega
  refine ⟨hlt, (hb.cell (p := ⟨w.heap.size, 0, none⟩) (by simp)).trans (by simp), (hb.cell (p := ⟨w.heap.size, 1, none⟩) (by simp)).trans (by simp), ?_⟩
  exact ((Below.refl _ w).alloc (Nat.le_refl _) _).trans (hb.mono (by simp))

theorem tail_size (p : Nat) (h : p < 1000000000) : (txt (tail9 p)).size ≤ 10 := by
  rw [txt_size, tail9_eq h]
  split
  · simp
  · rw [List.length_cons]; have := tl_len 9 p; omega

set_option maxHeartbeats 4000000 in
set_option maxRecDepth 20000 in
/-- Print: not right. -/
theorem print_no (a b : Int) (h : ¬ (0 ≤ b ∧ b < 1000000000)) (w : World) :
    Calls Tryd.prog 12 #[.agg #[.int .i64 a, .int .i64 b]] w fun e w' => e = .returned (.tuple #[.string (txt []), .int .u8 15]) ∧ Below w.heap.size w w' := by
  have hr := right_ok a b
  rw [decide_eq_false h] at hr
  clear h
  go_enter Tryd.func12, Tryd.ntmps12
  go_wp2_with (first
    | (go_at_call 15; refine (hr _).mono ?_; rintro e w1 ⟨rfl, hb1⟩; obtain ⟨hlt, q0, q1, hB⟩ := boxed hb1; clear hb1))
  go_ret2
  exact ⟨rfl, hB⟩

set_option maxHeartbeats 4000000 in
set_option maxRecDepth 20000 in
/-- Print: a right time. -/
theorem print_yes (a b : Int) (ha0 : -9223372036854775808 ≤ a) (ha1 : a ≤ 9223372036854775807) (h : 0 ≤ b ∧ b < 1000000000) (w : World) (hL : Laid w) :
    Calls Tryd.prog 12 #[.agg #[.int .i64 a, .int .i64 b]] w fun e w' => e = .returned (.tuple #[.string (txt (printOf a b)), .int .u8 0]) ∧ Below w.heap.size w w' := by
  have hr := right_ok a b
  rw [decide_eq_true h] at hr
  have hap := apart_ok a ha0 ha1
  obtain ⟨W, hW⟩ : ∃ W, W = wholeOf a b := ⟨_, rfl⟩
  obtain ⟨P, hP⟩ : ∃ P, P = partOf a b := ⟨_, rfl⟩
  have hPl : P < 1000000000 := by rw [hP]; unfold partOf; split <;> omega
  have hWl : W < 18446744073709551616 := by rw [hW]; unfold wholeOf; split <;> omega
  have hpr : txt (printOf a b) = txt (signOf a) ++ txt (decDigits W) ++ txt (tail9 P) := by
    rw [txt_app, txt_app, hW, hP]; rfl
  rw [hpr]
  have hfm : ∀ w, Laid w → _ := fun w hL => fmt_ok W hWl w hL
  have hbh : ∀ w, Laid w → _ := fun w hL => behind_ok P hPl w hL
  have s1 := sign_size a
  have s2 := dec_size W hWl
  have s3 := tail_size P hPl
  have c1 : ¬ 9223372036854775807 < (txt (signOf a)).size + (txt (decDigits W)).size := by omega
  have c2 : ¬ 9223372036854775807 < (txt (signOf a)).size + (txt (decDigits W)).size + (txt (tail9 P)).size := by omega
  have c2' : ¬ 9223372036854775807 < (txt (signOf a) ++ txt (decDigits W)).size + (txt (tail9 P)).size := by rw [ByteArray.size_append]; omega
  clear s1 s2 s3 hpr
  have hconv : IntKind.u64.wrap b = b := by rw [IntKind.wrap_u64]; omega
  have hb0 : (0 : Int) ≤ b := h.1
  have hb9 : b < 1000000000 := h.2
  by_cases hneg : a < 0 ∧ 0 < b
  · have hn1 := hneg.1
    have hn2 := hneg.2
    unfold wholeOf at hW
    unfold partOf at hP
    rw [if_pos hneg] at hW hP
    have w1 : IntKind.u64.wrap ((a.natAbs : Int) - 1) = W := by rw [IntKind.wrap_u64]; omega
    have w2 : IntKind.u64.wrap (1000000000 - b) = P := by rw [IntKind.wrap_u64]; omega
    generalize txt (signOf a) = SG at *
    generalize a.natAbs = A at *
    clear hW hP hPl hWl hneg h
    go_enter Tryd.func12, Tryd.ntmps12
    go_wp2_with (first
      | (go_at_call 15; refine (hr _).mono ?_; rintro e w1 ⟨rfl, hb1⟩; obtain ⟨hlt, q0, q1, hB⟩ := boxed hb1; clear hb1)
      | (go_at_call 25; refine (hap _).mono ?_; rintro e w' ⟨hw, rfl⟩; obtain rfl := hw.symm)
      | (go_at_call 26; refine (hfm _ (hL.below hB)).mono ?_; rintro e w2 ⟨rfl, hb2⟩; replace hB := hB.trans (hb2.mono hB.size))
      | (go_at_call 27; refine (hbh _ (hL.below hB)).mono ?_; rintro e w3 ⟨rfl, hb3⟩; replace hB := hB.trans (hb3.mono hB.size)))
    go_ret2
    exact ⟨rfl, hB⟩
  · unfold wholeOf at hW
    unfold partOf at hP
    rw [if_neg hneg] at hW hP
    have hPi : (P : Int) = b := by omega
    subst hW
    generalize txt (signOf a) = SG at *
    generalize hA : a.natAbs = A at *
    by_cases hn : a < 0
    · obtain rfl : b = 0 := by omega
      obtain rfl : P = 0 := by omega
      clear hPl hWl hneg h hP hA hPi
      go_enter Tryd.func12, Tryd.ntmps12
      go_wp2_with (first
        | (go_at_call 15; refine (hr _).mono ?_; rintro e w1 ⟨rfl, hb1⟩; obtain ⟨hlt, q0, q1, hB⟩ := boxed hb1; clear hb1)
        | (go_at_call 25; refine (hap _).mono ?_; rintro e w' ⟨hw, rfl⟩; obtain rfl := hw.symm)
        | (go_at_call 26; refine (hfm _ (hL.below hB)).mono ?_; rintro e w2 ⟨rfl, hb2⟩; replace hB := hB.trans (hb2.mono hB.size))
        | (go_at_call 27; refine (hbh _ (hL.below hB)).mono ?_; rintro e w3 ⟨rfl, hb3⟩; replace hB := hB.trans (hb3.mono hB.size)))
      go_ret2
      exact ⟨rfl, hB⟩
    · obtain ⟨Q, hQ⟩ : ∃ Q : Int, (P : Int) = Q := ⟨_, rfl⟩
      rw [hQ] at hbh
      obtain rfl : Q = b := by omega
      have hn' : 0 ≤ a := by omega
      clear hPl hWl hneg h hP hA hn hPi hQ
      go_enter Tryd.func12, Tryd.ntmps12
      go_wp2_with (first
        | (go_at_call 15; refine (hr _).mono ?_; rintro e w1 ⟨rfl, hb1⟩; obtain ⟨hlt, q0, q1, hB⟩ := boxed hb1; clear hb1)
        | (go_at_call 25; refine (hap _).mono ?_; rintro e w' ⟨hw, rfl⟩; obtain rfl := hw.symm)
        | (go_at_call 26; refine (hfm _ (hL.below hB)).mono ?_; rintro e w2 ⟨rfl, hb2⟩; replace hB := hB.trans (hb2.mono hB.size))
        | (go_at_call 27; refine (hbh _ (hL.below hB)).mono ?_; rintro e w3 ⟨rfl, hb3⟩; replace hB := hB.trans (hb3.mono hB.size)))
      go_ret2
      exact ⟨rfl, hB⟩

/-- What lies in the blocks of two arguments, behind calls. -/
theorem boxed2 {w w1 : World} {t : TypeId} {a b c d : Int} (hb : Below ((w.alloc (Obj.cells #[.int .i64 a, .int .i64 b] t)).alloc (Obj.cells #[.int .i64 c, .int .i64 d] t)).heap.size ((w.alloc (Obj.cells #[.int .i64 a, .int .i64 b] t)).alloc (Obj.cells #[.int .i64 c, .int .i64 d] t)) w1) :
    w1.cell? ⟨w.heap.size, 0, none⟩ = some (.int .i64 a) ∧ w1.cell? ⟨w.heap.size, 1, none⟩ = some (.int .i64 b) ∧ w1.cell? ⟨w.heap.size + 1, 0, none⟩ = some (.int .i64 c) ∧ w1.cell? ⟨w.heap.size + 1, 1, none⟩ = some (.int .i64 d) ∧ w.heap.size + 1 < w1.heap.size ∧ Below w.heap.size w w1 := by
  have hlt : w.heap.size + 1 < w1.heap.size := by have := hb.size; simp at this; omega
  refine ⟨(hb.cell (p := ⟨w.heap.size, 0, none⟩) (by simp; omega)).trans (by simp), (hb.cell (p := ⟨w.heap.size, 1, none⟩) (by simp; omega)).trans (by simp), (hb.cell (p := ⟨w.heap.size + 1, 0, none⟩) (by simp)).trans ?_, (hb.cell (p := ⟨w.heap.size + 1, 1, none⟩) (by simp)).trans ?_, hlt, ?_⟩
  · have := World.cell?_alloc_new (w.alloc (Obj.cells #[.int .i64 a, .int .i64 b] t)) #[.int .i64 c, .int .i64 d] t 0
    simp at this ⊢
  · simp
  · exact (((Below.refl _ w).alloc (Nat.le_refl _) _).alloc (by simp) _).trans (hb.mono (by simp; omega))

/-- Before, as the document has it. -/
def befOf (a b c d : Int) : Bool := decide (0 ≤ b ∧ b < 1000000000) && decide (0 ≤ d ∧ d < 1000000000) && (decide (a < c) || decide (a = c) && decide (b < d))

set_option maxHeartbeats 4000000 in
set_option maxRecDepth 20000 in
theorem before_ok (a b c d : Int) (w : World) :
    Calls Tryd.prog 17 #[.agg #[.int .i64 a, .int .i64 b], .agg #[.int .i64 c, .int .i64 d]] w fun e w' => e = .returned (.bool (befOf a b c d)) ∧ Below w.heap.size w w' := by
  have hr1 := right_ok a b
  have hr2 := right_ok c d
  unfold befOf
  by_cases h1 : 0 ≤ b ∧ b < 1000000000
  · rw [decide_eq_true h1] at hr1 ⊢
    by_cases h2 : 0 ≤ d ∧ d < 1000000000
    · rw [decide_eq_true h2] at hr2 ⊢
      clear h1 h2
      by_cases hlt : a < c
      · rw [decide_eq_true hlt]
        go_enter Tryd.func17, Tryd.ntmps17
        go_wp2_with (first
          | (go_at_call 15; refine (hr1 _).mono ?_; rintro e w1 ⟨rfl, hb1⟩; obtain ⟨q0, q1, q2, q3, hl1, hB⟩ := boxed2 hb1; clear hr1)
          | (go_at_call 15; refine (hr2 _).mono ?_; rintro e w2 ⟨rfl, hb2⟩; obtain ⟨q0', q1', q2', q3', hl2, hB'⟩ := boxed2 (hb1.trans (hb2.mono hb1.size)); clear hr2))
        go_ret
        exact ⟨rfl, hB'⟩
      · rw [decide_eq_false hlt]
        by_cases heq : a = c
        · rw [decide_eq_true heq]
          subst heq
          by_cases hbd : b < d
          · rw [decide_eq_true hbd]
            go_enter Tryd.func17, Tryd.ntmps17
            go_wp2_with (first
              | (go_at_call 15; refine (hr1 _).mono ?_; rintro e w1 ⟨rfl, hb1⟩; obtain ⟨q0, q1, q2, q3, hl1, hB⟩ := boxed2 hb1; clear hr1)
              | (go_at_call 15; refine (hr2 _).mono ?_; rintro e w2 ⟨rfl, hb2⟩; obtain ⟨q0', q1', q2', q3', hl2, hB'⟩ := boxed2 (hb1.trans (hb2.mono hb1.size)); clear hr2))
            go_ret
            exact ⟨rfl, hB'⟩
          · rw [decide_eq_false hbd]
            go_enter Tryd.func17, Tryd.ntmps17
            go_wp2_with (first
              | (go_at_call 15; refine (hr1 _).mono ?_; rintro e w1 ⟨rfl, hb1⟩; obtain ⟨q0, q1, q2, q3, hl1, hB⟩ := boxed2 hb1; clear hr1)
              | (go_at_call 15; refine (hr2 _).mono ?_; rintro e w2 ⟨rfl, hb2⟩; obtain ⟨q0', q1', q2', q3', hl2, hB'⟩ := boxed2 (hb1.trans (hb2.mono hb1.size)); clear hr2))
            go_ret
            refine ⟨ret_bool ?_, hB'⟩; simp; omega
        · rw [decide_eq_false heq]
          go_enter Tryd.func17, Tryd.ntmps17
          go_wp2_with (first
            | (go_at_call 15; refine (hr1 _).mono ?_; rintro e w1 ⟨rfl, hb1⟩; obtain ⟨q0, q1, q2, q3, hl1, hB⟩ := boxed2 hb1; clear hr1)
            | (go_at_call 15; refine (hr2 _).mono ?_; rintro e w2 ⟨rfl, hb2⟩; obtain ⟨q0', q1', q2', q3', hl2, hB'⟩ := boxed2 (hb1.trans (hb2.mono hb1.size)); clear hr2))
          go_ret
          refine ⟨ret_bool ?_, hB'⟩; simp; omega
    · rw [decide_eq_false h2] at hr2 ⊢
      clear h1 h2
      go_enter Tryd.func17, Tryd.ntmps17
      go_wp2_with (first
        | (go_at_call 15; refine (hr1 _).mono ?_; rintro e w1 ⟨rfl, hb1⟩; obtain ⟨q0, q1, q2, q3, hl1, hB⟩ := boxed2 hb1; clear hr1)
        | (go_at_call 15; refine (hr2 _).mono ?_; rintro e w2 ⟨rfl, hb2⟩; obtain ⟨q0', q1', q2', q3', hl2, hB'⟩ := boxed2 (hb1.trans (hb2.mono hb1.size)); clear hr2))
      go_ret
      exact ⟨rfl, hB'⟩
  · rw [decide_eq_false h1] at hr1 ⊢
    clear h1 hr2
    go_enter Tryd.func17, Tryd.ntmps17
    go_wp2_with (first
      | (go_at_call 15; refine (hr1 _).mono ?_; rintro e w1 ⟨rfl, hb1⟩; obtain ⟨q0, q1, q2, q3, hlt, hB⟩ := boxed2 hb1))
    go_ret
    exact ⟨rfl, hB⟩
end Go.Proofs.YtjpbkonlakpkiaaDoor
