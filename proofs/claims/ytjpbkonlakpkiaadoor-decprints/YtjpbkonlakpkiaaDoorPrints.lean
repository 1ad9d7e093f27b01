/-
  The statement on printing: its walk.
  Conditions: the package variables that the library reads hold what the program's text lays.
-/
import Derived.Test.YtjpbkonlakpkiaaDoorRpr
import Derived.Test.YtjpbkonlakpkiaaDoorLive
namespace Go.Proofs.YtjpbkonlakpkiaaDoor
open Go.ChangeShapes Go.WideShapes Go.ChangeAt Go.RowKit Go.Lib Go.Sort

/-- The world in which the statement's two times lie in blocks of their own. -/
def two (w : World) (a b c d : Int) : World := (w.alloc (Obj.cells #[.int .i64 a, .int .i64 b] 27)).alloc (Obj.cells #[.int .i64 c, .int .i64 d] 27)
theorem two_laid {w : World} (h : Laid w) (a b c d : Int) : Laid (two w a b c d) := (h.below (below_alloc _ _)).below (below_alloc _ _)
theorem two_cells {w w1 : World} {a b c d : Int} (hb : Below (two w a b c d).heap.size (two w a b c d) w1) :
    w1.cell? ⟨w.heap.size, 0, none⟩ = some (.int .i64 a) ∧ w1.cell? ⟨w.heap.size, 1, none⟩ = some (.int .i64 b) ∧ w1.cell? ⟨w.heap.size + 1, 0, none⟩ = some (.int .i64 c) ∧ w1.cell? ⟨w.heap.size + 1, 1, none⟩ = some (.int .i64 d) ∧ w.heap.size + 1 < w1.heap.size ∧ Below w.heap.size w w1 := boxed2 hb

set_option maxHeartbeats 16000000 in
set_option maxRecDepth 20000 in
theorem prints_n (n a b c d : Int) (hn0 : -9223372036854775808 ≤ n) (hn1 : n ≤ 9223372036854775807) (hra : ¬ (0 ≤ b ∧ b < 1000000000)) (w : World) (hL : Laid w) :
    Calls Tryd.prog 4 #[.int .i64 n, .agg #[.int .i64 a, .int .i64 b], .agg #[.int .i64 c, .int .i64 d]] w fun e w' => e = .returned (.bool true) ∧ Below w.heap.size w w' := by
  have hLL := two_laid hL a b c d
  have hal := alive_ok (two w a b c d) hLL
  have hpr := fun w => print_no a b hra w
  have hr5 := fun w => right_ok a b w
  have hr6 := fun w => rright_ok a b w
  rw [decide_eq_false hra] at hr5 hr6
  have hr6' := hr6
  have hr6'' := hr6
  have hbf := fun w => before_ok a b c d w
  rw [show befOf a b c d = false by unfold befOf; rw [decide_eq_false hra]; rfl] at hbf
  have htx := fun w hL => text_ok n hn0 hn1 w hL
  have htr := fun w => rtext_ok n hn0 hn1 w
  generalize txt (signOf n ++ decDigits n.natAbs) = X at *
  clear hra hn0 hn1
  go_enter Tryd.func4, Tryd.ntmps4
  go_wp2_with (first
    | (go_at_call 6; refine hal.mono ?_; rintro e w1 ⟨rfl, hacc⟩; obtain ⟨q0, q1, q2, q3, hlt1, hB⟩ := two_cells hacc)
    | (go_at_call 12; refine (hpr _).mono ?_; rintro e w2 ⟨rfl, hb2⟩; replace hacc := hacc.trans (hb2.mono hacc.size); clear hb2))
  have k13 : ∀ p : After w2, Calls Tryd.prog 13 #[.int .i64 n] p.out fun e w' => e = .returned (.string X) ∧ Below p.out.heap.size p.out w' := fun p => htx _ (hLL.below (hacc.trans (p.bel.mono hacc.size)))
  have k14 : ∀ p : After w2, Calls Tryd.prog 14 #[.int .i64 n] p.out fun e w' => e = .returned (.string X) ∧ Below p.out.heap.size p.out w' := fun p => htr _
  have k15 : ∀ p : After w2, Calls Tryd.prog 15 #[.agg #[.int .i64 a, .int .i64 b]] p.out fun e w' => e = .returned (.bool false) ∧ Below p.out.heap.size p.out w' := fun p => hr5 _
  have k16 : ∀ p : After w2, Calls Tryd.prog 16 #[.agg #[.int .i64 a, .int .i64 b]] p.out fun e w' => e = .returned (.bool false) ∧ Below p.out.heap.size p.out w' := fun p => hr6 _
  have kc0 : ∀ p : After w2, p.out.cell? ⟨w.heap.size, 0, none⟩ = some (.int .i64 a) := fun p => (two_cells (hacc.trans (p.bel.mono hacc.size))).1
  have kc1 : ∀ p : After w2, p.out.cell? ⟨w.heap.size, 1, none⟩ = some (.int .i64 b) := fun p => (two_cells (hacc.trans (p.bel.mono hacc.size))).2.1
  have hne : Nonempty (After w2) := ⟨⟨w2, Below.refl _ _⟩⟩
  clear hr5 hr6 htx htr hpr hal
  refine wp_region_after (by kernel_rfl) (by kernel_rfl) ?_
  repeat (go_big_quiet_step (first | (go_at_call 13; exact after_below _ (k13 _)) | (go_at_call 14; exact after_below _ (k14 _)) | (go_at_call 15; exact after_below _ (k15 _)) | (go_at_call 16; exact after_below _ (k16 _))))
  refine wpQuiet_nil ?_
  intro wq hw'
  obtain ⟨⟨x, hwq⟩, hx⟩ := hw'
  simp only at hx
  subst hx
  replace hacc := hacc.trans (hwq.mono hacc.size)
  clear hwq k13 k14 k15 k16 kc0 kc1 hne q0 q1 q2 q3 hlt1 hB
  obtain ⟨q0, q1, q2, q3, hlt1, hB⟩ := two_cells hacc
  go_wp2_with (first
    | (go_at_call 16; refine (hr6' _).mono ?_; rintro e w4 ⟨rfl, hb4⟩; replace hacc := hacc.trans (hb4.mono hacc.size); obtain ⟨p0, p1, p2, p3, hlt4, hB4⟩ := two_cells hacc; clear hb4 hr6')
    | (go_at_call 16; refine (hr6'' _).mono ?_; rintro e w6 ⟨rfl, hb6⟩; replace hacc := hacc.trans (hb6.mono hacc.size); obtain ⟨s0, s1, s2, s3, hlt6, hB6⟩ := two_cells hacc; clear hb6 hr6'')
    | (go_at_call 17; refine (hbf _).mono ?_; rintro e w7 ⟨rfl, hb7⟩; replace hacc := hacc.trans (hb7.mono hacc.size); obtain ⟨t0, t1, t2, t3, hlt7, hB7⟩ := two_cells hacc; clear hb7 hbf))
  go_ret
  exact ⟨ret_bool (by decide +kernel), (two_cells hacc).2.2.2.2.2⟩

set_option maxHeartbeats 16000000 in
set_option maxRecDepth 20000 in
theorem prints_r (n a b c d : Int) (hn0 : -9223372036854775808 ≤ n) (hn1 : n ≤ 9223372036854775807) (ha0 : -9223372036854775808 ≤ a) (ha1 : a ≤ 9223372036854775807) (hra : (0 ≤ b ∧ b < 1000000000)) (hrc : ¬ (0 ≤ d ∧ d < 1000000000)) (w : World) (hL : Laid w) :
    Calls Tryd.prog 4 #[.int .i64 n, .agg #[.int .i64 a, .int .i64 b], .agg #[.int .i64 c, .int .i64 d]] w fun e w' => e = .returned (.bool true) ∧ Below w.heap.size w w' := by
  have hLL := two_laid hL a b c d
  have hal := alive_ok (two w a b c d) hLL
  have hpr := fun w hL => print_yes a b ha0 ha1 hra w hL
  have hrp := fun w => rprint_ok a b ha0 ha1 hra.1 hra.2 w
  have hr5 := fun w => right_ok a b w
  have hr6 := fun w => rright_ok a b w
  rw [decide_eq_true hra] at hr5 hr6
  have hr6' := hr6
  have hr6'' := hr6
  have hrC := fun w => rright_ok c d w
  rw [decide_eq_false hrc] at hrC
  have hbf := fun w => before_ok a b c d w
  rw [show befOf a b c d = false by unfold befOf; rw [decide_eq_false hrc, Bool.and_false]; rfl] at hbf
  have htx := fun w hL => text_ok n hn0 hn1 w hL
  have htr := fun w => rtext_ok n hn0 hn1 w
  generalize txt (signOf n ++ decDigits n.natAbs) = X at *
  generalize txt (printOf a b) = Y at *
  clear hra hn0 hn1 ha0 ha1 hrc
  go_enter Tryd.func4, Tryd.ntmps4
  go_wp2_with (first
    | (go_at_call 6; refine hal.mono ?_; rintro e w1 ⟨rfl, hacc⟩; obtain ⟨q0, q1, q2, q3, hlt1, hB⟩ := two_cells hacc)
    | (go_at_call 12; refine (hpr _ (hLL.below hacc)).mono ?_; rintro e w2 ⟨rfl, hb2⟩; replace hacc := hacc.trans (hb2.mono hacc.size); clear hb2))
  have k13 : ∀ p : After w2, Calls Tryd.prog 13 #[.int .i64 n] p.out fun e w' => e = .returned (.string X) ∧ Below p.out.heap.size p.out w' := fun p => htx _ (hLL.below (hacc.trans (p.bel.mono hacc.size)))
  have k14 : ∀ p : After w2, Calls Tryd.prog 14 #[.int .i64 n] p.out fun e w' => e = .returned (.string X) ∧ Below p.out.heap.size p.out w' := fun p => htr _
  have k15 : ∀ p : After w2, Calls Tryd.prog 15 #[.agg #[.int .i64 a, .int .i64 b]] p.out fun e w' => e = .returned (.bool true) ∧ Below p.out.heap.size p.out w' := fun p => hr5 _
  have k16 : ∀ p : After w2, Calls Tryd.prog 16 #[.agg #[.int .i64 a, .int .i64 b]] p.out fun e w' => e = .returned (.bool true) ∧ Below p.out.heap.size p.out w' := fun p => hr6 _
  have kc0 : ∀ p : After w2, p.out.cell? ⟨w.heap.size, 0, none⟩ = some (.int .i64 a) := fun p => (two_cells (hacc.trans (p.bel.mono hacc.size))).1
  have kc1 : ∀ p : After w2, p.out.cell? ⟨w.heap.size, 1, none⟩ = some (.int .i64 b) := fun p => (two_cells (hacc.trans (p.bel.mono hacc.size))).2.1
  have hne : Nonempty (After w2) := ⟨⟨w2, Below.refl _ _⟩⟩
  clear hr5 hr6 htx htr hpr hal
  refine wp_region_after (by kernel_rfl) (by kernel_rfl) ?_
  repeat (go_big_quiet_step (first | (go_at_call 13; exact after_below _ (k13 _)) | (go_at_call 14; exact after_below _ (k14 _)) | (go_at_call 15; exact after_below _ (k15 _)) | (go_at_call 16; exact after_below _ (k16 _))))
  refine wpQuiet_nil ?_
  intro wq hw'
  obtain ⟨⟨x, hwq⟩, hx⟩ := hw'
  simp only at hx
  subst hx
  replace hacc := hacc.trans (hwq.mono hacc.size)
  clear hwq k13 k14 k15 k16 kc0 kc1 hne q0 q1 q2 q3 hlt1 hB
  obtain ⟨q0, q1, q2, q3, hlt1, hB⟩ := two_cells hacc
  go_wp2_with (first
    | (go_at_call 16; refine (hr6' _).mono ?_; rintro e w4 ⟨rfl, hb4⟩; replace hacc := hacc.trans (hb4.mono hacc.size); obtain ⟨p0, p1, p2, p3, hlt4, hB4⟩ := two_cells hacc; clear hb4 hr6')
    | (go_at_call 16; refine (hrC _).mono ?_; rintro e w5 ⟨rfl, hb5⟩; replace hacc := hacc.trans (hb5.mono hacc.size); obtain ⟨r0, r1, r2, r3, hlt5, hB5⟩ := two_cells hacc; clear hb5 hrC)
    | (go_at_call 16; refine (hr6'' _).mono ?_; rintro e w6 ⟨rfl, hb6⟩; replace hacc := hacc.trans (hb6.mono hacc.size); obtain ⟨s0, s1, s2, s3, hlt6, hB6⟩ := two_cells hacc; clear hb6 hr6'')
    | (go_at_call 17; refine (hbf _).mono ?_; rintro e w7 ⟨rfl, hb7⟩; replace hacc := hacc.trans (hb7.mono hacc.size); obtain ⟨t0, t1, t2, t3, hlt7, hB7⟩ := two_cells hacc; clear hb7 hbf)
    | (go_at_call 18; refine (hrp _).mono ?_; rintro e w8 ⟨rfl, hb8⟩; replace hacc := hacc.trans (hb8.mono hacc.size); clear hb8 hrp))
  go_ret
  exact ⟨rfl, (two_cells hacc).2.2.2.2.2⟩

set_option maxHeartbeats 16000000 in
set_option maxRecDepth 20000 in
theorem prints_lt (n a b c d : Int) (hn0 : -9223372036854775808 ≤ n) (hn1 : n ≤ 9223372036854775807) (ha0 : -9223372036854775808 ≤ a) (ha1 : a ≤ 9223372036854775807) (hra : (0 ≤ b ∧ b < 1000000000)) (hrc : (0 ≤ d ∧ d < 1000000000)) (hlt : a < c) (w : World) (hL : Laid w) :
    Calls Tryd.prog 4 #[.int .i64 n, .agg #[.int .i64 a, .int .i64 b], .agg #[.int .i64 c, .int .i64 d]] w fun e w' => e = .returned (.bool true) ∧ Below w.heap.size w w' := by
  have hLL := two_laid hL a b c d
  have hal := alive_ok (two w a b c d) hLL
  have hpr := fun w hL => print_yes a b ha0 ha1 hra w hL
  have hrp := fun w => rprint_ok a b ha0 ha1 hra.1 hra.2 w
  have hr5 := fun w => right_ok a b w
  have hr6 := fun w => rright_ok a b w
  rw [decide_eq_true hra] at hr5 hr6
  have hr6' := hr6
  have hr6'' := hr6
  have hrC := fun w => rright_ok c d w
  rw [decide_eq_true hrc] at hrC
  have hbf := fun w => before_ok a b c d w
  rw [show befOf a b c d = true by unfold befOf; rw [decide_eq_true hra, decide_eq_true hrc, decide_eq_true hlt]; rfl] at hbf
  have htx := fun w hL => text_ok n hn0 hn1 w hL
  have htr := fun w => rtext_ok n hn0 hn1 w
  generalize txt (signOf n ++ decDigits n.natAbs) = X at *
  generalize txt (printOf a b) = Y at *
  clear hra hn0 hn1 ha0 ha1 hrc
  go_enter Tryd.func4, Tryd.ntmps4
  go_wp2_with (first
    | (go_at_call 6; refine hal.mono ?_; rintro e w1 ⟨rfl, hacc⟩; obtain ⟨q0, q1, q2, q3, hlt1, hB⟩ := two_cells hacc)
    | (go_at_call 12; refine (hpr _ (hLL.below hacc)).mono ?_; rintro e w2 ⟨rfl, hb2⟩; replace hacc := hacc.trans (hb2.mono hacc.size); clear hb2))
  have k13 : ∀ p : After w2, Calls Tryd.prog 13 #[.int .i64 n] p.out fun e w' => e = .returned (.string X) ∧ Below p.out.heap.size p.out w' := fun p => htx _ (hLL.below (hacc.trans (p.bel.mono hacc.size)))
  have k14 : ∀ p : After w2, Calls Tryd.prog 14 #[.int .i64 n] p.out fun e w' => e = .returned (.string X) ∧ Below p.out.heap.size p.out w' := fun p => htr _
  have k15 : ∀ p : After w2, Calls Tryd.prog 15 #[.agg #[.int .i64 a, .int .i64 b]] p.out fun e w' => e = .returned (.bool true) ∧ Below p.out.heap.size p.out w' := fun p => hr5 _
  have k16 : ∀ p : After w2, Calls Tryd.prog 16 #[.agg #[.int .i64 a, .int .i64 b]] p.out fun e w' => e = .returned (.bool true) ∧ Below p.out.heap.size p.out w' := fun p => hr6 _
  have kc0 : ∀ p : After w2, p.out.cell? ⟨w.heap.size, 0, none⟩ = some (.int .i64 a) := fun p => (two_cells (hacc.trans (p.bel.mono hacc.size))).1
  have kc1 : ∀ p : After w2, p.out.cell? ⟨w.heap.size, 1, none⟩ = some (.int .i64 b) := fun p => (two_cells (hacc.trans (p.bel.mono hacc.size))).2.1
  have hne : Nonempty (After w2) := ⟨⟨w2, Below.refl _ _⟩⟩
  clear hr5 hr6 htx htr hpr hal
  refine wp_region_after (by kernel_rfl) (by kernel_rfl) ?_
  repeat (go_big_quiet_step (first | (go_at_call 13; exact after_below _ (k13 _)) | (go_at_call 14; exact after_below _ (k14 _)) | (go_at_call 15; exact after_below _ (k15 _)) | (go_at_call 16; exact after_below _ (k16 _))))
  refine wpQuiet_nil ?_
  intro wq hw'
  obtain ⟨⟨x, hwq⟩, hx⟩ := hw'
  simp only at hx
  subst hx
  replace hacc := hacc.trans (hwq.mono hacc.size)
  clear hwq k13 k14 k15 k16 kc0 kc1 hne q0 q1 q2 q3 hlt1 hB
  obtain ⟨q0, q1, q2, q3, hlt1, hB⟩ := two_cells hacc
  go_wp2_with (first
    | (go_at_call 16; refine (hr6' _).mono ?_; rintro e w4 ⟨rfl, hb4⟩; replace hacc := hacc.trans (hb4.mono hacc.size); obtain ⟨p0, p1, p2, p3, hlt4, hB4⟩ := two_cells hacc; clear hb4 hr6')
    | (go_at_call 16; refine (hrC _).mono ?_; rintro e w5 ⟨rfl, hb5⟩; replace hacc := hacc.trans (hb5.mono hacc.size); obtain ⟨r0, r1, r2, r3, hlt5, hB5⟩ := two_cells hacc; clear hb5 hrC)
    | (go_at_call 16; refine (hr6'' _).mono ?_; rintro e w6 ⟨rfl, hb6⟩; replace hacc := hacc.trans (hb6.mono hacc.size); obtain ⟨s0, s1, s2, s3, hlt6, hB6⟩ := two_cells hacc; clear hb6 hr6'')
    | (go_at_call 17; refine (hbf _).mono ?_; rintro e w7 ⟨rfl, hb7⟩; replace hacc := hacc.trans (hb7.mono hacc.size); obtain ⟨t0, t1, t2, t3, hlt7, hB7⟩ := two_cells hacc; clear hb7 hbf)
    | (go_at_call 18; refine (hrp _).mono ?_; rintro e w8 ⟨rfl, hb8⟩; replace hacc := hacc.trans (hb8.mono hacc.size); clear hb8 hrp))
  go_ret
  exact ⟨rfl, (two_cells hacc).2.2.2.2.2⟩

set_option maxHeartbeats 16000000 in
set_option maxRecDepth 20000 in
theorem prints_ne (n a b c d : Int) (hn0 : -9223372036854775808 ≤ n) (hn1 : n ≤ 9223372036854775807) (ha0 : -9223372036854775808 ≤ a) (ha1 : a ≤ 9223372036854775807) (hra : (0 ≤ b ∧ b < 1000000000)) (hrc : (0 ≤ d ∧ d < 1000000000)) (hlt : ¬ a < c) (heq : ¬ a = c) (w : World) (hL : Laid w) :
    Calls Tryd.prog 4 #[.int .i64 n, .agg #[.int .i64 a, .int .i64 b], .agg #[.int .i64 c, .int .i64 d]] w fun e w' => e = .returned (.bool true) ∧ Below w.heap.size w w' := by
  have hLL := two_laid hL a b c d
  have hal := alive_ok (two w a b c d) hLL
  have hpr := fun w hL => print_yes a b ha0 ha1 hra w hL
  have hrp := fun w => rprint_ok a b ha0 ha1 hra.1 hra.2 w
  have hr5 := fun w => right_ok a b w
  have hr6 := fun w => rright_ok a b w
  rw [decide_eq_true hra] at hr5 hr6
  have hr6' := hr6
  have hr6'' := hr6
  have hrC := fun w => rright_ok c d w
  rw [decide_eq_true hrc] at hrC
  have hbf := fun w => before_ok a b c d w
  rw [show befOf a b c d = false by unfold befOf; rw [decide_eq_true hra, decide_eq_true hrc, decide_eq_false hlt, decide_eq_false heq]; rfl] at hbf
  have htx := fun w hL => text_ok n hn0 hn1 w hL
  have htr := fun w => rtext_ok n hn0 hn1 w
  generalize txt (signOf n ++ decDigits n.natAbs) = X at *
  generalize txt (printOf a b) = Y at *
  clear hra hn0 hn1 ha0 ha1 hrc
  go_enter Tryd.func4, Tryd.ntmps4
  go_wp2_with (first
    | (go_at_call 6; refine hal.mono ?_; rintro e w1 ⟨rfl, hacc⟩; obtain ⟨q0, q1, q2, q3, hlt1, hB⟩ := two_cells hacc)
    | (go_at_call 12; refine (hpr _ (hLL.below hacc)).mono ?_; rintro e w2 ⟨rfl, hb2⟩; replace hacc := hacc.trans (hb2.mono hacc.size); clear hb2))
  have k13 : ∀ p : After w2, Calls Tryd.prog 13 #[.int .i64 n] p.out fun e w' => e = .returned (.string X) ∧ Below p.out.heap.size p.out w' := fun p => htx _ (hLL.below (hacc.trans (p.bel.mono hacc.size)))
  have k14 : ∀ p : After w2, Calls Tryd.prog 14 #[.int .i64 n] p.out fun e w' => e = .returned (.string X) ∧ Below p.out.heap.size p.out w' := fun p => htr _
  have k15 : ∀ p : After w2, Calls Tryd.prog 15 #[.agg #[.int .i64 a, .int .i64 b]] p.out fun e w' => e = .returned (.bool true) ∧ Below p.out.heap.size p.out w' := fun p => hr5 _
  have k16 : ∀ p : After w2, Calls Tryd.prog 16 #[.agg #[.int .i64 a, .int .i64 b]] p.out fun e w' => e = .returned (.bool true) ∧ Below p.out.heap.size p.out w' := fun p => hr6 _
  have kc0 : ∀ p : After w2, p.out.cell? ⟨w.heap.size, 0, none⟩ = some (.int .i64 a) := fun p => (two_cells (hacc.trans (p.bel.mono hacc.size))).1
  have kc1 : ∀ p : After w2, p.out.cell? ⟨w.heap.size, 1, none⟩ = some (.int .i64 b) := fun p => (two_cells (hacc.trans (p.bel.mono hacc.size))).2.1
  have hne : Nonempty (After w2) := ⟨⟨w2, Below.refl _ _⟩⟩
  clear hr5 hr6 htx htr hpr hal
  refine wp_region_after (by kernel_rfl) (by kernel_rfl) ?_
  repeat (go_big_quiet_step (first | (go_at_call 13; exact after_below _ (k13 _)) | (go_at_call 14; exact after_below _ (k14 _)) | (go_at_call 15; exact after_below _ (k15 _)) | (go_at_call 16; exact after_below _ (k16 _))))
  refine wpQuiet_nil ?_
  intro wq hw'
  obtain ⟨⟨x, hwq⟩, hx⟩ := hw'
  simp only at hx
  subst hx
  replace hacc := hacc.trans (hwq.mono hacc.size)
  clear hwq k13 k14 k15 k16 kc0 kc1 hne q0 q1 q2 q3 hlt1 hB
  obtain ⟨q0, q1, q2, q3, hlt1, hB⟩ := two_cells hacc
  go_wp2_with (first
    | (go_at_call 16; refine (hr6' _).mono ?_; rintro e w4 ⟨rfl, hb4⟩; replace hacc := hacc.trans (hb4.mono hacc.size); obtain ⟨p0, p1, p2, p3, hlt4, hB4⟩ := two_cells hacc; clear hb4 hr6')
    | (go_at_call 16; refine (hrC _).mono ?_; rintro e w5 ⟨rfl, hb5⟩; replace hacc := hacc.trans (hb5.mono hacc.size); obtain ⟨r0, r1, r2, r3, hlt5, hB5⟩ := two_cells hacc; clear hb5 hrC)
    | (go_at_call 16; refine (hr6'' _).mono ?_; rintro e w6 ⟨rfl, hb6⟩; replace hacc := hacc.trans (hb6.mono hacc.size); obtain ⟨s0, s1, s2, s3, hlt6, hB6⟩ := two_cells hacc; clear hb6 hr6'')
    | (go_at_call 17; refine (hbf _).mono ?_; rintro e w7 ⟨rfl, hb7⟩; replace hacc := hacc.trans (hb7.mono hacc.size); obtain ⟨t0, t1, t2, t3, hlt7, hB7⟩ := two_cells hacc; clear hb7 hbf)
    | (go_at_call 18; refine (hrp _).mono ?_; rintro e w8 ⟨rfl, hb8⟩; replace hacc := hacc.trans (hb8.mono hacc.size); clear hb8 hrp))
  go_ret
  exact ⟨rfl, (two_cells hacc).2.2.2.2.2⟩

set_option maxHeartbeats 16000000 in
set_option maxRecDepth 20000 in
theorem prints_bd (n a b c d : Int) (hn0 : -9223372036854775808 ≤ n) (hn1 : n ≤ 9223372036854775807) (ha0 : -9223372036854775808 ≤ a) (ha1 : a ≤ 9223372036854775807) (hra : (0 ≤ b ∧ b < 1000000000)) (hrc : (0 ≤ d ∧ d < 1000000000)) (hlt : ¬ a < c) (heq : a = c) (hbd : b < d) (w : World) (hL : Laid w) :
    Calls Tryd.prog 4 #[.int .i64 n, .agg #[.int .i64 a, .int .i64 b], .agg #[.int .i64 c, .int .i64 d]] w fun e w' => e = .returned (.bool true) ∧ Below w.heap.size w w' := by
  have hLL := two_laid hL a b c d
  have hal := alive_ok (two w a b c d) hLL
  have hpr := fun w hL => print_yes a b ha0 ha1 hra w hL
  have hrp := fun w => rprint_ok a b ha0 ha1 hra.1 hra.2 w
  have hr5 := fun w => right_ok a b w
  have hr6 := fun w => rright_ok a b w
  rw [decide_eq_true hra] at hr5 hr6
  have hr6' := hr6
  have hr6'' := hr6
  have hrC := fun w => rright_ok c d w
  rw [decide_eq_true hrc] at hrC
  have hbf := fun w => before_ok a b c d w
  rw [show befOf a b c d = true by unfold befOf; rw [decide_eq_true hra, decide_eq_true hrc, decide_eq_false hlt, decide_eq_true heq, decide_eq_true hbd]; rfl] at hbf
  have htx := fun w hL => text_ok n hn0 hn1 w hL
  have htr := fun w => rtext_ok n hn0 hn1 w
  generalize txt (signOf n ++ decDigits n.natAbs) = X at *
  generalize txt (printOf a b) = Y at *
  clear hra hn0 hn1 ha0 ha1 hrc
  subst heq
  go_enter Tryd.func4, Tryd.ntmps4
  go_wp2_with (first
    | (go_at_call 6; refine hal.mono ?_; rintro e w1 ⟨rfl, hacc⟩; obtain ⟨q0, q1, q2, q3, hlt1, hB⟩ := two_cells hacc)
    | (go_at_call 12; refine (hpr _ (hLL.below hacc)).mono ?_; rintro e w2 ⟨rfl, hb2⟩; replace hacc := hacc.trans (hb2.mono hacc.size); clear hb2))
  have k13 : ∀ p : After w2, Calls Tryd.prog 13 #[.int .i64 n] p.out fun e w' => e = .returned (.string X) ∧ Below p.out.heap.size p.out w' := fun p => htx _ (hLL.below (hacc.trans (p.bel.mono hacc.size)))
  have k14 : ∀ p : After w2, Calls Tryd.prog 14 #[.int .i64 n] p.out fun e w' => e = .returned (.string X) ∧ Below p.out.heap.size p.out w' := fun p => htr _
  have k15 : ∀ p : After w2, Calls Tryd.prog 15 #[.agg #[.int .i64 a, .int .i64 b]] p.out fun e w' => e = .returned (.bool true) ∧ Below p.out.heap.size p.out w' := fun p => hr5 _
  have k16 : ∀ p : After w2, Calls Tryd.prog 16 #[.agg #[.int .i64 a, .int .i64 b]] p.out fun e w' => e = .returned (.bool true) ∧ Below p.out.heap.size p.out w' := fun p => hr6 _
  have kc0 : ∀ p : After w2, p.out.cell? ⟨w.heap.size, 0, none⟩ = some (.int .i64 a) := fun p => (two_cells (hacc.trans (p.bel.mono hacc.size))).1
  have kc1 : ∀ p : After w2, p.out.cell? ⟨w.heap.size, 1, none⟩ = some (.int .i64 b) := fun p => (two_cells (hacc.trans (p.bel.mono hacc.size))).2.1
  have hne : Nonempty (After w2) := ⟨⟨w2, Below.refl _ _⟩⟩
  clear hr5 hr6 htx htr hpr hal
  refine wp_region_after (by kernel_rfl) (by kernel_rfl) ?_
  repeat (go_big_quiet_step (first | (go_at_call 13; exact after_below _ (k13 _)) | (go_at_call 14; exact after_below _ (k14 _)) | (go_at_call 15; exact after_below _ (k15 _)) | (go_at_call 16; exact after_below _ (k16 _))))
  refine wpQuiet_nil ?_
  intro wq hw'
  obtain ⟨⟨x, hwq⟩, hx⟩ := hw'
  simp only at hx
  subst hx
  replace hacc := hacc.trans (hwq.mono hacc.size)
  clear hwq k13 k14 k15 k16 kc0 kc1 hne q0 q1 q2 q3 hlt1 hB
  obtain ⟨q0, q1, q2, q3, hlt1, hB⟩ := two_cells hacc
  go_wp2_with (first
    | (go_at_call 16; refine (hr6' _).mono ?_; rintro e w4 ⟨rfl, hb4⟩; replace hacc := hacc.trans (hb4.mono hacc.size); obtain ⟨p0, p1, p2, p3, hlt4, hB4⟩ := two_cells hacc; clear hb4 hr6')
    | (go_at_call 16; refine (hrC _).mono ?_; rintro e w5 ⟨rfl, hb5⟩; replace hacc := hacc.trans (hb5.mono hacc.size); obtain ⟨r0, r1, r2, r3, hlt5, hB5⟩ := two_cells hacc; clear hb5 hrC)
    | (go_at_call 16; refine (hr6'' _).mono ?_; rintro e w6 ⟨rfl, hb6⟩; replace hacc := hacc.trans (hb6.mono hacc.size); obtain ⟨s0, s1, s2, s3, hlt6, hB6⟩ := two_cells hacc; clear hb6 hr6'')
    | (go_at_call 17; refine (hbf _).mono ?_; rintro e w7 ⟨rfl, hb7⟩; replace hacc := hacc.trans (hb7.mono hacc.size); obtain ⟨t0, t1, t2, t3, hlt7, hB7⟩ := two_cells hacc; clear hb7 hbf)
    | (go_at_call 18; refine (hrp _).mono ?_; rintro e w8 ⟨rfl, hb8⟩; replace hacc := hacc.trans (hb8.mono hacc.size); clear hb8 hrp))
  go_ret
  exact ⟨rfl, (two_cells hacc).2.2.2.2.2⟩

set_option maxHeartbeats 16000000 in
set_option maxRecDepth 20000 in
theorem prints_no (n a b c d : Int) (hn0 : -9223372036854775808 ≤ n) (hn1 : n ≤ 9223372036854775807) (ha0 : -9223372036854775808 ≤ a) (ha1 : a ≤ 9223372036854775807) (hra : (0 ≤ b ∧ b < 1000000000)) (hrc : (0 ≤ d ∧ d < 1000000000)) (hlt : ¬ a < c) (heq : a = c) (hbd : ¬ b < d) (w : World) (hL : Laid w) :
    Calls Tryd.prog 4 #[.int .i64 n, .agg #[.int .i64 a, .int .i64 b], .agg #[.int .i64 c, .int .i64 d]] w fun e w' => e = .returned (.bool true) ∧ Below w.heap.size w w' := by
  have hLL := two_laid hL a b c d
  have hal := alive_ok (two w a b c d) hLL
  have hpr := fun w hL => print_yes a b ha0 ha1 hra w hL
  have hrp := fun w => rprint_ok a b ha0 ha1 hra.1 hra.2 w
  have hr5 := fun w => right_ok a b w
  have hr6 := fun w => rright_ok a b w
  rw [decide_eq_true hra] at hr5 hr6
  have hr6' := hr6
  have hr6'' := hr6
  have hrC := fun w => rright_ok c d w
  rw [decide_eq_true hrc] at hrC
  have hbf := fun w => before_ok a b c d w
  rw [show befOf a b c d = false by unfold befOf; rw [decide_eq_true hra, decide_eq_true hrc, decide_eq_false hlt, decide_eq_true heq, decide_eq_false hbd]; rfl] at hbf
  have htx := fun w hL => text_ok n hn0 hn1 w hL
  have htr := fun w => rtext_ok n hn0 hn1 w
  generalize txt (signOf n ++ decDigits n.natAbs) = X at *
  generalize txt (printOf a b) = Y at *
  clear hra hn0 hn1 ha0 ha1 hrc
  subst heq
  go_enter Tryd.func4, Tryd.ntmps4
  go_wp2_with (first
    | (go_at_call 6; refine hal.mono ?_; rintro e w1 ⟨rfl, hacc⟩; obtain ⟨q0, q1, q2, q3, hlt1, hB⟩ := two_cells hacc)
    | (go_at_call 12; refine (hpr _ (hLL.below hacc)).mono ?_; rintro e w2 ⟨rfl, hb2⟩; replace hacc := hacc.trans (hb2.mono hacc.size); clear hb2))
  have k13 : ∀ p : After w2, Calls Tryd.prog 13 #[.int .i64 n] p.out fun e w' => e = .returned (.string X) ∧ Below p.out.heap.size p.out w' := fun p => htx _ (hLL.below (hacc.trans (p.bel.mono hacc.size)))
  have k14 : ∀ p : After w2, Calls Tryd.prog 14 #[.int .i64 n] p.out fun e w' => e = .returned (.string X) ∧ Below p.out.heap.size p.out w' := fun p => htr _
  have k15 : ∀ p : After w2, Calls Tryd.prog 15 #[.agg #[.int .i64 a, .int .i64 b]] p.out fun e w' => e = .returned (.bool true) ∧ Below p.out.heap.size p.out w' := fun p => hr5 _
  have k16 : ∀ p : After w2, Calls Tryd.prog 16 #[.agg #[.int .i64 a, .int .i64 b]] p.out fun e w' => e = .returned (.bool true) ∧ Below p.out.heap.size p.out w' := fun p => hr6 _
  have kc0 : ∀ p : After w2, p.out.cell? ⟨w.heap.size, 0, none⟩ = some (.int .i64 a) := fun p => (two_cells (hacc.trans (p.bel.mono hacc.size))).1
  have kc1 : ∀ p : After w2, p.out.cell? ⟨w.heap.size, 1, none⟩ = some (.int .i64 b) := fun p => (two_cells (hacc.trans (p.bel.mono hacc.size))).2.1
  have hne : Nonempty (After w2) := ⟨⟨w2, Below.refl _ _⟩⟩
  clear hr5 hr6 htx htr hpr hal
  refine wp_region_after (by kernel_rfl) (by kernel_rfl) ?_
  repeat (go_big_quiet_step (first | (go_at_call 13; exact after_below _ (k13 _)) | (go_at_call 14; exact after_below _ (k14 _)) | (go_at_call 15; exact after_below _ (k15 _)) | (go_at_call 16; exact after_below _ (k16 _))))
  refine wpQuiet_nil ?_
  intro wq hw'
  obtain ⟨⟨x, hwq⟩, hx⟩ := hw'
  simp only at hx
  subst hx
  replace hacc := hacc.trans (hwq.mono hacc.size)
  clear hwq k13 k14 k15 k16 kc0 kc1 hne q0 q1 q2 q3 hlt1 hB
  obtain ⟨q0, q1, q2, q3, hlt1, hB⟩ := two_cells hacc
  go_wp2_with (first
    | (go_at_call 16; refine (hr6' _).mono ?_; rintro e w4 ⟨rfl, hb4⟩; replace hacc := hacc.trans (hb4.mono hacc.size); obtain ⟨p0, p1, p2, p3, hlt4, hB4⟩ := two_cells hacc; clear hb4 hr6')
    | (go_at_call 16; refine (hrC _).mono ?_; rintro e w5 ⟨rfl, hb5⟩; replace hacc := hacc.trans (hb5.mono hacc.size); obtain ⟨r0, r1, r2, r3, hlt5, hB5⟩ := two_cells hacc; clear hb5 hrC)
    | (go_at_call 16; refine (hr6'' _).mono ?_; rintro e w6 ⟨rfl, hb6⟩; replace hacc := hacc.trans (hb6.mono hacc.size); obtain ⟨s0, s1, s2, s3, hlt6, hB6⟩ := two_cells hacc; clear hb6 hr6'')
    | (go_at_call 17; refine (hbf _).mono ?_; rintro e w7 ⟨rfl, hb7⟩; replace hacc := hacc.trans (hb7.mono hacc.size); obtain ⟨t0, t1, t2, t3, hlt7, hB7⟩ := two_cells hacc; clear hb7 hbf)
    | (go_at_call 18; refine (hrp _).mono ?_; rintro e w8 ⟨rfl, hb8⟩; replace hacc := hacc.trans (hb8.mono hacc.size); clear hb8 hrp))
  go_ret
  exact ⟨rfl, (two_cells hacc).2.2.2.2.2⟩

/-- The statement's walk. -/
theorem prints_walk (n a b c d : Int) (hn0 : -9223372036854775808 ≤ n) (hn1 : n ≤ 9223372036854775807) (ha0 : -9223372036854775808 ≤ a) (ha1 : a ≤ 9223372036854775807) (w : World) (hL : Laid w) :
    Calls Tryd.prog 4 #[.int .i64 n, .agg #[.int .i64 a, .int .i64 b], .agg #[.int .i64 c, .int .i64 d]] w fun e w' => e = .returned (.bool true) ∧ Below w.heap.size w w' := by
  by_cases hra : 0 ≤ b ∧ b < 1000000000
  · by_cases hrc : 0 ≤ d ∧ d < 1000000000
    · by_cases hlt : a < c
      · exact prints_lt n a b c d hn0 hn1 ha0 ha1 hra hrc hlt w hL
      · by_cases heq : a = c
        · by_cases hbd : b < d
          · exact prints_bd n a b c d hn0 hn1 ha0 ha1 hra hrc hlt heq hbd w hL
          · exact prints_no n a b c d hn0 hn1 ha0 ha1 hra hrc hlt heq hbd w hL
        · exact prints_ne n a b c d hn0 hn1 ha0 ha1 hra hrc hlt heq w hL
    · exact prints_r n a b c d hn0 hn1 ha0 ha1 hra hrc w hL
  · exact prints_n n a b c d hn0 hn1 hra w hL
end Go.Proofs.YtjpbkonlakpkiaaDoor

