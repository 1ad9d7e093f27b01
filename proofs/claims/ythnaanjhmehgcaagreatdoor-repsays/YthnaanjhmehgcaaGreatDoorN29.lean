/-
  THE DOCUMENT's FIELDS, BUT THE RECORDS. Conditions: how long the texts may be.
-/
import Derived.Test.YthnaanjhmehgcaaGreatDoorN28
namespace Go.Proofs.YthnaanjhmehgcaaGreatDoor
open Go.ChangeShapes Go.WideShapes Go.ChangeAt Go.RowKit Go.Lib
set_option linter.unusedVariables false
set_option linter.unusedSimpArgs false
set_option maxRecDepth 20000

set_option maxHeartbeats 8000000 in
theorem rcan_1 (d : Int) (h : Hd) (a : Option Addr) (n c : Nat) (h1 : h.name.size ≤ 900000) (h2 : h.link.size ≤ 900000) (h3 : h.user.size ≤ 900000) (h4 : h.group.size ≤ 900000) (w : World) :
    Calls Tryz.prog 13 #[.int .i64 d, .agg (h.cs (.slice a n c)), .int .i64 1] w fun e w' => e = .returned (.bool (rcanN d h n 1)) ∧ Below w.heap.size w w' := by
  have hac := below_alloc w (.cells (h.cs (.slice a n c)) 26)
  have hB : Blk (w.alloc (.cells (h.cs (.slice a n c)) 26)) w.heap.size (h.cs (.slice a n c)) 26 := heap_alloc_new _ _
  by_cases hd : d = 3
  · subst hd
    have E0 : rcanN 3 h n 1 = (plainN 2 h n 1) := rfl
    rw [E0]
    clear E0
    have hp := fun w => plain_ok 2 h a n c 1 (by omega) h1 w
    generalize plainN 2 h n 1 = q at *
    unfold Hd.cs at hac hB hp ⊢
    go_enter Tryz.func13, Tryz.ntmps13
    go_wp2_with (first
      | (go_at_call 32; refine (hp _).mono ?_; rintro e w1 ⟨rfl, hb1⟩; replace hac := hac.trans (hb1.mono hac.size)))
    go_ret
    exact ⟨rfl, hac⟩
  · have E0 : rcanN d h n 1 = plainN d h n 1 := by unfold rcanN; rw [if_pos hd]
    rw [E0]
    have e3 : (d != 3) = true := by simpa using hd
    have hp := fun w => plain_ok d h a n c 1 (by omega) h1 w
    generalize plainN d h n 1 = q at *
    clear hd E0
    unfold Hd.cs at hac hB hp ⊢
    go_enter Tryz.func13, Tryz.ntmps13
    go_wp2_with (first
      | (go_at_call 32; refine (hp _).mono ?_; rintro e w1 ⟨rfl, hb1⟩; replace hac := hac.trans (hb1.mono hac.size)))
    go_ret
    exact ⟨rfl, hac⟩

set_option maxHeartbeats 8000000 in
theorem rcan_2 (d : Int) (h : Hd) (a : Option Addr) (n c : Nat) (h1 : h.name.size ≤ 900000) (h2 : h.link.size ≤ 900000) (h3 : h.user.size ≤ 900000) (h4 : h.group.size ≤ 900000) (w : World) :
    Calls Tryz.prog 13 #[.int .i64 d, .agg (h.cs (.slice a n c)), .int .i64 2] w fun e w' => e = .returned (.bool (rcanN d h n 2)) ∧ Below w.heap.size w w' := by
  have hac := below_alloc w (.cells (h.cs (.slice a n c)) 26)
  have hB : Blk (w.alloc (.cells (h.cs (.slice a n c)) 26)) w.heap.size (h.cs (.slice a n c)) 26 := heap_alloc_new _ _
  by_cases hd : d = 3
  · subst hd
    have E0 : rcanN 3 h n 2 = (plainN 2 h n 2 || utfB h.name) := rfl
    rw [E0]
    clear E0
    have hp := fun w => plain_ok 2 h a n c 2 (by omega) h1 w
    have hu := fun w => rutf_ok h.name (by omega) w
    generalize utfB h.name = u at *
    cases hq : plainN 2 h n 2
    · rw [hq] at hp
      clear hq
      unfold Hd.cs at hac hB hp ⊢
      go_enter Tryz.func13, Tryz.ntmps13
      go_wp2_with (first
        | (go_at_call 32; refine (hp _).mono ?_; rintro e w1 ⟨rfl, hb1⟩; (have cx : w1.cell? ⟨w.heap.size, 1, none⟩ = some (.string h.name) := (hB.below hb1).cell 1); replace hac := hac.trans (hb1.mono hac.size))
        | (go_at_call 33; refine (hu _).mono ?_; rintro e w2 ⟨rfl, hb2⟩))
      go_ret
      exact ⟨ret_bool (by simp), hac.trans (hb2.mono hac.size)⟩
    · rw [hq] at hp
      clear hq
      unfold Hd.cs at hac hB hp ⊢
      go_enter Tryz.func13, Tryz.ntmps13
      go_wp2_with (first
        | (go_at_call 32; refine (hp _).mono ?_; rintro e w1 ⟨rfl, hb1⟩; replace hac := hac.trans (hb1.mono hac.size)))
      go_ret
      exact ⟨ret_bool (by simp), hac⟩
  · have E0 : rcanN d h n 2 = plainN d h n 2 := by unfold rcanN; rw [if_pos hd]
    rw [E0]
    have e3 : (d != 3) = true := by simpa using hd
    have hp := fun w => plain_ok d h a n c 2 (by omega) h1 w
    generalize plainN d h n 2 = q at *
    clear hd E0
    unfold Hd.cs at hac hB hp ⊢
    go_enter Tryz.func13, Tryz.ntmps13
    go_wp2_with (first
      | (go_at_call 32; refine (hp _).mono ?_; rintro e w1 ⟨rfl, hb1⟩; replace hac := hac.trans (hb1.mono hac.size)))
    go_ret
    exact ⟨rfl, hac⟩

set_option maxHeartbeats 8000000 in
theorem rcan_3 (d : Int) (h : Hd) (a : Option Addr) (n c : Nat) (h1 : h.name.size ≤ 900000) (h2 : h.link.size ≤ 900000) (h3 : h.user.size ≤ 900000) (h4 : h.group.size ≤ 900000) (w : World) :
    Calls Tryz.prog 13 #[.int .i64 d, .agg (h.cs (.slice a n c)), .int .i64 3] w fun e w' => e = .returned (.bool (rcanN d h n 3)) ∧ Below w.heap.size w w' := by
  have hac := below_alloc w (.cells (h.cs (.slice a n c)) 26)
  have hB : Blk (w.alloc (.cells (h.cs (.slice a n c)) 26)) w.heap.size (h.cs (.slice a n c)) 26 := heap_alloc_new _ _
  by_cases hd : d = 3
  · subst hd
    have E0 : rcanN 3 h n 3 = (plainN 2 h n 3 || utfB h.link) := rfl
    rw [E0]
    clear E0
    have hp := fun w => plain_ok 2 h a n c 3 (by omega) h1 w
    have hu := fun w => rutf_ok h.link (by omega) w
    generalize utfB h.link = u at *
    cases hq : plainN 2 h n 3
    · rw [hq] at hp
      clear hq
      unfold Hd.cs at hac hB hp ⊢
      go_enter Tryz.func13, Tryz.ntmps13
      go_wp2_with (first
        | (go_at_call 32; refine (hp _).mono ?_; rintro e w1 ⟨rfl, hb1⟩; (have cx : w1.cell? ⟨w.heap.size, 2, none⟩ = some (.string h.link) := (hB.below hb1).cell 2); replace hac := hac.trans (hb1.mono hac.size))
        | (go_at_call 33; refine (hu _).mono ?_; rintro e w2 ⟨rfl, hb2⟩))
      go_ret
      exact ⟨ret_bool (by simp), hac.trans (hb2.mono hac.size)⟩
    · rw [hq] at hp
      clear hq
      unfold Hd.cs at hac hB hp ⊢
      go_enter Tryz.func13, Tryz.ntmps13
      go_wp2_with (first
        | (go_at_call 32; refine (hp _).mono ?_; rintro e w1 ⟨rfl, hb1⟩; replace hac := hac.trans (hb1.mono hac.size)))
      go_ret
      exact ⟨ret_bool (by simp), hac⟩
  · have E0 : rcanN d h n 3 = plainN d h n 3 := by unfold rcanN; rw [if_pos hd]
    rw [E0]
    have e3 : (d != 3) = true := by simpa using hd
    have hp := fun w => plain_ok d h a n c 3 (by omega) h1 w
    generalize plainN d h n 3 = q at *
    clear hd E0
    unfold Hd.cs at hac hB hp ⊢
    go_enter Tryz.func13, Tryz.ntmps13
    go_wp2_with (first
      | (go_at_call 32; refine (hp _).mono ?_; rintro e w1 ⟨rfl, hb1⟩; replace hac := hac.trans (hb1.mono hac.size)))
    go_ret
    exact ⟨rfl, hac⟩

set_option maxHeartbeats 8000000 in
theorem rcan_4 (d : Int) (h : Hd) (a : Option Addr) (n c : Nat) (h1 : h.name.size ≤ 900000) (h2 : h.link.size ≤ 900000) (h3 : h.user.size ≤ 900000) (h4 : h.group.size ≤ 900000) (w : World) :
    Calls Tryz.prog 13 #[.int .i64 d, .agg (h.cs (.slice a n c)), .int .i64 4] w fun e w' => e = .returned (.bool (rcanN d h n 4)) ∧ Below w.heap.size w w' := by
  have hac := below_alloc w (.cells (h.cs (.slice a n c)) 26)
  have hB : Blk (w.alloc (.cells (h.cs (.slice a n c)) 26)) w.heap.size (h.cs (.slice a n c)) 26 := heap_alloc_new _ _
  by_cases hd : d = 3
  · subst hd
    have E0 : rcanN 3 h n 4 = (plainN 2 h n 4) := rfl
    rw [E0]
    clear E0
    have hp := fun w => plain_ok 2 h a n c 4 (by omega) h1 w
    generalize plainN 2 h n 4 = q at *
    unfold Hd.cs at hac hB hp ⊢
    go_enter Tryz.func13, Tryz.ntmps13
    go_wp2_with (first
      | (go_at_call 32; refine (hp _).mono ?_; rintro e w1 ⟨rfl, hb1⟩; replace hac := hac.trans (hb1.mono hac.size)))
    go_ret
    exact ⟨rfl, hac⟩
  · have E0 : rcanN d h n 4 = plainN d h n 4 := by unfold rcanN; rw [if_pos hd]
    rw [E0]
    have e3 : (d != 3) = true := by simpa using hd
    have hp := fun w => plain_ok d h a n c 4 (by omega) h1 w
    generalize plainN d h n 4 = q at *
    clear hd E0
    unfold Hd.cs at hac hB hp ⊢
    go_enter Tryz.func13, Tryz.ntmps13
    go_wp2_with (first
      | (go_at_call 32; refine (hp _).mono ?_; rintro e w1 ⟨rfl, hb1⟩; replace hac := hac.trans (hb1.mono hac.size)))
    go_ret
    exact ⟨rfl, hac⟩

set_option maxHeartbeats 8000000 in
theorem rcan_5 (d : Int) (h : Hd) (a : Option Addr) (n c : Nat) (h1 : h.name.size ≤ 900000) (h2 : h.link.size ≤ 900000) (h3 : h.user.size ≤ 900000) (h4 : h.group.size ≤ 900000) (w : World) :
    Calls Tryz.prog 13 #[.int .i64 d, .agg (h.cs (.slice a n c)), .int .i64 5] w fun e w' => e = .returned (.bool (rcanN d h n 5)) ∧ Below w.heap.size w w' := by
  have hac := below_alloc w (.cells (h.cs (.slice a n c)) 26)
  have hB : Blk (w.alloc (.cells (h.cs (.slice a n c)) 26)) w.heap.size (h.cs (.slice a n c)) 26 := heap_alloc_new _ _
  by_cases hd : d = 3
  · subst hd
    have E0 : rcanN 3 h n 5 = (true) := rfl
    rw [E0]
    clear E0
    unfold Hd.cs at hac hB ⊢
    go_enter Tryz.func13, Tryz.ntmps13
    go_wp2
    go_ret
    exact ⟨rfl, hac⟩
  · have E0 : rcanN d h n 5 = plainN d h n 5 := by unfold rcanN; rw [if_pos hd]
    rw [E0]
    have e3 : (d != 3) = true := by simpa using hd
    have hp := fun w => plain_ok d h a n c 5 (by omega) h1 w
    generalize plainN d h n 5 = q at *
    clear hd E0
    unfold Hd.cs at hac hB hp ⊢
    go_enter Tryz.func13, Tryz.ntmps13
    go_wp2_with (first
      | (go_at_call 32; refine (hp _).mono ?_; rintro e w1 ⟨rfl, hb1⟩; replace hac := hac.trans (hb1.mono hac.size)))
    go_ret
    exact ⟨rfl, hac⟩

set_option maxHeartbeats 8000000 in
theorem rcan_6 (d : Int) (h : Hd) (a : Option Addr) (n c : Nat) (h1 : h.name.size ≤ 900000) (h2 : h.link.size ≤ 900000) (h3 : h.user.size ≤ 900000) (h4 : h.group.size ≤ 900000) (w : World) :
    Calls Tryz.prog 13 #[.int .i64 d, .agg (h.cs (.slice a n c)), .int .i64 6] w fun e w' => e = .returned (.bool (rcanN d h n 6)) ∧ Below w.heap.size w w' := by
  have hac := below_alloc w (.cells (h.cs (.slice a n c)) 26)
  have hB : Blk (w.alloc (.cells (h.cs (.slice a n c)) 26)) w.heap.size (h.cs (.slice a n c)) 26 := heap_alloc_new _ _
  by_cases hd : d = 3
  · subst hd
    have E0 : rcanN 3 h n 6 = (true) := rfl
    rw [E0]
    clear E0
    unfold Hd.cs at hac hB ⊢
    go_enter Tryz.func13, Tryz.ntmps13
    go_wp2
    go_ret
    exact ⟨rfl, hac⟩
  · have E0 : rcanN d h n 6 = plainN d h n 6 := by unfold rcanN; rw [if_pos hd]
    rw [E0]
    have e3 : (d != 3) = true := by simpa using hd
    have hp := fun w => plain_ok d h a n c 6 (by omega) h1 w
    generalize plainN d h n 6 = q at *
    clear hd E0
    unfold Hd.cs at hac hB hp ⊢
    go_enter Tryz.func13, Tryz.ntmps13
    go_wp2_with (first
      | (go_at_call 32; refine (hp _).mono ?_; rintro e w1 ⟨rfl, hb1⟩; replace hac := hac.trans (hb1.mono hac.size)))
    go_ret
    exact ⟨rfl, hac⟩

set_option maxHeartbeats 8000000 in
theorem rcan_7 (d : Int) (h : Hd) (a : Option Addr) (n c : Nat) (h1 : h.name.size ≤ 900000) (h2 : h.link.size ≤ 900000) (h3 : h.user.size ≤ 900000) (h4 : h.group.size ≤ 900000) (w : World) :
    Calls Tryz.prog 13 #[.int .i64 d, .agg (h.cs (.slice a n c)), .int .i64 7] w fun e w' => e = .returned (.bool (rcanN d h n 7)) ∧ Below w.heap.size w w' := by
  have hac := below_alloc w (.cells (h.cs (.slice a n c)) 26)
  have hB : Blk (w.alloc (.cells (h.cs (.slice a n c)) 26)) w.heap.size (h.cs (.slice a n c)) 26 := heap_alloc_new _ _
  by_cases hd : d = 3
  · subst hd
    have E0 : rcanN 3 h n 7 = (true) := rfl
    rw [E0]
    clear E0
    unfold Hd.cs at hac hB ⊢
    go_enter Tryz.func13, Tryz.ntmps13
    go_wp2
    go_ret
    exact ⟨rfl, hac⟩
  · have E0 : rcanN d h n 7 = plainN d h n 7 := by unfold rcanN; rw [if_pos hd]
    rw [E0]
    have e3 : (d != 3) = true := by simpa using hd
    have hp := fun w => plain_ok d h a n c 7 (by omega) h1 w
    generalize plainN d h n 7 = q at *
    clear hd E0
    unfold Hd.cs at hac hB hp ⊢
    go_enter Tryz.func13, Tryz.ntmps13
    go_wp2_with (first
      | (go_at_call 32; refine (hp _).mono ?_; rintro e w1 ⟨rfl, hb1⟩; replace hac := hac.trans (hb1.mono hac.size)))
    go_ret
    exact ⟨rfl, hac⟩

set_option maxHeartbeats 8000000 in
theorem rcan_8 (d : Int) (h : Hd) (a : Option Addr) (n c : Nat) (h1 : h.name.size ≤ 900000) (h2 : h.link.size ≤ 900000) (h3 : h.user.size ≤ 900000) (h4 : h.group.size ≤ 900000) (w : World) :
    Calls Tryz.prog 13 #[.int .i64 d, .agg (h.cs (.slice a n c)), .int .i64 8] w fun e w' => e = .returned (.bool (rcanN d h n 8)) ∧ Below w.heap.size w w' := by
  have hac := below_alloc w (.cells (h.cs (.slice a n c)) 26)
  have hB : Blk (w.alloc (.cells (h.cs (.slice a n c)) 26)) w.heap.size (h.cs (.slice a n c)) 26 := heap_alloc_new _ _
  by_cases hd : d = 3
  · subst hd
    have E0 : rcanN 3 h n 8 = (true) := rfl
    rw [E0]
    clear E0
    unfold Hd.cs at hac hB ⊢
    go_enter Tryz.func13, Tryz.ntmps13
    go_wp2
    go_ret
    exact ⟨rfl, hac⟩
  · have E0 : rcanN d h n 8 = plainN d h n 8 := by unfold rcanN; rw [if_pos hd]
    rw [E0]
    have e3 : (d != 3) = true := by simpa using hd
    have hp := fun w => plain_ok d h a n c 8 (by omega) h1 w
    generalize plainN d h n 8 = q at *
    clear hd E0
    unfold Hd.cs at hac hB hp ⊢
    go_enter Tryz.func13, Tryz.ntmps13
    go_wp2_with (first
      | (go_at_call 32; refine (hp _).mono ?_; rintro e w1 ⟨rfl, hb1⟩; replace hac := hac.trans (hb1.mono hac.size)))
    go_ret
    exact ⟨rfl, hac⟩

set_option maxHeartbeats 8000000 in
theorem rcan_9 (d : Int) (h : Hd) (a : Option Addr) (n c : Nat) (h1 : h.name.size ≤ 900000) (h2 : h.link.size ≤ 900000) (h3 : h.user.size ≤ 900000) (h4 : h.group.size ≤ 900000) (w : World) :
    Calls Tryz.prog 13 #[.int .i64 d, .agg (h.cs (.slice a n c)), .int .i64 9] w fun e w' => e = .returned (.bool (rcanN d h n 9)) ∧ Below w.heap.size w w' := by
  have hac := below_alloc w (.cells (h.cs (.slice a n c)) 26)
  have hB : Blk (w.alloc (.cells (h.cs (.slice a n c)) 26)) w.heap.size (h.cs (.slice a n c)) 26 := heap_alloc_new _ _
  by_cases hd : d = 3
  · subst hd
    have E0 : rcanN 3 h n 9 = (plainN 2 h n 9 || utfB h.user) := rfl
    rw [E0]
    clear E0
    have hp := fun w => plain_ok 2 h a n c 9 (by omega) h1 w
    have hu := fun w => rutf_ok h.user (by omega) w
    generalize utfB h.user = u at *
    cases hq : plainN 2 h n 9
    · rw [hq] at hp
      clear hq
      unfold Hd.cs at hac hB hp ⊢
      go_enter Tryz.func13, Tryz.ntmps13
      go_wp2_with (first
        | (go_at_call 32; refine (hp _).mono ?_; rintro e w1 ⟨rfl, hb1⟩; (have cx : w1.cell? ⟨w.heap.size, 9, none⟩ = some (.string h.user) := (hB.below hb1).cell 9); replace hac := hac.trans (hb1.mono hac.size))
        | (go_at_call 33; refine (hu _).mono ?_; rintro e w2 ⟨rfl, hb2⟩))
      go_ret
      exact ⟨ret_bool (by simp), hac.trans (hb2.mono hac.size)⟩
    · rw [hq] at hp
      clear hq
      unfold Hd.cs at hac hB hp ⊢
      go_enter Tryz.func13, Tryz.ntmps13
      go_wp2_with (first
        | (go_at_call 32; refine (hp _).mono ?_; rintro e w1 ⟨rfl, hb1⟩; replace hac := hac.trans (hb1.mono hac.size)))
      go_ret
      exact ⟨ret_bool (by simp), hac⟩
  · have E0 : rcanN d h n 9 = plainN d h n 9 := by unfold rcanN; rw [if_pos hd]
    rw [E0]
    have e3 : (d != 3) = true := by simpa using hd
    have hp := fun w => plain_ok d h a n c 9 (by omega) h1 w
    generalize plainN d h n 9 = q at *
    clear hd E0
    unfold Hd.cs at hac hB hp ⊢
    go_enter Tryz.func13, Tryz.ntmps13
    go_wp2_with (first
      | (go_at_call 32; refine (hp _).mono ?_; rintro e w1 ⟨rfl, hb1⟩; replace hac := hac.trans (hb1.mono hac.size)))
    go_ret
    exact ⟨rfl, hac⟩

set_option maxHeartbeats 8000000 in
theorem rcan_10 (d : Int) (h : Hd) (a : Option Addr) (n c : Nat) (h1 : h.name.size ≤ 900000) (h2 : h.link.size ≤ 900000) (h3 : h.user.size ≤ 900000) (h4 : h.group.size ≤ 900000) (w : World) :
    Calls Tryz.prog 13 #[.int .i64 d, .agg (h.cs (.slice a n c)), .int .i64 10] w fun e w' => e = .returned (.bool (rcanN d h n 10)) ∧ Below w.heap.size w w' := by
  have hac := below_alloc w (.cells (h.cs (.slice a n c)) 26)
  have hB : Blk (w.alloc (.cells (h.cs (.slice a n c)) 26)) w.heap.size (h.cs (.slice a n c)) 26 := heap_alloc_new _ _
  by_cases hd : d = 3
  · subst hd
    have E0 : rcanN 3 h n 10 = (plainN 2 h n 10 || utfB h.group) := rfl
    rw [E0]
    clear E0
    have hp := fun w => plain_ok 2 h a n c 10 (by omega) h1 w
    have hu := fun w => rutf_ok h.group (by omega) w
    generalize utfB h.group = u at *
    cases hq : plainN 2 h n 10
    · rw [hq] at hp
      clear hq
      unfold Hd.cs at hac hB hp ⊢
      go_enter Tryz.func13, Tryz.ntmps13
      go_wp2_with (first
        | (go_at_call 32; refine (hp _).mono ?_; rintro e w1 ⟨rfl, hb1⟩; (have cx : w1.cell? ⟨w.heap.size, 10, none⟩ = some (.string h.group) := (hB.below hb1).cell 10); replace hac := hac.trans (hb1.mono hac.size))
        | (go_at_call 33; refine (hu _).mono ?_; rintro e w2 ⟨rfl, hb2⟩))
      go_ret
      exact ⟨ret_bool (by simp), hac.trans (hb2.mono hac.size)⟩
    · rw [hq] at hp
      clear hq
      unfold Hd.cs at hac hB hp ⊢
      go_enter Tryz.func13, Tryz.ntmps13
      go_wp2_with (first
        | (go_at_call 32; refine (hp _).mono ?_; rintro e w1 ⟨rfl, hb1⟩; replace hac := hac.trans (hb1.mono hac.size)))
      go_ret
      exact ⟨ret_bool (by simp), hac⟩
  · have E0 : rcanN d h n 10 = plainN d h n 10 := by unfold rcanN; rw [if_pos hd]
    rw [E0]
    have e3 : (d != 3) = true := by simpa using hd
    have hp := fun w => plain_ok d h a n c 10 (by omega) h1 w
    generalize plainN d h n 10 = q at *
    clear hd E0
    unfold Hd.cs at hac hB hp ⊢
    go_enter Tryz.func13, Tryz.ntmps13
    go_wp2_with (first
      | (go_at_call 32; refine (hp _).mono ?_; rintro e w1 ⟨rfl, hb1⟩; replace hac := hac.trans (hb1.mono hac.size)))
    go_ret
    exact ⟨rfl, hac⟩

set_option maxHeartbeats 8000000 in
theorem rcan_11 (d : Int) (h : Hd) (a : Option Addr) (n c : Nat) (h1 : h.name.size ≤ 900000) (h2 : h.link.size ≤ 900000) (h3 : h.user.size ≤ 900000) (h4 : h.group.size ≤ 900000) (w : World) :
    Calls Tryz.prog 13 #[.int .i64 d, .agg (h.cs (.slice a n c)), .int .i64 11] w fun e w' => e = .returned (.bool (rcanN d h n 11)) ∧ Below w.heap.size w w' := by
  have hac := below_alloc w (.cells (h.cs (.slice a n c)) 26)
  have hB : Blk (w.alloc (.cells (h.cs (.slice a n c)) 26)) w.heap.size (h.cs (.slice a n c)) 26 := heap_alloc_new _ _
  by_cases hd : d = 3
  · subst hd
    have E0 : rcanN 3 h n 11 = (plainN 2 h n 11) := rfl
    rw [E0]
    clear E0
    have hp := fun w => plain_ok 2 h a n c 11 (by omega) h1 w
    generalize plainN 2 h n 11 = q at *
    unfold Hd.cs at hac hB hp ⊢
    go_enter Tryz.func13, Tryz.ntmps13
    go_wp2_with (first
      | (go_at_call 32; refine (hp _).mono ?_; rintro e w1 ⟨rfl, hb1⟩; replace hac := hac.trans (hb1.mono hac.size)))
    go_ret
    exact ⟨rfl, hac⟩
  · have E0 : rcanN d h n 11 = plainN d h n 11 := by unfold rcanN; rw [if_pos hd]
    rw [E0]
    have e3 : (d != 3) = true := by simpa using hd
    have hp := fun w => plain_ok d h a n c 11 (by omega) h1 w
    generalize plainN d h n 11 = q at *
    clear hd E0
    unfold Hd.cs at hac hB hp ⊢
    go_enter Tryz.func13, Tryz.ntmps13
    go_wp2_with (first
      | (go_at_call 32; refine (hp _).mono ?_; rintro e w1 ⟨rfl, hb1⟩; replace hac := hac.trans (hb1.mono hac.size)))
    go_ret
    exact ⟨rfl, hac⟩

set_option maxHeartbeats 8000000 in
theorem rcan_12 (d : Int) (h : Hd) (a : Option Addr) (n c : Nat) (h1 : h.name.size ≤ 900000) (h2 : h.link.size ≤ 900000) (h3 : h.user.size ≤ 900000) (h4 : h.group.size ≤ 900000) (w : World) :
    Calls Tryz.prog 13 #[.int .i64 d, .agg (h.cs (.slice a n c)), .int .i64 12] w fun e w' => e = .returned (.bool (rcanN d h n 12)) ∧ Below w.heap.size w w' := by
  have hac := below_alloc w (.cells (h.cs (.slice a n c)) 26)
  have hB : Blk (w.alloc (.cells (h.cs (.slice a n c)) 26)) w.heap.size (h.cs (.slice a n c)) 26 := heap_alloc_new _ _
  by_cases hd : d = 3
  · subst hd
    have E0 : rcanN 3 h n 12 = (plainN 2 h n 12) := rfl
    rw [E0]
    clear E0
    have hp := fun w => plain_ok 2 h a n c 12 (by omega) h1 w
    generalize plainN 2 h n 12 = q at *
    unfold Hd.cs at hac hB hp ⊢
    go_enter Tryz.func13, Tryz.ntmps13
    go_wp2_with (first
      | (go_at_call 32; refine (hp _).mono ?_; rintro e w1 ⟨rfl, hb1⟩; replace hac := hac.trans (hb1.mono hac.size)))
    go_ret
    exact ⟨rfl, hac⟩
  · have E0 : rcanN d h n 12 = plainN d h n 12 := by unfold rcanN; rw [if_pos hd]
    rw [E0]
    have e3 : (d != 3) = true := by simpa using hd
    have hp := fun w => plain_ok d h a n c 12 (by omega) h1 w
    generalize plainN d h n 12 = q at *
    clear hd E0
    unfold Hd.cs at hac hB hp ⊢
    go_enter Tryz.func13, Tryz.ntmps13
    go_wp2_with (first
      | (go_at_call 32; refine (hp _).mono ?_; rintro e w1 ⟨rfl, hb1⟩; replace hac := hac.trans (hb1.mono hac.size)))
    go_ret
    exact ⟨rfl, hac⟩

set_option maxHeartbeats 8000000 in
theorem rcan_13 (d : Int) (h : Hd) (a : Option Addr) (n c : Nat) (h1 : h.name.size ≤ 900000) (h2 : h.link.size ≤ 900000) (h3 : h.user.size ≤ 900000) (h4 : h.group.size ≤ 900000) (w : World) :
    Calls Tryz.prog 13 #[.int .i64 d, .agg (h.cs (.slice a n c)), .int .i64 13] w fun e w' => e = .returned (.bool (rcanN d h n 13)) ∧ Below w.heap.size w w' := by
  have hac := below_alloc w (.cells (h.cs (.slice a n c)) 26)
  have hB : Blk (w.alloc (.cells (h.cs (.slice a n c)) 26)) w.heap.size (h.cs (.slice a n c)) 26 := heap_alloc_new _ _
  by_cases hd : d = 3
  · subst hd
    have E0 : rcanN 3 h n 13 = (true) := rfl
    rw [E0]
    clear E0
    unfold Hd.cs at hac hB ⊢
    go_enter Tryz.func13, Tryz.ntmps13
    go_wp2
    go_ret
    exact ⟨rfl, hac⟩
  · have E0 : rcanN d h n 13 = plainN d h n 13 := by unfold rcanN; rw [if_pos hd]
    rw [E0]
    have e3 : (d != 3) = true := by simpa using hd
    have hp := fun w => plain_ok d h a n c 13 (by omega) h1 w
    generalize plainN d h n 13 = q at *
    clear hd E0
    unfold Hd.cs at hac hB hp ⊢
    go_enter Tryz.func13, Tryz.ntmps13
    go_wp2_with (first
      | (go_at_call 32; refine (hp _).mono ?_; rintro e w1 ⟨rfl, hb1⟩; replace hac := hac.trans (hb1.mono hac.size)))
    go_ret
    exact ⟨rfl, hac⟩

/-- all of these -/
theorem rcan_ok (d : Int) (h : Hd) (a : Option Addr) (n c : Nat) (f : Int) (hf : 1 ≤ f ∧ f ≤ 13) (h1 : h.name.size ≤ 900000) (h2 : h.link.size ≤ 900000) (h3 : h.user.size ≤ 900000) (h4 : h.group.size ≤ 900000) (w : World) :
    Calls Tryz.prog 13 #[.int .i64 d, .agg (h.cs (.slice a n c)), .int .i64 f] w fun e w' => e = .returned (.bool (rcanN d h n f)) ∧ Below w.heap.size w w' := by
  have hv : f = 1 ∨ f = 2 ∨ f = 3 ∨ f = 4 ∨ f = 5 ∨ f = 6 ∨ f = 7 ∨ f = 8 ∨ f = 9 ∨ f = 10 ∨ f = 11 ∨ f = 12 ∨ f = 13 := by omega
  rcases hv with rfl | rfl | rfl | rfl | rfl | rfl | rfl | rfl | rfl | rfl | rfl | rfl | rfl
  · exact rcan_1 d h a n c h1 h2 h3 h4 w
  · exact rcan_2 d h a n c h1 h2 h3 h4 w
  · exact rcan_3 d h a n c h1 h2 h3 h4 w
  · exact rcan_4 d h a n c h1 h2 h3 h4 w
  · exact rcan_5 d h a n c h1 h2 h3 h4 w
  · exact rcan_6 d h a n c h1 h2 h3 h4 w
  · exact rcan_7 d h a n c h1 h2 h3 h4 w
  · exact rcan_8 d h a n c h1 h2 h3 h4 w
  · exact rcan_9 d h a n c h1 h2 h3 h4 w
  · exact rcan_10 d h a n c h1 h2 h3 h4 w
  · exact rcan_11 d h a n c h1 h2 h3 h4 w
  · exact rcan_12 d h a n c h1 h2 h3 h4 w
  · exact rcan_13 d h a n c h1 h2 h3 h4 w

end Go.Proofs.YthnaanjhmehgcaaGreatDoor
