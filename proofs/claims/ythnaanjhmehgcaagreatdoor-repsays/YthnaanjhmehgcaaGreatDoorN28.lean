/-
  THE DOCUMENT's FULL NAME, AND ITS FIELDS THAT A HEADER TELLS. Conditions: how long the texts may be.
-/
import Derived.Test.YthnaanjhmehgcaaGreatDoorN27
import Derived.Test.YthnaanjhmehgcaaGreatDoorN22
import Derived.Test.YthnaanjhmehgcaaGreatDoorN25
namespace Go.Proofs.YthnaanjhmehgcaaGreatDoor
open Go.ChangeShapes Go.WideShapes Go.ChangeAt Go.RowKit Go.Lib
set_option linter.unusedVariables false
set_option linter.unusedSimpArgs false
set_option maxRecDepth 20000

theorem rutf_ok (s : ByteArray) (hs : s.size ≤ 1000000) (w : World) : Calls Tryz.prog 33 #[.string s] w fun e w' => e = .returned (.bool (utfB s)) ∧ Below w.heap.size w w' := by
  have h := rfirst_walk s hs w
  unfold utfB
  generalize firstL s.data.toList = q at *
  go_enter Tryz.func33, Tryz.ntmps33
  go_wp2_with (go_at_call 39; refine h.mono ?_; rintro e w1 ⟨rfl, hb1⟩)
  go_ret
  exact ⟨rfl, hb1⟩

set_option maxHeartbeats 16000000 in
theorem rfull_ok (d : Int) (h : Hd) (x : Value) (hs : h.name.size ≤ 900000) (w : World) : Calls Tryz.prog 17 #[.int .i64 d, .agg (h.cs x)] w fun e w' => e = .returned (.tuple #[.string (fullS d h), .bool (fullB d h)]) ∧ Below w.heap.size w w' := by
  have hb0 := below_alloc w (.cells (h.cs x) 26)
  have hB0 : Blk (w.alloc (.cells (h.cs x) 26)) w.heap.size (h.cs x) 26 := heap_alloc_new _ _
  have hfu := rfulls_ok h x (by omega) (w.alloc (.cells (h.cs x) 26))
  obtain ⟨hsz, hl0, hl2⟩ := fulls_sz h.kind h.name
  have hu : ∀ w, Calls Tryz.prog 39 #[.string h.name] w fun e w' => e = .returned (.int .i64 (firstL h.name.data.toList)) ∧ Below w.heap.size w w' := fun w => rfirst_walk h.name (by omega) w
  obtain ⟨S, hS⟩ : ∃ S, S = fullS d h := ⟨_, rfl⟩
  obtain ⟨O, hO⟩ : ∃ O, O = fullB d h := ⟨_, rfl⟩
  rw [← hS, ← hO]
  unfold fullS at hS
  unfold fullB at hO
  have hFO : fullO d h = match (fulls h.kind h.name).find? (holdF d h.kind) with
    | some f => some f
    | none => if d = 3 ∧ utfB h.name = true then (fulls h.kind h.name).head? else none := rfl
  have hub : utfB h.name = decide (firstL h.name.data.toList < 0) := rfl
  generalize utfB h.name = u at *
  generalize firstL h.name.data.toList = fi at *
  generalize fulls h.kind h.name = L at *
  generalize fullO d h = FO at *
  replace hS := hid hS
  replace hO := hid hO
  replace hFO := hid hFO
  replace hl2 := hid hl2
  replace hub := hid hub
  unfold Hd.cs at hfu hb0 hB0 ⊢
  go_enter Tryz.func17, Tryz.ntmps17
  go_wp2_with (go_at_call 36; refine hfu.mono ?_; rintro e w1 ⟨g, n, rfl, hn, hst, hb1⟩; replace hn := hid hn; have hB1 := hB0.below hb1; have hac := hb0.trans (hb1.mono hb0.size))
  clear hB0 hfu hb1
  have hn2 : n ≤ 2 := by rw [hn.out]; exact hl2.out
  have hn0 : 0 < n := by rw [hn.out]; exact hl0
  go_loopw [7] (fun y wr => ∃ i : Nat, y = .int .i64 i ∧ i ≤ n ∧ Below w1.heap.size w1 wr ∧ Hid (L.find? (holdF d h.kind) = (L.drop i).find? (holdF d h.kind))) (fun y _ => n - (RowKit.intOf y).toNat)
  case atStart => exact ⟨0, rfl, by omega, Below.refl _ _, hid rfl⟩
  case round =>
    obtain ⟨i, rfl, hi, hb, hf⟩ := hrel
    have hBr := hB1.below hb
    have k0 : wr.cell? ⟨w.heap.size, 0, none⟩ = some (.int .i64 h.kind) := hBr.cell 0
    have k1 : wr.cell? ⟨w.heap.size, 1, none⟩ = some (.string h.name) := hBr.cell 1
    have hacr := hac.trans (hb.mono hac.size)
    by_cases hlt : i < n
    · obtain ⟨f, hm, hd, cf⟩ := sts_at (hst.below hb) i (by rw [← hn.out]; exact hlt)
      have hfs := hsz f hm
      have hsp := rsplit_ok f (by omega) wr
      have hsl := rslash_ok f (by omega)
      have hiI : (i : Int) < (n : Int) := by omega
      have hNo : Hid (holdF d h.kind f = false → L.find? (holdF d h.kind) = (L.drop (i + 1)).find? (holdF d h.kind)) := hid fun hh => by rw [hf.out, hd.out, List.find?_cons, hh]
      have hYes : Hid (holdF d h.kind f = true → FO = some f) := hid fun hh => by rw [hFO.out, hf.out, hd.out, List.find?_cons, hh]
      clear hf hd hm hFO hu hsz
      have hH : Hid (holdF d h.kind f = if d = 1 then decide (f.size ≤ 100) && (h.kind != 6 || endsS f) else if d = 4 then decide (f.size ≤ 65536) else spO f) := hid rfl
      generalize spA f = sa at *
      generalize spN f = sn at *
      generalize spO f = so at *
      generalize endsS f = es at *
      by_cases h1 : d = 1
      · subst h1
        by_cases h2 : f.size ≤ 100
        · have h2I : (f.size : Int) ≤ 100 := by omega
          by_cases h6 : h.kind = 6
          · have e6 : (h.kind != 6) = false := by simp [h6]
            replace h6 := hid h6
            cases es
            · have E := hid (hNo.out (by rw [hH.out]; simp [h2, h6.out]))
              clear hNo hYes hH hS hO
              go_wp2_with (first | (go_at_call 37; refine (hsl _).mono ?_; rintro e w' ⟨hw, rfl⟩; obtain rfl := hw.symm))
              go_roundw
              case rel => exact ⟨i + 1, by go_num, by omega, hb, E⟩
              case measure => simp [RowKit.intOf]; omega
            · have E := hid (hYes.out (by rw [hH.out]; simp [h2, h6.out]))
              clear hNo hYes hH
              go_wp2_with (first | (go_at_call 37; refine (hsl _).mono ?_; rintro e w' ⟨hw, rfl⟩; obtain rfl := hw.symm))
              all_goals go_ret2
              all_goals exact ⟨ret_sb2 (by rw [hS.out, E.out]; rfl) (by rw [hO.out, E.out]; rfl), hacr⟩
          · have e6 : (h.kind != 6) = true := by simp [h6]
            have E := hid (hYes.out (by rw [hH.out]; simp [h2, h6]))
            clear hNo hYes hH
            go_wp2
            all_goals go_ret2
            all_goals exact ⟨ret_sb2 (by rw [hS.out, E.out]; rfl) (by rw [hO.out, E.out]; rfl), hacr⟩
        · have h2I : ¬ (f.size : Int) ≤ 100 := by omega
          have E := hid (hNo.out (by rw [hH.out]; simp [h2]))
          clear hNo hYes hH hS hO
          go_wp2
          go_roundw
          case rel => exact ⟨i + 1, by go_num, by omega, hb, E⟩
          case measure => simp [RowKit.intOf]; omega
      have e1 : (d == 1) = false := by simpa using h1
      by_cases h4 : d = 4
      · subst h4
        by_cases h2 : f.size ≤ 65536
        · have h2I : (f.size : Int) ≤ 65536 := by omega
          have E := hid (hYes.out (by rw [hH.out]; simp [h2]))
          clear hNo hYes hH
          go_wp2
          all_goals go_ret2
          all_goals exact ⟨ret_sb2 (by rw [hS.out, E.out]; rfl) (by rw [hO.out, E.out]; rfl), hacr⟩
        · have h2I : ¬ (f.size : Int) ≤ 65536 := by omega
          have E := hid (hNo.out (by rw [hH.out]; simp [h2]))
          clear hNo hYes hH hS hO
          go_wp2
          go_roundw
          case rel => exact ⟨i + 1, by go_num, by omega, hb, E⟩
          case measure => simp [RowKit.intOf]; omega
      have e4 : (d == 4) = false := by simpa using h4
      cases so
      · have E := hid (hNo.out (by rw [hH.out]; simp [h1, h4]))
        clear hNo hYes hH hS hO
        go_wp2_with (first | (go_at_call 38; refine hsp.mono ?_; rintro e w2 ⟨rfl, hb2⟩; have cf2 := cell_later hb2 cf))
        go_roundw
        case rel => exact ⟨i + 1, by go_num, by omega, hb.trans (hb2.mono hb.size), E⟩
        case measure => simp [RowKit.intOf]; omega
      · have E := hid (hYes.out (by rw [hH.out]; simp [h1, h4]))
        clear hNo hYes hH
        go_wp2_with (first | (go_at_call 38; refine hsp.mono ?_; rintro e w2 ⟨rfl, hb2⟩; have cf2 := cell_later hb2 cf))
        all_goals go_ret2
        all_goals exact ⟨ret_sb2 (by rw [hS.out, E.out]; rfl) (by rw [hO.out, E.out]; rfl), hacr.trans (hb2.mono hacr.size)⟩
    · obtain rfl : i = n := by omega
      have hf0 := hid (show L.find? (holdF d h.kind) = none by rw [hf.out, List.drop_eq_nil_iff.2 (by rw [← hn.out]; exact Nat.le_refl _)]; rfl)
      obtain ⟨f0, hm0, hd0, cf0⟩ := sts_at (hst.below hb) 0 (by rw [← hn.out]; exact hn0)
      have hL0 := hid (show L.head? = some f0 by have := hd0.out; rw [List.drop_zero] at this; rw [this]; rfl)
      clear hd0 hm0 hf
      have hnI : ¬ (i : Int) < (i : Int) := by omega
      have hiI : (0 : Int) < (i : Int) := by omega
      by_cases h3 : d = 3
      · subst h3
        by_cases hfi : fi < 0
        · have E : Hid (FO = some f0) := hid (by rw [hFO.out, hf0.out, hub.out]; simp [hfi, hL0.out])
          clear hFO hf0 hL0 hub
          go_wp2_with (go_at_call 39; refine (hu _).mono ?_; rintro e w2 ⟨rfl, hb2⟩; have cf2 := cell_later hb2 cf0)
          all_goals go_ret2
          all_goals exact ⟨ret_sb2 (by rw [hS.out, E.out]; rfl) (by rw [hO.out, E.out]; rfl), hacr.trans (hb2.mono hacr.size)⟩
        · have E : Hid (FO = none) := hid (by rw [hFO.out, hf0.out, hub.out]; simp [hfi])
          clear hFO hf0 hL0 hub
          go_wp2_with (go_at_call 39; refine (hu _).mono ?_; rintro e w2 ⟨rfl, hb2⟩)
          all_goals go_ret2
          all_goals exact ⟨ret_sb2 (by rw [hS.out, E.out]; rfl) (by rw [hO.out, E.out]; rfl), hacr.trans (hb2.mono hacr.size)⟩
      · have e3 : (d == 3) = false := by simpa using h3
        have E : Hid (FO = none) := hid (by rw [hFO.out, hf0.out]; simp [h3])
        clear hFO hf0 hL0 h3
        go_wp2
        all_goals go_ret2
        all_goals exact ⟨ret_sb2 (by rw [hS.out, E.out]; rfl) (by rw [hO.out, E.out]; rfl), hacr⟩

set_option maxHeartbeats 8000000 in
theorem plain_1 (d : Int) (h : Hd) (a : Option Addr) (n c : Nat) (w : World) : Calls Tryz.prog 32 #[.int .i64 d, .agg (h.cs (.slice a n c)), .int .i64 1] w fun e w' => e = .returned (.bool (decide (d ≠ 1) || oldK h.kind)) ∧ Below w.heap.size w w' := by
  have hb0 := below_alloc w (.cells (h.cs (.slice a n c)) 26)
  obtain ⟨q, hq⟩ : ∃ q, q = (decide (d ≠ 1) || oldK h.kind) := ⟨_, rfl⟩
  rw [← hq]
  replace hq := hid hq
  unfold oldK at hq
  unfold Hd.cs at hb0 ⊢
  by_cases h4 : d = 4
  · subst h4
    have E := hid (show q = true by rw [hq.out]; simp)
    clear hq
    go_enter Tryz.func32, Tryz.ntmps32
    go_wp2
    go_ret
    exact ⟨ret_bool E.out.symm, hb0⟩
  have e4 : (d == 4) = false := by simpa using h4
  by_cases h1 : d = 1
  · subst h1
    cases g1 : (h.kind == 1)
    · cases g2 : (h.kind == 2)
      · cases g3 : (h.kind == 3)
        · have E := hid (show q = (h.kind == 6) by rw [hq.out, g1, g2, g3]; simp)
          clear hq
          go_enter Tryz.func32, Tryz.ntmps32
          go_wp2
          go_ret
          exact ⟨ret_bool E.out.symm, hb0⟩
        · have E := hid (show q = true by rw [hq.out, g1, g2, g3]; simp)
          clear hq
          go_enter Tryz.func32, Tryz.ntmps32
          go_wp2
          go_ret
          exact ⟨ret_bool E.out.symm, hb0⟩
      · have E := hid (show q = true by rw [hq.out, g1, g2]; simp)
        clear hq
        go_enter Tryz.func32, Tryz.ntmps32
        go_wp2
        go_ret
        exact ⟨ret_bool E.out.symm, hb0⟩
    · have E := hid (show q = true by rw [hq.out, g1]; simp)
      clear hq
      go_enter Tryz.func32, Tryz.ntmps32
      go_wp2
      go_ret
      exact ⟨ret_bool E.out.symm, hb0⟩
  · have e1 : (d != 1) = true := by simpa using h1
    have E := hid (show q = true by rw [hq.out]; simp [h1])
    clear hq h1 h4
    go_enter Tryz.func32, Tryz.ntmps32
    go_wp2
    go_ret
    exact ⟨ret_bool E.out.symm, hb0⟩

set_option maxHeartbeats 8000000 in
theorem plain_2 (d : Int) (h : Hd) (a : Option Addr) (n c : Nat) (hs : h.name.size ≤ 900000) (w : World) : Calls Tryz.prog 32 #[.int .i64 d, .agg (h.cs (.slice a n c)), .int .i64 2] w fun e w' => e = .returned (.bool (fullB d h)) ∧ Below w.heap.size w w' := by
  have hb0 := below_alloc w (.cells (h.cs (.slice a n c)) 26)
  have hf := fun w => rfull_ok d h (.slice a n c) hs w
  generalize fullB d h = q at *
  generalize fullS d h = s at *
  unfold Hd.cs at hb0 hf ⊢
  by_cases h4 : d = 4
  · subst h4
    go_enter Tryz.func32, Tryz.ntmps32
    go_wp2_with (go_at_call 17; refine (hf _).mono ?_; rintro e w1 ⟨rfl, hb1⟩)
    go_ret
    exact ⟨rfl, hb0.trans (hb1.mono hb0.size)⟩
  · have e4 : (d == 4) = false := by simpa using h4
    clear h4
    go_enter Tryz.func32, Tryz.ntmps32
    go_wp2_with (go_at_call 17; refine (hf _).mono ?_; rintro e w1 ⟨rfl, hb1⟩)
    go_ret
    exact ⟨rfl, hb0.trans (hb1.mono hb0.size)⟩

set_option maxHeartbeats 8000000 in
theorem plain_3 (d : Int) (h : Hd) (a : Option Addr) (n c : Nat) (w : World) : Calls Tryz.prog 32 #[.int .i64 d, .agg (h.cs (.slice a n c)), .int .i64 3] w fun e w' => e = .returned (.bool (decide (h.link.size ≤ 100) || decide (d = 4))) ∧ Below w.heap.size w w' := by
  have hb0 := below_alloc w (.cells (h.cs (.slice a n c)) 26)
  unfold Hd.cs at hb0 ⊢
  by_cases h2 : h.link.size ≤ 100
  · have h2I : (h.link.size : Int) ≤ 100 := by omega
    rw [decide_eq_true h2]
    clear h2
    by_cases h4 : d = 4
    · subst h4
      go_enter Tryz.func32, Tryz.ntmps32
      go_wp2
      go_ret
      exact ⟨rfl, hb0⟩
    · have e4 : (d == 4) = false := by simpa using h4
      clear h4
      go_enter Tryz.func32, Tryz.ntmps32
      go_wp2
      go_ret
      exact ⟨rfl, hb0⟩
  · have h2I : ¬ (h.link.size : Int) ≤ 100 := by omega
    rw [decide_eq_false h2]
    clear h2
    by_cases h4 : d = 4
    · subst h4
      go_enter Tryz.func32, Tryz.ntmps32
      go_wp2
      go_ret
      exact ⟨rfl, hb0⟩
    · have e4 : (d == 4) = false := by simpa using h4
      rw [decide_eq_false h4]
      clear h4
      go_enter Tryz.func32, Tryz.ntmps32
      go_wp2
      go_ret
      exact ⟨rfl, hb0⟩

set_option maxHeartbeats 8000000 in
theorem plain_4 (d : Int) (h : Hd) (a : Option Addr) (n c : Nat) (w : World) : Calls Tryz.prog 32 #[.int .i64 d, .agg (h.cs (.slice a n c)), .int .i64 4] w fun e w' => e = .returned (.bool (decide (h.mode ≤ if d = 4 then 72057594037927935 else 16777215))) ∧ Below w.heap.size w w' := by
  have hb0 := below_alloc w (.cells (h.cs (.slice a n c)) 26)
  unfold Hd.cs at hb0 ⊢
  by_cases h4 : d = 4
  · subst h4
    rw [if_pos rfl]
    go_enter Tryz.func32, Tryz.ntmps32
    go_wp2
    go_ret
    exact ⟨rfl, hb0⟩
  · have e4 : (d == 4) = false := by simpa using h4
    rw [if_neg h4]
    clear h4
    go_enter Tryz.func32, Tryz.ntmps32
    go_wp2
    go_ret
    exact ⟨rfl, hb0⟩

set_option maxHeartbeats 8000000 in
theorem plain_5 (d : Int) (h : Hd) (a : Option Addr) (n c : Nat) (w : World) : Calls Tryz.prog 32 #[.int .i64 d, .agg (h.cs (.slice a n c)), .int .i64 5] w fun e w' => e = .returned (.bool (decide (h.uid ≤ if d = 4 then 72057594037927935 else 16777215))) ∧ Below w.heap.size w w' := by
  have hb0 := below_alloc w (.cells (h.cs (.slice a n c)) 26)
  unfold Hd.cs at hb0 ⊢
  by_cases h4 : d = 4
  · subst h4
    rw [if_pos rfl]
    go_enter Tryz.func32, Tryz.ntmps32
    go_wp2
    go_ret
    exact ⟨rfl, hb0⟩
  · have e4 : (d == 4) = false := by simpa using h4
    rw [if_neg h4]
    clear h4
    go_enter Tryz.func32, Tryz.ntmps32
    go_wp2
    go_ret
    exact ⟨rfl, hb0⟩

set_option maxHeartbeats 8000000 in
theorem plain_6 (d : Int) (h : Hd) (a : Option Addr) (n c : Nat) (w : World) : Calls Tryz.prog 32 #[.int .i64 d, .agg (h.cs (.slice a n c)), .int .i64 6] w fun e w' => e = .returned (.bool (decide (h.gid ≤ if d = 4 then 72057594037927935 else 16777215))) ∧ Below w.heap.size w w' := by
  have hb0 := below_alloc w (.cells (h.cs (.slice a n c)) 26)
  unfold Hd.cs at hb0 ⊢
  by_cases h4 : d = 4
  · subst h4
    rw [if_pos rfl]
    go_enter Tryz.func32, Tryz.ntmps32
    go_wp2
    go_ret
    exact ⟨rfl, hb0⟩
  · have e4 : (d == 4) = false := by simpa using h4
    rw [if_neg h4]
    clear h4
    go_enter Tryz.func32, Tryz.ntmps32
    go_wp2
    go_ret
    exact ⟨rfl, hb0⟩

set_option maxHeartbeats 8000000 in
theorem plain_7 (d : Int) (h : Hd) (a : Option Addr) (n c : Nat) (w : World) : Calls Tryz.prog 32 #[.int .i64 d, .agg (h.cs (.slice a n c)), .int .i64 7] w fun e w' => e = .returned (.bool (decide (h.size ≤ if d = 4 then 9223372036854775807 else 68719476735))) ∧ Below w.heap.size w w' := by
  have hb0 := below_alloc w (.cells (h.cs (.slice a n c)) 26)
  unfold Hd.cs at hb0 ⊢
  by_cases h4 : d = 4
  · subst h4
    rw [if_pos rfl]
    go_enter Tryz.func32, Tryz.ntmps32
    go_wp2
    go_ret
    exact ⟨rfl, hb0⟩
  · have e4 : (d == 4) = false := by simpa using h4
    rw [if_neg h4]
    clear h4
    go_enter Tryz.func32, Tryz.ntmps32
    go_wp2
    go_ret
    exact ⟨rfl, hb0⟩

set_option maxHeartbeats 8000000 in
theorem plain_11 (d : Int) (h : Hd) (a : Option Addr) (n c : Nat) (w : World) : Calls Tryz.prog 32 #[.int .i64 d, .agg (h.cs (.slice a n c)), .int .i64 11] w fun e w' => e = .returned (.bool (decide (h.major ≤ if d = 4 then 72057594037927935 else 16777215))) ∧ Below w.heap.size w w' := by
  have hb0 := below_alloc w (.cells (h.cs (.slice a n c)) 26)
  unfold Hd.cs at hb0 ⊢
  by_cases h4 : d = 4
  · subst h4
    rw [if_pos rfl]
    go_enter Tryz.func32, Tryz.ntmps32
    go_wp2
    go_ret
    exact ⟨rfl, hb0⟩
  · have e4 : (d == 4) = false := by simpa using h4
    rw [if_neg h4]
    clear h4
    go_enter Tryz.func32, Tryz.ntmps32
    go_wp2
    go_ret
    exact ⟨rfl, hb0⟩

set_option maxHeartbeats 8000000 in
theorem plain_12 (d : Int) (h : Hd) (a : Option Addr) (n c : Nat) (w : World) : Calls Tryz.prog 32 #[.int .i64 d, .agg (h.cs (.slice a n c)), .int .i64 12] w fun e w' => e = .returned (.bool (decide (h.minor ≤ if d = 4 then 72057594037927935 else 16777215))) ∧ Below w.heap.size w w' := by
  have hb0 := below_alloc w (.cells (h.cs (.slice a n c)) 26)
  unfold Hd.cs at hb0 ⊢
  by_cases h4 : d = 4
  · subst h4
    rw [if_pos rfl]
    go_enter Tryz.func32, Tryz.ntmps32
    go_wp2
    go_ret
    exact ⟨rfl, hb0⟩
  · have e4 : (d == 4) = false := by simpa using h4
    rw [if_neg h4]
    clear h4
    go_enter Tryz.func32, Tryz.ntmps32
    go_wp2
    go_ret
    exact ⟨rfl, hb0⟩

set_option maxHeartbeats 8000000 in
theorem plain_8 (d : Int) (h : Hd) (a : Option Addr) (n c : Nat) (w : World) : Calls Tryz.prog 32 #[.int .i64 d, .agg (h.cs (.slice a n c)), .int .i64 8] w fun e w' => e = .returned (.bool (decide (h.nano = 0) && (decide (d = 4) || (decide (0 ≤ h.sec) && decide (h.sec ≤ if d = 4 then 9223372036854775807 else 68719476735))))) ∧ Below w.heap.size w w' := by
  have hb0 := below_alloc w (.cells (h.cs (.slice a n c)) 26)
  obtain ⟨q, hq⟩ : ∃ q, q = (decide (h.nano = 0) && (decide (d = 4) || (decide (0 ≤ h.sec) && decide (h.sec ≤ if d = 4 then 9223372036854775807 else 68719476735)))) := ⟨_, rfl⟩
  rw [← hq]
  replace hq := hid hq
  unfold Hd.cs at hb0 ⊢
  by_cases hn : h.nano = 0
  · have en : (h.nano == 0) = true := by simpa using hn
    by_cases h4 : d = 4
    · subst h4
      have E := hid (show q = true by rw [hq.out]; simp [hn])
      clear hq hn
      go_enter Tryz.func32, Tryz.ntmps32
      go_wp2
      go_ret
      exact ⟨ret_bool E.out.symm, hb0⟩
    have e4 : (d == 4) = false := by simpa using h4
    by_cases hs : 0 ≤ h.sec
    · have E := hid (show q = decide (h.sec ≤ 68719476735) by rw [hq.out]; simp [hn, h4, hs])
      clear hq hn h4
      go_enter Tryz.func32, Tryz.ntmps32
      go_wp2
      go_ret
      exact ⟨ret_bool E.out.symm, hb0⟩
    · have E := hid (show q = false by rw [hq.out]; simp [hn, h4, hs])
      clear hq hn h4
      go_enter Tryz.func32, Tryz.ntmps32
      go_wp2
      go_ret
      exact ⟨ret_bool E.out.symm, hb0⟩
  · have en : (h.nano == 0) = false := by simpa using hn
    have E := hid (show q = false by rw [hq.out]; simp [hn])
    clear hq hn
    by_cases h4 : d = 4
    · subst h4
      go_enter Tryz.func32, Tryz.ntmps32
      go_wp2
      go_ret
      exact ⟨ret_bool E.out.symm, hb0⟩
    · have e4 : (d == 4) = false := by simpa using h4
      clear h4
      go_enter Tryz.func32, Tryz.ntmps32
      go_wp2
      go_ret
      exact ⟨ret_bool E.out.symm, hb0⟩

set_option maxHeartbeats 8000000 in
theorem plain_9 (d : Int) (h : Hd) (a : Option Addr) (n c : Nat) (w : World) : Calls Tryz.prog 32 #[.int .i64 d, .agg (h.cs (.slice a n c)), .int .i64 9] w fun e w' => e = .returned (.bool (decide (h.user.size = 0) || (decide (d ≠ 1) && decide (h.user.size ≤ 32)))) ∧ Below w.heap.size w w' := by
  have hb0 := below_alloc w (.cells (h.cs (.slice a n c)) 26)
  obtain ⟨q, hq⟩ : ∃ q, q = (decide (h.user.size = 0) || (decide (d ≠ 1) && decide (h.user.size ≤ 32))) := ⟨_, rfl⟩
  rw [← hq]
  replace hq := hid hq
  unfold Hd.cs at hb0 ⊢
  by_cases h0 : h.user.size = 0
  · have e0 : (h.user.toList == []) = true := by rw [empty_of _ h0, Lib.toList_data]; rfl
    have E := hid (show q = true by rw [hq.out]; simp [h0])
    clear hq h0
    by_cases h4 : d = 4
    · subst h4
      go_enter Tryz.func32, Tryz.ntmps32
      go_wp2
      go_ret
      exact ⟨ret_bool E.out.symm, hb0⟩
    · have e4 : (d == 4) = false := by simpa using h4
      clear h4
      go_enter Tryz.func32, Tryz.ntmps32
      go_wp2
      go_ret
      exact ⟨ret_bool E.out.symm, hb0⟩
  have e0 : (h.user.toList == []) = false := by have := toList_ne _ h0; simpa using this
  by_cases h4 : d = 4
  · subst h4
    have E := hid (show q = decide ((h.user.size : Int) ≤ 32) by rw [hq.out, Bool.eq_iff_iff]; simp [h0]; omega)
    clear hq h0
    go_enter Tryz.func32, Tryz.ntmps32
    go_wp2
    go_ret
    exact ⟨ret_bool E.out.symm, hb0⟩
  have e4 : (d == 4) = false := by simpa using h4
  by_cases h1 : d = 1
  · subst h1
    have E := hid (show q = false by rw [hq.out]; simp [h0])
    clear hq h0
    go_enter Tryz.func32, Tryz.ntmps32
    go_wp2
    go_ret
    exact ⟨ret_bool E.out.symm, hb0⟩
  · have e1 : (d != 1) = true := by simpa using h1
    have E := hid (show q = decide ((h.user.size : Int) ≤ 32) by rw [hq.out, Bool.eq_iff_iff]; simp [h0, h1]; omega)
    clear hq h0 h1 h4
    go_enter Tryz.func32, Tryz.ntmps32
    go_wp2
    go_ret
    exact ⟨ret_bool E.out.symm, hb0⟩

set_option maxHeartbeats 8000000 in
theorem plain_10 (d : Int) (h : Hd) (a : Option Addr) (n c : Nat) (w : World) : Calls Tryz.prog 32 #[.int .i64 d, .agg (h.cs (.slice a n c)), .int .i64 10] w fun e w' => e = .returned (.bool (decide (h.group.size = 0) || (decide (d ≠ 1) && decide (h.group.size ≤ 32)))) ∧ Below w.heap.size w w' := by
  have hb0 := below_alloc w (.cells (h.cs (.slice a n c)) 26)
  obtain ⟨q, hq⟩ : ∃ q, q = (decide (h.group.size = 0) || (decide (d ≠ 1) && decide (h.group.size ≤ 32))) := ⟨_, rfl⟩
  rw [← hq]
  replace hq := hid hq
  unfold Hd.cs at hb0 ⊢
  by_cases h0 : h.group.size = 0
  · have e0 : (h.group.toList == []) = true := by rw [empty_of _ h0, Lib.toList_data]; rfl
    have E := hid (show q = true by rw [hq.out]; simp [h0])
    clear hq h0
    by_cases h4 : d = 4
    · subst h4
      go_enter Tryz.func32, Tryz.ntmps32
      go_wp2
      go_ret
      exact ⟨ret_bool E.out.symm, hb0⟩
    · have e4 : (d == 4) = false := by simpa using h4
      clear h4
      go_enter Tryz.func32, Tryz.ntmps32
      go_wp2
      go_ret
      exact ⟨ret_bool E.out.symm, hb0⟩
  have e0 : (h.group.toList == []) = false := by have := toList_ne _ h0; simpa using this
  by_cases h4 : d = 4
  · subst h4
    have E := hid (show q = decide ((h.group.size : Int) ≤ 32) by rw [hq.out, Bool.eq_iff_iff]; simp [h0]; omega)
    clear hq h0
    go_enter Tryz.func32, Tryz.ntmps32
    go_wp2
    go_ret
    exact ⟨ret_bool E.out.symm, hb0⟩
  have e4 : (d == 4) = false := by simpa using h4
  by_cases h1 : d = 1
  · subst h1
    have E := hid (show q = false by rw [hq.out]; simp [h0])
    clear hq h0
    go_enter Tryz.func32, Tryz.ntmps32
    go_wp2
    go_ret
    exact ⟨ret_bool E.out.symm, hb0⟩
  · have e1 : (d != 1) = true := by simpa using h1
    have E := hid (show q = decide ((h.group.size : Int) ≤ 32) by rw [hq.out, Bool.eq_iff_iff]; simp [h0, h1]; omega)
    clear hq h0 h1 h4
    go_enter Tryz.func32, Tryz.ntmps32
    go_wp2
    go_ret
    exact ⟨ret_bool E.out.symm, hb0⟩

set_option maxHeartbeats 8000000 in
theorem plain_13 (d : Int) (h : Hd) (a : Option Addr) (n c : Nat) (w : World) : Calls Tryz.prog 32 #[.int .i64 d, .agg (h.cs (.slice a n c)), .int .i64 13] w fun e w' => e = .returned (.bool (decide (n = 0))) ∧ Below w.heap.size w w' := by
  have hb0 := below_alloc w (.cells (h.cs (.slice a n c)) 26)
  unfold Hd.cs at hb0 ⊢
  have E := hid (show decide (n = 0) = ((n : Int) == 0) by rw [Bool.eq_iff_iff]; simp)
  generalize decide (n = 0) = q at *
  by_cases h4 : d = 4
  · subst h4
    go_enter Tryz.func32, Tryz.ntmps32
    go_wp2
    go_ret
    exact ⟨ret_bool (by rw [E.out]), hb0⟩
  · have e4 : (d == 4) = false := by simpa using h4
    clear h4
    go_enter Tryz.func32, Tryz.ntmps32
    go_wp2
    go_ret
    exact ⟨ret_bool (by rw [E.out]), hb0⟩

/-- all of these -/
theorem plain_ok (d : Int) (h : Hd) (a : Option Addr) (n c : Nat) (f : Int) (hf : 1 ≤ f ∧ f ≤ 13) (h1 : h.name.size ≤ 900000) (w : World) :
    Calls Tryz.prog 32 #[.int .i64 d, .agg (h.cs (.slice a n c)), .int .i64 f] w fun e w' => e = .returned (.bool (plainN d h n f)) ∧ Below w.heap.size w w' := by
  have hv : f = 1 ∨ f = 2 ∨ f = 3 ∨ f = 4 ∨ f = 5 ∨ f = 6 ∨ f = 7 ∨ f = 8 ∨ f = 9 ∨ f = 10 ∨ f = 11 ∨ f = 12 ∨ f = 13 := by omega
  rcases hv with rfl | rfl | rfl | rfl | rfl | rfl | rfl | rfl | rfl | rfl | rfl | rfl | rfl
  · exact plain_1 d h a n c w
  · exact plain_2 d h a n c h1 w
  · exact plain_3 d h a n c w
  · exact plain_4 d h a n c w
  · exact plain_5 d h a n c w
  · exact plain_6 d h a n c w
  · exact plain_7 d h a n c w
  · exact plain_8 d h a n c w
  · exact plain_9 d h a n c w
  · exact plain_10 d h a n c w
  · exact plain_11 d h a n c w
  · exact plain_12 d h a n c w
  · exact plain_13 d h a n c w

end Go.Proofs.YthnaanjhmehgcaaGreatDoor
