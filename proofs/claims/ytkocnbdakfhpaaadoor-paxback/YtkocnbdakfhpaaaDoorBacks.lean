/-
  THE WALK OF PaxBack: it answers true at all pairs and bytes. Conditions: a text has no more bytes than a machine reaches; what the listed variables hold.
-/
import Derived.Test.YtkocnbdakfhpaaaDoorFwb
import Derived.Test.YtkocnbdakfhpaaaDoorLive
import Derived.Test.YtkocnbdakfhpaaaDoorBak
import Derived.Test.YtkocnbdakfhpaaaDoorSmp
namespace Go.Proofs.YtkocnbdakfhpaaaDoor
open Go.ChangeShapes Go.WideShapes Go.ChangeAt Go.RowKit Go.Lib
set_option linter.unusedVariables false
set_option linter.unusedSimpArgs false
set_option maxRecDepth 20000

theorem lenS_le : ∀ l : List (ByteArray × ByteArray), Sml l → lenS l ≤ totN l + 23 * l.length
  | [], _ => by simp [lenS]
  | (k, v) :: t, h => by
    obtain ⟨h1, h2⟩ := h (k, v) (List.mem_cons_self ..)
    simp only at h1 h2
    have ih := lenS_le t h.tail
    have := lenN_le (restN k v) (by unfold restN; omega)
    rw [lenS, totN, List.length_cons]
    simp only
    unfold restN at this ⊢
    omega
theorem lenS_drop (l : List (ByteArray × ByteArray)) (i : Nat) (k v : ByteArray) (h : l.drop i = (k, v) :: l.drop (i + 1)) : lenS (l.drop i) = lenN (restN k v) + lenS (l.drop (i + 1)) := by rw [h, lenS]

set_option maxHeartbeats 16000000 in
theorem back_walk {w : World} {a : Option Addr} {n c : Nat} {l : List (ByteArray × ByteArray)} (hP : Pys w a n c l) (hz : ∀ q ∈ l, q.1.size ≤ 140737488351232 ∧ q.2.size ≤ 140737488351232)
    {a' : Option Addr} {n' c' : Nat} {b : List Int} (hB : Bys w a' n' c' b) (hL : Laid w) :
    Calls Tryd.prog 4 #[.slice a n c, .slice a' n' c'] w fun e w' => e = .returned (.bool true) ∧ Below w.heap.size w w' := by
  have hal := alive_ok w hL
  have hfw := fun w' (hb : Below w.heap.size w w') => few_all (hP.below hb) hz
  have hbc := hB.2.1
  have hbm := hB.2.2.1
  have hpc := hP.2.1
  have hpm := hP.2.2.1
  by_cases hf : n ≤ 50 ∧ totN l ≤ 3000
  · rw [decide_eq_true hf] at hfw
    by_cases hn : n' ≤ 3000
    · have hnI : ¬ (3000 : Int) < (n' : Int) := by omega
      have hlen := hP.1
      have hF := few_of (l := l) (by omega) hf.2
      have hS : Sml l := hF.2
      have hpr := fun w' (hb : Below w.heap.size w w') => print_ok (hP.below hb) hF (hL.below hb)
      have hPb := fun w' (hb : Below w.heap.size w w') => parse_w (hB.below hb) (by omega) (hL.below hb)
      have hrng := hB.2.2.2.1
      have hbl := hB.1
      cases hq : prn l [] with
      | none =>
        have t1 : prnC (prn l []) = 15 := by rw [hq]; rfl
        rw [t1] at hpr
        clear t1 hq hF hS
        cases hb : prs b with
        | none =>
          have t1 : prsC (prs b) = 6 := by rw [hb]; rfl
          have t2 : prsP (prs b) = [] := by rw [hb]; rfl
          rw [t1, t2] at hPb
          clear t1 t2 hb
          clear hrng
          go_enter Tryd.func4, Tryd.ntmps4
          go_wp2_with
          (first
            | (go_at_call 6; refine hal.mono ?_; rintro e w1 ⟨rfl, hacc⟩; clear hal)
            | (go_at_call 10; refine (hfw _ hacc).mono ?_; rintro e w2 ⟨rfl, hb2⟩; replace hacc := hacc.trans (hb2.mono hacc.size); clear hfw hb2)
            | (go_at_call 11; refine (hpr _ hacc).mono ?_; rintro e w3 ⟨a3, n3, c3, rfl, hy3, hb3⟩; replace hacc := hacc.trans (hb3.mono hacc.size); clear hpr hb3)
            | (go_at_call 7; refine (hPb _ hacc).mono ?_; rintro e w5 ⟨a5, n5, c5, rfl, hp5, hb5⟩; replace hacc := hacc.trans (hb5.mono hacc.size); clear hPb hb5))
          all_goals go_ret
          all_goals exact ⟨rfl, hacc⟩
        | some m =>
          obtain ⟨hFm, hpm1, hlm, hsm⟩ := parsed_back hrng (by omega) hb
          have t1 : prsC (prs b) = 0 := by rw [hb]; rfl
          have t2 : prsP (prs b) = m := by rw [hb]; rfl
          rw [t1, t2] at hPb
          have hPm := fun (w' : World) (a n c) (h : Pys w' a n c m) (hl : Laid w') => print_ok h hFm hl
          have t3 : prnC (prn m []) = 0 := by rw [hpm1]; rfl
          have t4 : prnL (prn m []) = prB m := by rw [hpm1]; rfl
          rw [t3, t4] at hPm
          have hPc := fun (w' : World) (a n c) (h : Bys w' a n c (prB m)) (hl : Laid w') => parse_w h (by have := h.1; omega) hl
          have t5 : prsC (prs (prB m)) = 0 := by rw [hsm]; rfl
          have t6 : prsP (prs (prB m)) = m := by rw [hsm]; rfl
          rw [t5, t6] at hPc
          generalize prB m = cm at *
          clear t1 t2 t3 t4 t5 t6 hb hsm hpm1 hFm
          clear hrng
          go_enter Tryd.func4, Tryd.ntmps4
          go_wp2_with
          (first
            | (go_at_call 6; refine hal.mono ?_; rintro e w1 ⟨rfl, hacc⟩; clear hal)
            | (go_at_call 10; refine (hfw _ hacc).mono ?_; rintro e w2 ⟨rfl, hb2⟩; replace hacc := hacc.trans (hb2.mono hacc.size); clear hfw hb2)
            | (go_at_call 11; refine (hpr _ hacc).mono ?_; rintro e w3 ⟨a3, n3, c3, rfl, hy3, hb3⟩; replace hacc := hacc.trans (hb3.mono hacc.size); clear hpr hb3)
            | (go_at_call 7; refine (hPb _ hacc).mono ?_; rintro e w5 ⟨a5, n5, c5, rfl, hp5, hb5⟩; replace hacc := hacc.trans (hb5.mono hacc.size); clear hPb hb5)
            | (go_at_call 11; refine (hPm _ _ _ _ hp5 (hL.below hacc)).mono ?_; rintro e w6 ⟨a6, n6, c6, rfl, hy6, hb6⟩; replace hp5 := hp5.below hb6; replace hacc := hacc.trans (hb6.mono hacc.size); clear hPm hb6; have hle6 : ((n6 : Nat) : Int) ≤ (n' : Int) := by (have := hy6.1; omega))
            | (go_at_call 7; refine (hPc _ _ _ _ hy6 (hL.below hacc)).mono ?_; rintro e w7 ⟨a7, n7, c7, rfl, hp7, hb7⟩; replace hp5 := hp5.below hb7; replace hacc := hacc.trans (hb7.mono hacc.size); clear hPc hb7)
            | (go_at_call 9; refine (same_ok hp5 hp7).mono ?_; rintro e w8 ⟨rfl, hb8⟩; replace hacc := hacc.trans (hb8.mono hacc.size)))
          all_goals go_ret
          all_goals exact ⟨rfl, hacc⟩
      | some cc =>
        have t1 : prnC (prn l []) = 0 := by rw [hq]; rfl
        have t2 : prnL (prn l []) = cc := by rw [hq]; rfl
        rw [t1, t2] at hpr
        obtain ⟨hcl, hcs⟩ := printed_back hS hq
        have hcz := lenS_le l hS
        obtain ⟨T, hT⟩ : ∃ T, T = lenS l := ⟨_, rfl⟩
        rw [← hT] at hcl hcz
        have hT5 : T ≤ 4200 := by omega
        have hPq := fun (w' : World) (a n c) (h : Bys w' a n c cc) (hl : Laid w') => parse_w h (by have := h.1; omega) hl
        have t5 : prsC (prs cc) = 0 := by rw [hcs]; rfl
        have t6 : prsP (prs cc) = l := by rw [hcs]; rfl
        rw [t5, t6] at hPq
        clear t1 t2 t5 t6 hcs hcz hq
        replace hT := hid hT
        have hlen' := hid hlen
        have hS' := hid hS
        clear hlen hS hF
        cases hb : prs b with
        | none =>
          have t1 : prsC (prs b) = 6 := by rw [hb]; rfl
          have t2 : prsP (prs b) = [] := by rw [hb]; rfl
          rw [t1, t2] at hPb
          clear t1 t2 hb
          clear hrng
          go_enter Tryd.func4, Tryd.ntmps4
          go_wp2_with
          (first
            | (go_at_call 6; refine hal.mono ?_; rintro e w1 ⟨rfl, hacc⟩; clear hal)
            | (go_at_call 10; refine (hfw _ hacc).mono ?_; rintro e w2 ⟨rfl, hb2⟩; replace hacc := hacc.trans (hb2.mono hacc.size); clear hfw hb2)
            | (go_at_call 11; refine (hpr _ hacc).mono ?_; rintro e w3 ⟨a3, n3, c3, rfl, hy3, hb3⟩; replace hacc := hacc.trans (hb3.mono hacc.size); clear hpr hb3))
          have hn3 : Hid (n3 = T) := hid (by have := hy3.1; omega)
          go_loopw [7, 8] (fun y x wr => ∃ (s k : Nat), y = .int .i64 s ∧ x = .int .i64 k ∧ k ≤ n ∧ s ≤ T ∧ Below w3.heap.size w3 wr ∧ Hid (s + lenS (l.drop k) = T)) (fun _ x _ => n - (RowKit.intOf x).toNat)
          case atStart => exact ⟨0, 0, rfl, rfl, by omega, by omega, Below.refl _ _, hid (by rw [hT.out]; simp)⟩
          case round =>
            obtain ⟨s, k, rfl, rfl, hk, hs, hb, hr⟩ := hrel
            have hacc' := hacc.trans (hb.mono hacc.size)
            by_cases hlt : k < n
            · obtain ⟨b1, o1, rfl, hc1⟩ := hP.some_of (by omega)
              obtain ⟨ky, vl, hmem, hd, x0, x1⟩ := (hc1.below hacc').at k (by rw [hlen'.out]; exact hlt)
              obtain ⟨z1, z2⟩ := hS'.out _ hmem
              simp only at z1 z2
              have hkI : (k : Int) < (n : Int) := by omega
              have E := hid (by have := hr.out; rw [lenS_drop l k ky vl hd.out] at this; omega : s + lenN (restN ky vl) + lenS (l.drop (k + 1)) = T)
              have hs2 : s + lenN (restN ky vl) ≤ T := by have := E.out; omega
              have hln := len_ok ky vl (by omega) (by omega) wr (hL.below hacc')
              clear hr hd hmem
              generalize lenN (restN ky vl) = q at *
              go_wp2_with (go_at_call 12; refine hln.mono ?_; rintro e w4 ⟨rfl, hb4⟩)
              go_roundw
              case rel => exact ⟨s + q, k + 1, by go_num, by go_num, by omega, by omega, hb.trans (hb4.mono hb.size), E⟩
              case measure => simp [RowKit.intOf]; omega
            · obtain rfl : k = n := by omega
              have hsT : s = T := by have := hr.out; rw [List.drop_eq_nil_iff.mpr (by rw [hlen'.out]; exact Nat.le_refl _), lenS] at this; omega
              subst hsT
              obtain rfl := hn3.out
              clear hn3
              have hkI : ¬ (k : Int) < (k : Int) := by omega
              have hP0 := hP.below hacc'
              replace hy3 := hy3.below hb
              replace hacc := hacc'
              clear hr hT hb
              go_wp2_with (first
                | (go_at_call 7; refine (hPq _ _ _ _ hy3 (hL.below hacc)).mono ?_; rintro e w9 ⟨a9, n9, c9, rfl, hp9, hb9⟩; replace hP0 := hP0.below hb9; replace hacc := hacc.trans (hb9.mono hacc.size); clear hPq hb9)
                | (go_at_call 9; refine (same_ok hP0 hp9).mono ?_; rintro e w10 ⟨rfl, hb10⟩; replace hacc := hacc.trans (hb10.mono hacc.size); clear hP0 hp9)
                | (go_at_call 7; refine (hPb _ hacc).mono ?_; rintro e w5 ⟨a5, n5, c5, rfl, hp5, hb5⟩; replace hacc := hacc.trans (hb5.mono hacc.size); clear hPb hb5))
              all_goals go_ret
              all_goals exact ⟨rfl, hacc⟩
        | some m =>
          obtain ⟨hFm, hpm1, hlm, hsm⟩ := parsed_back hrng (by omega) hb
          have t1 : prsC (prs b) = 0 := by rw [hb]; rfl
          have t2 : prsP (prs b) = m := by rw [hb]; rfl
          rw [t1, t2] at hPb
          have hPm := fun (w' : World) (a n c) (h : Pys w' a n c m) (hl : Laid w') => print_ok h hFm hl
          have t3 : prnC (prn m []) = 0 := by rw [hpm1]; rfl
          have t4 : prnL (prn m []) = prB m := by rw [hpm1]; rfl
          rw [t3, t4] at hPm
          have hPc := fun (w' : World) (a n c) (h : Bys w' a n c (prB m)) (hl : Laid w') => parse_w h (by have := h.1; omega) hl
          have t5 : prsC (prs (prB m)) = 0 := by rw [hsm]; rfl
          have t6 : prsP (prs (prB m)) = m := by rw [hsm]; rfl
          rw [t5, t6] at hPc
          generalize prB m = cm at *
          clear t1 t2 t3 t4 t5 t6 hb hsm hpm1 hFm
          clear hrng
          go_enter Tryd.func4, Tryd.ntmps4
          go_wp2_with
          (first
            | (go_at_call 6; refine hal.mono ?_; rintro e w1 ⟨rfl, hacc⟩; clear hal)
            | (go_at_call 10; refine (hfw _ hacc).mono ?_; rintro e w2 ⟨rfl, hb2⟩; replace hacc := hacc.trans (hb2.mono hacc.size); clear hfw hb2)
            | (go_at_call 11; refine (hpr _ hacc).mono ?_; rintro e w3 ⟨a3, n3, c3, rfl, hy3, hb3⟩; replace hacc := hacc.trans (hb3.mono hacc.size); clear hpr hb3))
          have hn3 : Hid (n3 = T) := hid (by have := hy3.1; omega)
          go_loopw [7, 8] (fun y x wr => ∃ (s k : Nat), y = .int .i64 s ∧ x = .int .i64 k ∧ k ≤ n ∧ s ≤ T ∧ Below w3.heap.size w3 wr ∧ Hid (s + lenS (l.drop k) = T)) (fun _ x _ => n - (RowKit.intOf x).toNat)
          case atStart => exact ⟨0, 0, rfl, rfl, by omega, by omega, Below.refl _ _, hid (by rw [hT.out]; simp)⟩
          case round =>
            obtain ⟨s, k, rfl, rfl, hk, hs, hb, hr⟩ := hrel
            have hacc' := hacc.trans (hb.mono hacc.size)
            by_cases hlt : k < n
            · obtain ⟨b1, o1, rfl, hc1⟩ := hP.some_of (by omega)
              obtain ⟨ky, vl, hmem, hd, x0, x1⟩ := (hc1.below hacc').at k (by rw [hlen'.out]; exact hlt)
              obtain ⟨z1, z2⟩ := hS'.out _ hmem
              simp only at z1 z2
              have hkI : (k : Int) < (n : Int) := by omega
              have E := hid (by have := hr.out; rw [lenS_drop l k ky vl hd.out] at this; omega : s + lenN (restN ky vl) + lenS (l.drop (k + 1)) = T)
              have hs2 : s + lenN (restN ky vl) ≤ T := by have := E.out; omega
              have hln := len_ok ky vl (by omega) (by omega) wr (hL.below hacc')
              clear hr hd hmem
              generalize lenN (restN ky vl) = q at *
              go_wp2_with (go_at_call 12; refine hln.mono ?_; rintro e w4 ⟨rfl, hb4⟩)
              go_roundw
              case rel => exact ⟨s + q, k + 1, by go_num, by go_num, by omega, by omega, hb.trans (hb4.mono hb.size), E⟩
              case measure => simp [RowKit.intOf]; omega
            · obtain rfl : k = n := by omega
              have hsT : s = T := by have := hr.out; rw [List.drop_eq_nil_iff.mpr (by rw [hlen'.out]; exact Nat.le_refl _), lenS] at this; omega
              subst hsT
              obtain rfl := hn3.out
              clear hn3
              have hkI : ¬ (k : Int) < (k : Int) := by omega
              have hP0 := hP.below hacc'
              replace hy3 := hy3.below hb
              replace hacc := hacc'
              clear hr hT hb
              go_wp2_with (first
                | (go_at_call 7; refine (hPq _ _ _ _ hy3 (hL.below hacc)).mono ?_; rintro e w9 ⟨a9, n9, c9, rfl, hp9, hb9⟩; replace hP0 := hP0.below hb9; replace hacc := hacc.trans (hb9.mono hacc.size); clear hPq hb9)
                | (go_at_call 9; refine (same_ok hP0 hp9).mono ?_; rintro e w10 ⟨rfl, hb10⟩; replace hacc := hacc.trans (hb10.mono hacc.size); clear hP0 hp9)
                | (go_at_call 7; refine (hPb _ hacc).mono ?_; rintro e w5 ⟨a5, n5, c5, rfl, hp5, hb5⟩; replace hacc := hacc.trans (hb5.mono hacc.size); clear hPb hb5)
                | (go_at_call 11; refine (hPm _ _ _ _ hp5 (hL.below hacc)).mono ?_; rintro e w6 ⟨a6, n6, c6, rfl, hy6, hb6⟩; replace hp5 := hp5.below hb6; replace hacc := hacc.trans (hb6.mono hacc.size); clear hPm hb6; have hle6 : ((n6 : Nat) : Int) ≤ (n' : Int) := by (have := hy6.1; omega))
                | (go_at_call 7; refine (hPc _ _ _ _ hy6 (hL.below hacc)).mono ?_; rintro e w7 ⟨a7, n7, c7, rfl, hp7, hb7⟩; replace hp5 := hp5.below hb7; replace hacc := hacc.trans (hb7.mono hacc.size); clear hPc hb7)
                | (go_at_call 9; refine (same_ok hp5 hp7).mono ?_; rintro e w8 ⟨rfl, hb8⟩; replace hacc := hacc.trans (hb8.mono hacc.size)))
              all_goals go_ret
              all_goals exact ⟨rfl, hacc⟩
    · have hnI : (3000 : Int) < (n' : Int) := by omega
      go_enter Tryd.func4, Tryd.ntmps4
      go_wp2_with (first
          | (go_at_call 6; refine hal.mono ?_; rintro e w1 ⟨rfl, hacc⟩; clear hal)
          | (go_at_call 10; refine (hfw _ hacc).mono ?_; rintro e w2 ⟨rfl, hb2⟩; replace hacc := hacc.trans (hb2.mono hacc.size); clear hfw hb2))
      all_goals go_ret
      all_goals exact ⟨rfl, hacc⟩
  · rw [decide_eq_false hf] at hfw
    go_enter Tryd.func4, Tryd.ntmps4
    go_wp2_with (first
        | (go_at_call 6; refine hal.mono ?_; rintro e w1 ⟨rfl, hacc⟩; clear hal)
        | (go_at_call 10; refine (hfw _ hacc).mono ?_; rintro e w2 ⟨rfl, hb2⟩; replace hacc := hacc.trans (hb2.mono hacc.size); clear hfw hb2))
    all_goals go_ret
    all_goals exact ⟨rfl, hacc⟩

end Go.Proofs.YtkocnbdakfhpaaaDoor
