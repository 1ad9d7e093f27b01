/-
  THE WALK OF PaxPrints: it answers true at all pairs. Conditions: a text has no more bytes than a machine reaches; what the listed variables hold.
-/
import Derived.Test.YtkocnbdakfhpaaaGreatDoorFwb
import Derived.Test.YtkocnbdakfhpaaaGreatDoorLive
import Derived.Test.YtkocnbdakfhpaaaGreatDoorRrg
import Derived.Test.YtkocnbdakfhpaaaGreatDoorRpn
import Derived.Test.YtkocnbdakfhpaaaGreatDoorSmp
namespace Go.Proofs.YtkocnbdakfhpaaaGreatDoor
open Go.ChangeShapes Go.WideShapes Go.ChangeAt Go.RowKit Go.Lib
set_option linter.unusedVariables false
set_option linter.unusedSimpArgs false
set_option maxRecDepth 20000

set_option maxHeartbeats 1000000 in
theorem bsame_walk {w : World} {a a' : Option Addr} {n c n' c' : Nat} {l : List Int} (h : Bys w a n c l) (h' : Bys w a' n' c' l) : Calls Tryz.prog 16 #[.slice a n c, .slice a' n' c'] w fun e w' => w' = w ∧ e = .returned (.bool true) := by
  have h1 := bys_string (P := Tryz.prog) Tryz.underlying31 Tryz.underlying5 Tryz.underlying9 h
  have h2 := bys_string (P := Tryz.prog) Tryz.underlying31 Tryz.underlying5 Tryz.underlying9 h'
  go_enter Tryz.func16, Tryz.ntmps16
  go_wp2
  go_ret
  exact ⟨rfl, rfl⟩

theorem prn_none (l : List (ByteArray × ByteArray)) (h : ¬ Rgt l) : prn l [] = none := by
  cases hq : prn l [] with
  | none => rfl
  | some c => exact absurd (prn_right l [] c hq) h

set_option maxHeartbeats 16000000 in
theorem prints_walk {w : World} {a : Option Addr} {n c : Nat} {l : List (ByteArray × ByteArray)} (hP : Pys w a n c l) (hz : ∀ q ∈ l, q.1.size ≤ 140737488351232 ∧ q.2.size ≤ 140737488351232) (hL : Laid w) :
    Calls Tryz.prog 4 #[.slice a n c] w fun e w' => e = .returned (.bool true) ∧ Below w.heap.size w w' := by
  have hal := alive_ok w hL
  have hfw := fun w' (hb : Below w.heap.size w w') => few_all (hP.below hb) hz
  have hpc := hP.2.1
  have hpm := hP.2.2.1
  by_cases hf : n ≤ 50 ∧ totN l ≤ 3000
  · rw [decide_eq_true hf] at hfw
    have hlen := hP.1
    have hF := few_of (l := l) (by omega) hf.2
    have hpr := fun w' (hb : Below w.heap.size w w') => print_ok (hP.below hb) hF (hL.below hb)
    have hS' := hid hF.2
    have hlen' := hid hlen
    by_cases hR : Rgt l
    · have hq := prn_some l [] hR
      have t1 : prnC (prn l []) = 0 := by rw [hq]; rfl
      have t2 : prnL (prn l []) = prB l := by rw [hq]; simp [prnL]
      rw [t1, t2] at hpr
      have hrp := fun w' (hb : Below w.heap.size w w') => rprint_ok (hP.below hb) hF
      replace hR := hid hR
      clear t1 t2 hq hF hlen
      go_enter Tryz.func4, Tryz.ntmps4
      go_wp2_with (first
        | (go_at_call 7; refine hal.mono ?_; rintro e w1 ⟨rfl, hacc⟩; clear hal)
        | (go_at_call 8; refine (hfw _ hacc).mono ?_; rintro e w2 ⟨rfl, hb2⟩; replace hacc := hacc.trans (hb2.mono hacc.size); clear hfw hb2)
        | (go_at_call 15; refine (hpr _ hacc).mono ?_; rintro e w3 ⟨a3, n3, c3, rfl, hy3, hb3⟩; replace hacc := hacc.trans (hb3.mono hacc.size); clear hpr hb3))
      go_loopw [5] (fun x wr => ∃ k : Nat, x = .int .i64 k ∧ k ≤ n ∧ Below w3.heap.size w3 wr) (fun x _ => n - (RowKit.intOf x).toNat)
      case atStart => exact ⟨0, rfl, by omega, Below.refl _ _⟩
      case round =>
        obtain ⟨k, rfl, hk, hb⟩ := hrel
        have hacc' := hacc.trans (hb.mono hacc.size)
        by_cases hlt : k < n
        · obtain ⟨b1, o1, rfl, hc1⟩ := hP.some_of (by omega)
          obtain ⟨ky, vl, hmem, hd, x0, x1⟩ := (hc1.below hacc').at k (by rw [hlen'.out]; exact hlt)
          obtain ⟨z1, z2⟩ := hS'.out _ hmem
          have hrt := hR.out _ hmem
          simp only at z1 z2 hrt
          have hkI : (k : Int) < (n : Int) := by omega
          have hln := rr_ok ky vl z1 z2 wr
          rw [hrt] at hln
          clear hd hmem hrt
          go_wp2_with (go_at_call 10; refine hln.mono ?_; rintro e w4 ⟨rfl, hb4⟩)
          go_roundw
          case rel => exact ⟨k + 1, by go_num, by omega, hb.trans (hb4.mono hb.size)⟩
          case measure => simp [RowKit.intOf]; omega
        · obtain rfl : k = n := by omega
          have hkI : ¬ (k : Int) < (k : Int) := by omega
          replace hy3 := hy3.below hb
          replace hacc := hacc'
          clear hb
          go_wp2_with (first
            | (go_at_call 17; refine (hrp _ hacc).mono ?_; rintro e w5 ⟨a5, n5, c5, rfl, hy5, hb5⟩; replace hy3 := hy3.below hb5; replace hacc := hacc.trans (hb5.mono hacc.size); clear hrp hb5)
            | (go_at_call 16; refine (bsame_walk hy3 hy5).mono ?_; rintro e w6 ⟨hw6, rfl⟩; obtain rfl := hw6.symm))
          all_goals go_ret
          all_goals exact ⟨rfl, hacc⟩
    · have hq := prn_none l hR
      have t1 : prnC (prn l []) = 15 := by rw [hq]; rfl
      have t2 : prnL (prn l []) = [] := by rw [hq]; rfl
      rw [t1, t2] at hpr
      replace hR := hid hR
      clear t1 t2 hq hF hlen
      go_enter Tryz.func4, Tryz.ntmps4
      go_wp2_with (first
        | (go_at_call 7; refine hal.mono ?_; rintro e w1 ⟨rfl, hacc⟩; clear hal)
        | (go_at_call 8; refine (hfw _ hacc).mono ?_; rintro e w2 ⟨rfl, hb2⟩; replace hacc := hacc.trans (hb2.mono hacc.size); clear hfw hb2)
        | (go_at_call 15; refine (hpr _ hacc).mono ?_; rintro e w3 ⟨a3, n3, c3, rfl, hy3, hb3⟩; obtain rfl : n3 = 0 := hy3.1.symm; replace hacc := hacc.trans (hb3.mono hacc.size); clear hpr hb3))
      go_loopw [5] (fun x wr => ∃ k : Nat, x = .int .i64 k ∧ k ≤ n ∧ Below w3.heap.size w3 wr ∧ Hid (¬ Rgt (l.drop k))) (fun x _ => n - (RowKit.intOf x).toNat)
      case atStart => exact ⟨0, rfl, by omega, Below.refl _ _, hid (by simpa using hR.out)⟩
      case round =>
        obtain ⟨k, rfl, hk, hb, hr⟩ := hrel
        have hacc' := hacc.trans (hb.mono hacc.size)
        by_cases hlt : k < n
        · obtain ⟨b1, o1, rfl, hc1⟩ := hP.some_of (by omega)
          obtain ⟨ky, vl, hmem, hd, x0, x1⟩ := (hc1.below hacc').at k (by rw [hlen'.out]; exact hlt)
          obtain ⟨z1, z2⟩ := hS'.out _ hmem
          simp only at z1 z2
          have hkI : (k : Int) < (n : Int) := by omega
          have hln := rr_ok ky vl z1 z2 wr
          cases hrt : rightP (bs ky) (bs vl)
          · rw [hrt] at hln
            clear hd hmem hrt hr
            go_wp2_with (go_at_call 10; refine hln.mono ?_; rintro e w4 ⟨rfl, hb4⟩)
            all_goals go_ret
            all_goals exact ⟨rfl, hacc'.trans (hb4.mono hacc'.size)⟩
          · have E := hid (show ¬ Rgt (l.drop (k + 1)) from fun hh => hr.out (by
              rw [hd.out]
              intro p hp
              rcases List.mem_cons.1 hp with rfl | hp
              · exact hrt
              · exact hh p hp))
            rw [hrt] at hln
            clear hd hmem hrt hr
            go_wp2_with (go_at_call 10; refine hln.mono ?_; rintro e w4 ⟨rfl, hb4⟩)
            go_roundw
            case rel => exact ⟨k + 1, by go_num, by omega, hb.trans (hb4.mono hb.size), E⟩
            case measure => simp [RowKit.intOf]; omega
        · exfalso
          obtain rfl : k = n := by omega
          refine hr.out ?_
          rw [List.drop_eq_nil_iff.mpr (by rw [hlen'.out]; exact Nat.le_refl _)]
          intro p hp
          exact absurd hp (by simp)
  · rw [decide_eq_false hf] at hfw
    go_enter Tryz.func4, Tryz.ntmps4
    go_wp2_with (first
        | (go_at_call 7; refine hal.mono ?_; rintro e w1 ⟨rfl, hacc⟩; clear hal)
        | (go_at_call 8; refine (hfw _ hacc).mono ?_; rintro e w2 ⟨rfl, hb2⟩; replace hacc := hacc.trans (hb2.mono hacc.size); clear hfw hb2))
    all_goals go_ret
    all_goals exact ⟨rfl, hacc⟩

end Go.Proofs.YtkocnbdakfhpaaaGreatDoor
