/-
  A KEY'S VALUE AMONG PAIRS (over.Get). Conditions: none.
-/
import Derived.Test.YtkocnbdakfhpaaaDoorOpl
import Derived.Test.YtkocnbdakfhpaaaDoorSmp
namespace Go.Proofs.YtkocnbdakfhpaaaDoor
open Go.ChangeShapes Go.WideShapes Go.ChangeAt Go.RowKit Go.Lib
set_option linter.unusedVariables false
set_option linter.unusedSimpArgs false
set_option maxRecDepth 20000

def getV (o : Option ByteArray) : ByteArray := match o with | some v => v | none => ⟨#[]⟩

set_option maxHeartbeats 4000000 in
theorem oget_ok {w : World} {a : Option Addr} {n c : Nat} {l : PL} (h : Pys w a n c l) (key : ByteArray) :
    Calls Tryd.prog 18 #[.slice a n c, .string key] w fun e w' => e = .returned (.tuple #[.string (getV (getK l key)), .bool (getK l key).isSome]) ∧ Below w.heap.size w w' := by
  have hm1 := h.2.1
  have hm2 := h.2.2.1
  obtain ⟨q, hq⟩ : ∃ q, q = getK l key := ⟨_, rfl⟩
  rw [← hq]
  have hl := hid h.1
  replace hq := hid hq
  go_enter Tryd.func18, Tryd.ntmps18
  go_wp2
  go_loopw [10] (fun x wr => ∃ k : Nat, x = .int .i64 k ∧ k ≤ n ∧ Below w.heap.size w wr ∧ Hid (q = getK (l.drop k) key)) (fun x _ => n - (RowKit.intOf x).toNat)
  case atStart => exact ⟨0, rfl, by omega, Below.refl _ _, hid hq.out⟩
  case round =>
    obtain ⟨k, rfl, hk, hb, hr⟩ := hrel
    by_cases hlt : k < n
    · obtain ⟨b, off, rfl, hc⟩ := h.some_of (by omega)
      obtain ⟨ky, vl, hmem, hd, c0, c1⟩ := (hc.below hb).at k (by rw [hl.out]; exact hlt)
      have hkI : (k : Int) < (n : Int) := by omega
      have hbn := hb.alloc hb.size (.cells #[.string ky, .string vl] 37)
      by_cases he : ky = key
      · have E : q = some vl := by rw [hr.out, hd.out, getK, if_pos he]
        have hee : (ky.toList == key.toList) = true := by rw [he]; simp
        subst E
        clear hr hd hmem he hq
        go_wp2
        all_goals go_ret2
        all_goals exact ⟨rfl, hbn⟩
      · have E := hid (by rw [hr.out, hd.out, getK, if_neg he] : q = getK (l.drop (k + 1)) key)
        have hee : (ky.toList == key.toList) = false := by
          cases hh : (ky.toList == key.toList)
          · rfl
          · exact absurd (str_beq.1 hh) he
        clear hr hd hmem he
        go_wp2
        go_roundw
        case rel => exact ⟨k + 1, by go_num, by omega, hbn, E⟩
        case measure => simp [RowKit.intOf]; omega
    · obtain rfl : k = n := by omega
      have E : q = none := by rw [hr.out, List.drop_eq_nil_iff.mpr (by rw [hl.out]; exact Nat.le_refl _)]; rfl
      have hkI : ¬ (k : Int) < (k : Int) := by omega
      subst E
      clear hr hq
      go_wp2
      all_goals go_ret2
      all_goals exact ⟨rfl, hb⟩

end Go.Proofs.YtkocnbdakfhpaaaDoor
