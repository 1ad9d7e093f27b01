/-
  THE DOCUMENT's LAST VALUE OF A KEY, ITS LAYING OF PAIRS, AND THE BYTES OF PAIRS. Conditions: how many pairs there are, and how many bytes they have.
-/
import Derived.Test.YtlehomcodkbpmaaGreatDoorRlp
import Derived.Test.YtlehomcodkbpmaaGreatDoorDel
import Derived.Test.YtlehomcodkbpmaaGreatDoorFwb
import Derived.Test.YtlehomcodkbpmaaGreatDoorOpl
import Derived.Test.YtlehomcodkbpmaaGreatDoorSmp
import Derived.Deep.CutBlock
import Derived.Deep.DeepCutAuto
import Derived.Laws.AppendOwnNone
namespace Go.Proofs.YtlehomcodkbpmaaGreatDoor
open Go.ChangeShapes Go.WideShapes Go.ChangeAt Go.RowKit Go.Lib
set_option linter.unusedVariables false
set_option linter.unusedSimpArgs false
set_option maxRecDepth 20000

def lastV (o : Option ByteArray) : ByteArray := match o with | some v => v | none => ⟨#[]⟩
def lastB (o : Option ByteArray) : Bool := match o with | some v => decide (v.size ≠ 0) | none => false

theorem last_take_succ (l : PL) (i : Nat) (p : ByteArray × ByteArray) (h : l[i]? = some p) (k : ByteArray) : lastK (l.take (i + 1)) k = if p.1 = k then some p.2 else lastK (l.take i) k := by
  have key : ∀ (a : PL), lastK (a ++ [p]) k = if p.1 = k then some p.2 else lastK a k := by
    intro a
    induction a with
    | nil =>
      show (match lastK [] k with | some v => some v | none => if p.1 = k then some p.2 else none) = _
      rfl
    | cons q t ih =>
      rw [List.cons_append, lastK, ih, lastK]
      by_cases e : p.1 = k
      · rw [if_pos e, if_pos e]
      · rw [if_neg e, if_neg e]
  rw [List.take_add_one, h]
  exact key _

set_option maxHeartbeats 4000000 in
theorem rlast_ok {w : World} {a : Option Addr} {n c : Nat} {l : PL} (h : Pys w a n c l) (hn : n ≤ 1000000) (key : ByteArray) :
    Calls Tryz.prog 63 #[.slice a n c, .string key] w fun e w' => e = .returned (.tuple #[.string (lastV (lastK l key)), .bool (lastB (lastK l key))]) ∧ Below w.heap.size w w' := by
  have hm1 := h.2.1
  have hm2 := h.2.2.1
  obtain ⟨q, hq⟩ : ∃ q, q = lastK l key := ⟨_, rfl⟩
  rw [← hq]
  have hl := hid h.1
  have hq0 := hid (by rw [hq, List.take_of_length_le (by rw [h.1]; exact Nat.le_refl _)] : q = lastK (l.take n) key)
  clear hq
  go_enter Tryz.func63, Tryz.ntmps63
  go_wp2
  go_loopw [6] (fun x wr => ∃ k : Nat, x = .int .i64 ((k : Int) - 1) ∧ k ≤ n ∧ wr = w ∧ Hid (q = lastK (l.take k) key)) (fun x _ => ((RowKit.intOf x) + 1).toNat)
  case atStart => exact ⟨n, by go_num, Nat.le_refl _, rfl, hq0⟩
  case round =>
    obtain ⟨k, rfl, hk, hw0, hr⟩ := hrel
    obtain rfl := hw0.symm
    cases k with
    | zero =>
      have E : q = none := by rw [hr.out]; rfl
      subst E
      clear hr hq0
      go_wp2
      all_goals go_ret2
      all_goals exact ⟨rfl, Below.refl _ _⟩
    | succ k =>
      obtain ⟨b, off, rfl, hc⟩ := h.some_of (by omega)
      obtain ⟨ky, vl, hmem, hd, c0, c1⟩ := hc.at k (by rw [hl.out]; omega)
      have hkE : ((k + 1 : Nat) : Int) - 1 = (k : Int) := by omega
      have hkI : (k : Int) < (n : Int) := by omega
      have hls := last_take_succ l k (ky, vl) (drop_getp hd.out) key
      simp only at hls
      by_cases he : ky = key
      · have E : q = some vl := by rw [hr.out, hls, if_pos he]
        have hee : (ky.toList == key.toList) = true := by rw [he]; simp
        subst E
        clear hr hd hmem he hq0 hls
        by_cases hv : vl.size = 0
        · have hvz : vl.toList.isEmpty = true := by rw [is_nil vl, decide_eq_true (by rw [← List.length_eq_zero_iff, bs_len]; exact hv)]
          have hlb : Hid (lastB (some vl) = false) := hid (decide_eq_false (fun h => h hv))
          clear hv
          rw [hkE]
          go_wp2
          go_region
          all_goals go_wp2
          all_goals go_ret2
          all_goals exact ⟨by rw [hlb.out]; rfl, (Below.refl _ _).drew⟩
        · have hvz : vl.toList.isEmpty = false := by rw [is_nil vl, decide_eq_false (by rw [← List.length_eq_zero_iff, bs_len]; exact hv)]
          have hlb : Hid (lastB (some vl) = true) := hid (decide_eq_true hv)
          clear hv
          rw [hkE]
          go_wp2
          go_region
          all_goals go_wp2
          all_goals go_ret2
          all_goals exact ⟨by rw [hlb.out]; rfl, (Below.refl _ _).drew⟩
      · have E := hid (by rw [hr.out, hls, if_neg he] : q = lastK (l.take k) key)
        have hee : (ky.toList == key.toList) = false := by
          cases hh : (ky.toList == key.toList)
          · rfl
          · exact absurd (str_beq.1 hh) he
        clear hr hd hmem he hls
        rw [hkE]
        go_wp2
        go_roundw
        case rel => exact ⟨k, by go_num, by omega, by first | rfl | trivial, E⟩
        case measure => (simp [RowKit.intOf]) <;> omega

end Go.Proofs.YtlehomcodkbpmaaGreatDoor
