/-
  WHETHER BYTES ARE THE SAME: bytes.Equal, the document's Same; WHETHER PAIRS ARE: slices.Equal. No condition.
-/
import Derived.Test.YtbkgbnjiibhmhaaPbs
namespace Go.Proofs.Ytbkgbnjiibhmhaa
open Go.ChangeShapes Go.WideShapes Go.ChangeAt Go.RowKit Go.Lib
set_option linter.unusedVariables false
set_option linter.unusedSimpArgs false
set_option maxRecDepth 20000

set_option maxHeartbeats 4000000 in
theorem eqs_ok {w : World} {a1 a2 : Option Addr} {n1 c1 n2 c2 : Nat} {l1 l2 : List (ByteArray × ByteArray)} (h1 : Pys w a1 n1 c1 l1) (h2 : Pys w a2 n2 c2 l2) :
    Calls Try.prog 33 #[.slice a1 n1 c1, .slice a2 n2 c2] w fun e w' => e = .returned (.bool (decide (l1 = l2))) ∧ Below w.heap.size w w' := by
  have hm1 := h1.2.1
  have hm2 := h1.2.2.1
  have hm3 := h2.2.1
  have hm4 := h2.2.2.1
  by_cases hn : n1 = n2
  · subst hn
    have hI : ((n1 : Int) != (n1 : Int)) = false := by simp
    rcases Nat.eq_zero_or_pos n1 with e | e
    · have e1 : l1 = [] := by have := h1.1; rw [e] at this; simpa using this
      have e2 : l2 = [] := by have := h2.1; rw [e] at this; simpa using this
      subst e1 e2 e
      clear h1 h2
      go_enter Try.func33, Try.ntmps33
      go_wp2
      refine wp_loop_rounds 1 ?_
      rw [rounds_succ]
      go_wp2
      go_ret
      exact ⟨rfl, Below.refl _ _⟩
    · obtain ⟨b1, o1, rfl, hc1⟩ := h1.some_of e
      obtain ⟨b2, o2, rfl, hc2⟩ := h2.some_of e
      obtain ⟨q, hq⟩ : ∃ q, q = decide (l1 = l2) := ⟨_, rfl⟩
      rw [← hq]
      have hl1 := hid h1.1
      have hl2 := hid h2.1
      replace hq := hid hq
      clear h1 h2
      go_enter Try.func33, Try.ntmps33
      go_wp2
      go_loopw [13] (fun x wr => ∃ k : Nat, x = .int .i64 k ∧ k ≤ n1 ∧ Below w.heap.size w wr ∧ Hid (q = decide (l1.drop k = l2.drop k))) (fun x _ => n1 - (RowKit.intOf x).toNat)
      case atStart => exact ⟨0, rfl, by omega, Below.refl _ _, hid hq.out⟩
      case round =>
        obtain ⟨k, rfl, hk, hb, hr⟩ := hrel
        by_cases hlt : k < n1
        · obtain ⟨k1, v1, -, d1, x0, x1⟩ := (hc1.below hb).at k (by rw [hl1.out]; exact hlt)
          obtain ⟨k2, v2, -, d2, y0, y1⟩ := (hc2.below hb).at k (by rw [hl2.out]; exact hlt)
          have hkI : (k : Int) < (n1 : Int) := by omega
          have hcmp := fun w => pair_neq w k1 v1 k2 v2
          by_cases he : k1 = k2 ∧ v1 = v2
          · have E := hid (by rw [hr.out, d1.out, d2.out, he.1, he.2]; simp : q = decide (l1.drop (k + 1) = l2.drop (k + 1)))
            rw [decide_eq_true he] at hcmp
            clear hr d1 d2 he
            go_wp2
            go_region
            go_wp2
            go_roundw
            case rel => exact ⟨k + 1, by go_num, by omega, hb.drew, E⟩
            case measure => simp [RowKit.intOf]; omega
          · have E : q = false := by rw [hr.out, d1.out, d2.out, decide_eq_false (by simp; intro e1 e2; exact absurd ⟨e1, e2⟩ he)]
            rw [decide_eq_false he] at hcmp
            clear hr d1 d2 he
            go_wp2
            go_region
            go_wp2
            go_ret
            exact ⟨ret_bool (by rw [E]), hb.drew⟩
        · obtain rfl : k = n1 := by omega
          have E : q = true := by
            rw [hr.out, List.drop_eq_nil_iff.mpr (by rw [hl1.out]; exact Nat.le_refl _), List.drop_eq_nil_iff.mpr (by rw [hl2.out]; exact Nat.le_refl _)]; rfl
          clear hr
          go_wp2
          go_ret
          exact ⟨ret_bool (by rw [E]), hb⟩
  · have hne : l1 ≠ l2 := fun e => hn (by rw [← h1.1, ← h2.1, e])
    rw [decide_eq_false hne]
    have hI : ((n1 : Int) != (n2 : Int)) = true := by simp; omega
    clear h1 h2 hne hn
    go_enter Try.func33, Try.ntmps33
    go_wp2
    go_ret
    exact ⟨rfl, Below.refl _ _⟩

theorem strs_dec {w w' : World} {a a' : Option Addr} {n c n' c' : Nat} {l l' : List Int} (h : Bys w a n c l) (h' : Bys w' a' n' c' l') : ((strOfNums l).toList == (strOfNums l').toList) = decide (l = l') := by
  have str_d : ∀ x y : ByteArray, (x.toList == y.toList) = decide (x = y) := fun x y => by rw [Bool.eq_iff_iff, str_beq]; simp
  rw [str_d]
  by_cases e : l = l'
  · rw [e]; simp
  · rw [decide_eq_false e, decide_eq_false]
    intro h2
    apply e
    rw [← nums_str l h.2.2.2.1, h2, nums_str l' h'.2.2.2.1]

set_option maxHeartbeats 1000000 in
theorem beq_ok {w : World} {a a' : Option Addr} {n c n' c' : Nat} {l l' : List Int} (h : Bys w a n c l) (h' : Bys w a' n' c' l') : Calls Try.prog 25 #[.slice a n c, .slice a' n' c'] w fun e w' => w' = w ∧ e = .returned (.bool (decide (l = l'))) := by
  have h1 := bys_string (P := Try.prog) Try.underlying27 Try.underlying5 Try.underlying9 h
  have h2 := bys_string (P := Try.prog) Try.underlying27 Try.underlying5 Try.underlying9 h'
  have E := strs_dec h h'
  generalize decide (l = l') = q at *
  go_enter Try.func25, Try.ntmps25
  go_wp2
  go_ret
  exact ⟨rfl, rfl⟩

set_option maxHeartbeats 1000000 in
theorem rbeq_ok {w : World} {a a' : Option Addr} {n c n' c' : Nat} {l l' : List Int} (h : Bys w a n c l) (h' : Bys w a' n' c' l') : Calls Try.prog 13 #[.slice a n c, .slice a' n' c'] w fun e w' => w' = w ∧ e = .returned (.bool (decide (l = l'))) := by
  have h1 := bys_string (P := Try.prog) Try.underlying27 Try.underlying5 Try.underlying9 h
  have h2 := bys_string (P := Try.prog) Try.underlying27 Try.underlying5 Try.underlying9 h'
  have E := strs_dec h h'
  generalize decide (l = l') = q at *
  go_enter Try.func13, Try.ntmps13
  go_wp2
  go_ret
  exact ⟨rfl, rfl⟩

end Go.Proofs.Ytbkgbnjiibhmhaa
