/-
  TWO KEYS COMPARED, AND WHERE A KEY STANDS AMONG PAIRS IN ORDER (slices.BinarySearchFunc). Conditions: how many pairs there are.
-/
import Derived.Test.YtkocnbdakfhpaaaDoorOpl
import Derived.Test.YtkocnbdakfhpaaaDoorShelfb
import Derived.Test.YtkocnbdakfhpaaaDoorSmp
namespace Go.Proofs.YtkocnbdakfhpaaaDoor
open Go.ChangeShapes Go.WideShapes Go.ChangeAt Go.RowKit Go.Lib
set_option linter.unusedVariables false
set_option linter.unusedSimpArgs false
set_option maxRecDepth 20000

set_option maxHeartbeats 1000000 in
theorem cmpkey_ok (k v key : ByteArray) (w : World) :
    Calls Tryd.prog 55 #[.agg #[.string k, .string v], .string key] w fun e w' => e = .returned (.int .i64 (kc k key)) ∧ Below w.heap.size w w' := by
  have hb0 := (Below.refl w.heap.size w).alloc (Nat.le_refl _) (.cells #[.string k, .string v] 37)
  have hc := fun w => Tryd.strings_Compare k key w
  change ∀ w, Calls _ _ _ _ fun e w' => e = .returned (.int .i64 (kc k key)) ∧ w' = w at hc
  generalize kc k key = q at *
  go_enter Tryd.func55, Tryd.ntmps55
  go_wp2_with (go_at_call 72; refine (hc _).mono ?_; rintro e w1 ⟨rfl, hw1⟩; obtain rfl := hw1.symm)
  all_goals go_ret
  all_goals exact ⟨rfl, hb0⟩

theorem hit_at {l : PL} {k : ByteArray} {q : ByteArray × ByteArray} (h : l[idxK l k]? = some q) : hitK l k = decide (q.1 = k) := by unfold hitK; rw [h]
theorem hit_end {l : PL} {k : ByteArray} (h : ¬ idxK l k < l.length) : hitK l k = false := by unfold hitK; rw [List.getElem?_eq_none (by omega)]
theorem drop_getq {l : PL} {i : Nat} {q : ByteArray × ByteArray} (h : l.drop i = q :: l.drop (i + 1)) : l[i]? = some q := by
  have := congrArg List.head? h
  rwa [List.head?_drop, List.head?_cons] at this

set_option maxHeartbeats 4000000 in
theorem bsf_ok {w : World} {a : Option Addr} {n c : Nat} {l : PL} (h : Pys w a n c l) (hs : Srt l) (key : ByteArray) (hn : n ≤ 1000000) :
    Calls Tryd.prog 54 #[.slice a n c, .string key, .func (.func 55) #[] #[]] w fun e w' => e = .returned (.tuple #[.int .i64 (idxK l key), .bool (hitK l key)]) ∧ Below w.heap.size w w' := by
  have hm1 := h.2.1
  have hm2 := h.2.2.1
  obtain ⟨I, hI⟩ : ∃ I, I = idxK l key := ⟨_, rfl⟩
  obtain ⟨H, hH⟩ : ∃ H, H = hitK l key := ⟨_, rfl⟩
  have hIn : I ≤ n := by rw [hI, ← h.1]; exact idx_le l key
  rw [← hI, ← hH]
  replace hI := hid hI
  replace hH := hid hH
  have hl := hid h.1
  have hs' := hid hs
  have hck := fun k v w => cmpkey_ok k v key w
  clear hs
  go_enter Tryd.func54, Tryd.ntmps54
  go_wp2
  go_loopw [9, 10] (fun x y wr => ∃ lo hi : Nat, x = .int .i64 lo ∧ y = .int .i64 hi ∧ lo ≤ I ∧ I ≤ hi ∧ hi ≤ n ∧ Below w.heap.size w wr) (fun x y _ => (RowKit.intOf y).toNat - (RowKit.intOf x).toNat)
  case atStart => exact ⟨0, n, rfl, rfl, by omega, hIn, Nat.le_refl _, Below.refl _ _⟩
  case round =>
    obtain ⟨lo, hi, rfl, rfl, h1, h2, h3, hb⟩ := hrel
    by_cases hlt : lo < hi
    · obtain ⟨b, off, rfl, hc⟩ := h.some_of (by omega)
      obtain ⟨mi, hmi⟩ : ∃ mi, mi = (lo + hi) / 2 := ⟨_, rfl⟩
      obtain ⟨ky, vl, hmem, hd, c0, c1⟩ := (hc.below hb).at mi (by rw [hl.out]; omega)
      have hiff := idx_iff l key mi (ky, vl) hs'.out (drop_getq hd.out)
      rw [← hI.out] at hiff
      simp only at hiff
      have hcc := hck ky vl wr
      have hltI : (lo : Int) < (hi : Int) := by omega
      have hmI : ((lo : Int) + (hi : Int)) / 2 = (mi : Int) := by omega
      have hmn : (mi : Int) < (n : Int) := by omega
      have g1 : lo ≤ mi := by omega
      have g2 : mi < hi := by omega
      clear hmi
      generalize kc ky key = q at *
      clear hd hmem hck
      by_cases hq : q < 0
      · have hmI2 := hiff.1 hq
        clear hiff
        go_wp2_with (go_at_call 55; refine hcc.mono ?_; rintro e w1 ⟨rfl, hb1⟩)
        go_roundw
        case rel => exact ⟨mi + 1, hi, by go_num, rfl, by omega, by omega, by omega, hb.trans (hb1.mono hb.size)⟩
        case measure => simp [RowKit.intOf]; omega
      · have hmI2 : ¬ mi < I := fun e => hq (hiff.2 e)
        clear hiff
        go_wp2_with (go_at_call 55; refine hcc.mono ?_; rintro e w1 ⟨rfl, hb1⟩)
        go_roundw
        case rel => exact ⟨lo, mi, rfl, by go_num, by omega, by omega, by omega, hb.trans (hb1.mono hb.size)⟩
        case measure => simp [RowKit.intOf]; omega
    · obtain rfl : lo = I := by omega
      obtain rfl : hi = lo := by omega
      have hltI : ¬ (hi : Int) < (hi : Int) := by omega
      by_cases hin : hi < n
      · obtain ⟨b, off, rfl, hc⟩ := h.some_of (by omega)
        obtain ⟨ky, vl, hmem, hd, c0, c1⟩ := (hc.below hb).at hi (by rw [hl.out]; omega)
        have hg := drop_getq hd.out
        rw [hI.out] at hg
        have hht := hit_at hg
        have hcc := hck ky vl wr
        have hinI : (hi : Int) < (n : Int) := by omega
        by_cases he : ky = key
        · obtain rfl : H = true := by rw [hH.out, hht]; exact decide_eq_true he
          have hk0 : kc ky key = 0 := by rw [he, kc_self]
          rw [hk0] at hcc
          clear hg hht hd hmem hck hI hH he hk0
          go_wp2_with (go_at_call 55; refine hcc.mono ?_; rintro e w1 ⟨rfl, hb1⟩)
          all_goals go_ret2
          all_goals exact ⟨rfl, hb.trans (hb1.mono hb.size)⟩
        · obtain rfl : H = false := by rw [hH.out, hht]; exact decide_eq_false he
          have hk0 : (kc ky key == 0) = false := by simp; exact fun e => he (kc_zero e)
          generalize kc ky key = q at *
          clear hg hht hd hmem hck hI hH he
          go_wp2_with (go_at_call 55; refine hcc.mono ?_; rintro e w1 ⟨rfl, hb1⟩)
          all_goals go_ret2
          all_goals exact ⟨rfl, hb.trans (hb1.mono hb.size)⟩
      · obtain rfl : H = false := by rw [hH.out]; exact hit_end (by rw [hl.out, ← hI.out]; exact hin)
        have hinI : ¬ (hi : Int) < (n : Int) := by omega
        clear hI hH hck
        go_wp2
        all_goals go_ret2
        all_goals exact ⟨rfl, hb⟩

end Go.Proofs.YtkocnbdakfhpaaaDoor
