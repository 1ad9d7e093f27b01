/-
  WHETHER A TEXT HAS = OR THE NOUGHT (strings.IndexAny, ContainsAny), of any text; whether a key is right. Conditions: how many bytes a text may have.
-/
import Derived.Test.YtlehomcodkbpmaaGreatDoorAny
import Derived.Laws.RangeAny
import Derived.Lib.OthersKept
namespace Go.Proofs.YtlehomcodkbpmaaGreatDoor
open Go.ChangeShapes Go.WideShapes Go.ChangeAt Go.RowKit Go.Lib
set_option linter.unusedVariables false
set_option maxRecDepth 20000

/-- a decoded rune is valid -/
theorem dec_valid (l : List UInt8) : Utf8.valid ((decodeL l).1 : Int) = true ∧ Lib.validRune ((decodeL l).1 : Int) = true ∧ (decodeL l).1 ≤ 1114111 := by
  have k0 := (l.getD 0 0).toNat_lt
  have k1 := (l.getD 1 0).toNat_lt
  have k2 := (l.getD 2 0).toNat_lt
  have k3 := (l.getD 3 0).toNat_lt
  rw [decodeL_N]
  have V : ∀ n : Nat, n ≤ 1114111 → (n < 55296 ∨ 57344 ≤ n) → Utf8.valid (n : Int) = true ∧ Lib.validRune (n : Int) = true ∧ n ≤ 1114111 := by
    intro n h1 h2
    refine ⟨?_, ?_, h1⟩
    · unfold Utf8.valid; simp; omega
    · unfold Lib.validRune; simp; omega
  rcases decodeN_shape l.length (l.getD 0 0).toNat (l.getD 1 0).toNat (l.getD 2 0).toNat (l.getD 3 0).toNat with ⟨h, e⟩ | ⟨h0, _, h1, h2, e⟩ | ⟨h0, _, h1, h2, h3, h4, e⟩ | ⟨_, _, h1, h2, h3, h4, h5, e⟩ | e
  all_goals rw [e]
  · exact V _ (by omega) (by omega)
  · exact V _ (by omega) (by omega)
  · exact V _ (by omega) (by omega)
  · exact V _ (by omega) (by omega)
  · exact V _ (by omega) (by omega)

theorem zero_set (w : World) : (zeroValue 86).run Tryz.prog w = .ok (.agg (Array.replicate 256 (.bool false))) w := by kernel_rfl

theorem irune_any (l : List UInt8) (w : World) : Calls Tryz.prog 82 #[.string ⟨#[61, 0]⟩, .int .i32 ((decodeL l).1 : Nat)] w fun e w' => e = .returned (.int .i64 (runeI (decodeL l).1)) ∧ Below w.heap.size w w' := by
  obtain ⟨v1, v2, v3⟩ := dec_valid l
  generalize (decodeL l).1 = r at *
  by_cases h : r < 128
  · exact irune_ascii r h w
  · have e : runeI r = -1 := by unfold runeI; rw [if_neg (by omega), if_neg (by omega)]
    rw [e]
    by_cases h2 : r = 65533
    · subst h2; exact irune_err w
    · exact irune_far r (by omega) v3 v1 v2 h2 w

theorem iterPos_at {w : World} {k : Nat} {s : ByteArray} {pos : Nat} (h : w.heap[k]? = some (.stringIter s pos)) : w.iterPos k = pos := by unfold World.iterPos; rw [h]

set_option maxHeartbeats 2000000 in
theorem index_short (s : ByteArray) (h8 : s.size ≤ 8) (w : World) : Calls Tryz.prog 74 #[.string s, .string ⟨#[61, 0]⟩] w fun e w' => (∃ i : Int, e = .returned (.int .i64 i) ∧ decide (0 ≤ i) = anyB s.data.toList) ∧ Below w.heap.size w w' := by
  obtain ⟨q, hq⟩ : ∃ q, q = anyB s.data.toList := ⟨_, rfl⟩
  rw [← hq]
  have hsu := fun w => Tryz.strings_shouldUseASCIISet (s.size : Int) w
  rw [decide_eq_false (by omega)] at hsu
  have hir := irune_any
  go_enter Tryz.func74, Tryz.ntmps74
  go_wp2_with (go_at_call 83; refine (hsu _).mono ?_; rintro e w' ⟨rfl, hw⟩; obtain rfl := hw.symm)
  have hit : (w.iter s 0).heap[w.heap.size]? = some (.stringIter s 0) := World.iter_heap w s 0
  go_loopw [9] (fun x wr => ∃ pos : Nat, pos ≤ s.size ∧ wr.heap[w.heap.size]? = some (.stringIter s pos) ∧ Below w.heap.size w wr ∧ Hid (anyB (s.data.toList.drop pos) = q)) (fun _ wr => s.size - wr.iterPos w.heap.size)
  case atStart => exact ⟨0, Nat.zero_le _, hit, iter_below _ _ _, hid (by rw [hq]; rfl)⟩
  case round =>
    obtain ⟨pos, hpos, hk, hb, hp⟩ := hrel
    by_cases hlt : pos < s.size
    · have hnx : ∀ ty, (Instr.next (.pointer (some ⟨w.heap.size, 0, none⟩)) true ty).run Tryz.prog wr = _ := fun ty => Lib.run_next_any_at wr _ s pos ty hk hlt
      have hne := drop_ne s pos hlt
      have hd := Lib.decodeL_drop s pos
      have hle := decodeL_le _ hne
      have hwp := decodeL_width (s.data.toList.drop pos)
      rw [List.length_drop, bytes_len] at hle
      have hpi : (0 : Int) ≤ (pos : Int) := by omega
      have hir2 := hir (s.data.toList.drop pos)
      have hparts := dec_parts _ hne
      have hstep := any_step (s.data.toList.drop pos) (decodeL (s.data.toList.drop pos)).2
      rw [List.drop_drop] at hstep
      rw [← hd] at hnx
      have hk1 := Lib.iterAt_heap wr _ s pos (pos + (decodeL (s.data.toList.drop pos)).2) hk
      have hb1 := Lib.below_iterAt hb (Nat.le_refl _) s (pos + (decodeL (s.data.toList.drop pos)).2)
      have hip := iterPos_at hk
      have hfin : ((decodeL (s.data.toList.drop pos)).1 = 61 ∨ (decodeL (s.data.toList.drop pos)).1 = 0) ∧ q = true ∨ ¬ ((decodeL (s.data.toList.drop pos)).1 = 61 ∨ (decodeL (s.data.toList.drop pos)).1 = 0) ∧ anyB (s.data.toList.drop (pos + (decodeL (s.data.toList.drop pos)).2)) = q := by
        rcases hparts with ⟨h1, h2, t, ht⟩ | ⟨h1, h2⟩
        · have hc := any_cons (UInt8.ofNat (decodeL (s.data.toList.drop pos)).1) t
          rw [← ht, hp.out] at hc
          have hdt : s.data.toList.drop (pos + (decodeL (s.data.toList.drop pos)).2) = t := by
            rw [h2, ← List.drop_drop, ht]; rfl
          rw [hdt]
          generalize (decodeL (s.data.toList.drop pos)).1 = r at *
          have hu : (UInt8.ofNat r = 61 ∨ UInt8.ofNat r = 0) ↔ (r = 61 ∨ r = 0) := by
            constructor
            · rintro (h | h)
              · left; have := congrArg UInt8.toNat h; simp at this; omega
              · right; have := congrArg UInt8.toNat h; simp at this; omega
            · rintro (rfl | rfl)
              · exact .inl rfl
              · exact .inr rfl
          by_cases hr : r = 61 ∨ r = 0
          · left; exact ⟨hr, by rw [hc, decide_eq_true (hu.2 hr)]; rfl⟩
          · right; exact ⟨hr, by rw [hc, decide_eq_false (fun h => hr (hu.1 h))]; rfl⟩
        · right
          exact ⟨by omega, by rw [← hstep h2]; exact hp.out⟩
      clear hparts hstep hd hne hir
      generalize (decodeL (s.data.toList.drop pos)).2 = d at *
      generalize (decodeL (s.data.toList.drop pos)).1 = r at *
      rcases hfin with ⟨hr, hq1⟩ | ⟨hr, hq1⟩
      · have hri : 0 ≤ runeI r := by unfold runeI; rcases hr with rfl | rfl <;> decide
        generalize runeI r = ri at *
        have hq1 := hid hq1
        clear hq hp hr hk
        go_wp2_with (go_at_call 82; refine (hir2 _).mono ?_; rintro e w2 ⟨rfl, hb2⟩)
        all_goals go_ret
        all_goals exact ⟨⟨pos, rfl, by rw [hq1.out, decide_eq_true hpi]⟩, hb1.trans (hb2.mono hb1.size)⟩
      · have hri : ¬ 0 ≤ runeI r := by unfold runeI; rw [if_neg (fun h => hr (.inl h)), if_neg (fun h => hr (.inr h))]; decide
        generalize runeI r = ri at *
        have hq1 := hid hq1
        clear hq hp hr hk
        go_wp2_with (go_at_call 82; refine (hir2 _).mono ?_; rintro e w2 ⟨rfl, hb2⟩)
        have hk2 : w2.heap[w.heap.size]? = some (.stringIter s (pos + d)) := by
          rw [hb2.block _ (by have := Array.getElem?_eq_some_iff.mp hk1; exact this.1)]; exact hk1
        go_roundw
        case rel => exact ⟨pos + d, by omega, hk2, hb1.trans (hb2.mono hb1.size), hq1⟩
        case measure => rw [hip, iterPos_at hk2]; omega
    · have hnx : ∀ ty, (Instr.next (.pointer (some ⟨w.heap.size, 0, none⟩)) true ty).run Tryz.prog wr = _ := fun ty => Lib.run_next_end_at wr _ s pos ty hk hlt
      have hq' : Hid (q = false) := hid (by rw [← hp.out, List.drop_eq_nil_iff.2 (by rw [bytes_len]; omega)]; rfl)
      clear hq hp hir
      go_wp2
      go_ret
      exact ⟨⟨-1, rfl, by rw [hq'.out]; rfl⟩, hb⟩

theorem index_any (s : ByteArray) (hs : s.size < 4294967281) (w : World) : Calls Tryz.prog 74 #[.string s, .string ⟨#[61, 0]⟩] w fun e w' => (∃ i : Int, e = .returned (.int .i64 i) ∧ decide (0 ≤ i) = anyB s.data.toList) ∧ Below w.heap.size w w' := by
  by_cases h8 : s.size ≤ 8
  · exact index_short s h8 w
  · refine (Tryz.strings_IndexAny_long zero_set s ⟨#[61, 0]⟩ w (by decide) (by omega) hs (by decide) (by intro j b hj; match j, hj with | 0, hj => (cases hj; decide) | 1, hj => (cases hj; decide))).mono ?_
    rintro e w' ⟨rfl, rfl⟩
    have hb := (Below.refl w.heap.size w).alloc (Nat.le_refl _) (.cells (Lib.setCells [61, 0]) 86)
    exact ⟨⟨_, rfl, indexAny_mem _⟩, hb.alloc hb.size _⟩

theorem contains_any (s : ByteArray) (hs : s.size < 4294967281) (w : World) : Calls Tryz.prog 65 #[.string s, .string ⟨#[61, 0]⟩] w fun e w' => e = .returned (.bool (anyB s.data.toList)) ∧ Below w.heap.size w w' := by
  have hi := index_any s hs
  go_enter Tryz.func65, Tryz.ntmps65
  go_wp2_with (go_at_call 74; refine (hi _).mono ?_; rintro e w1 ⟨⟨i, rfl, hq⟩, hb⟩)
  all_goals go_ret
  all_goals first | exact ⟨rfl, hb⟩ | exact ⟨ret_bool hq, hb⟩

theorem is_nil (s : ByteArray) : s.toList.isEmpty = decide (bs s = []) := by
  rw [toList_data]; unfold bs; cases s.data.toList <;> simp

set_option maxHeartbeats 1000000 in
theorem key_ok (s : ByteArray) (hs : s.size < 4294967281) (w : World) : Calls Tryz.prog 55 #[.string s] w fun e w' => e = .returned (.bool (keyR (bs s))) ∧ Below w.heap.size w w' := by
  have hc := contains_any s hs
  have hr := right_walk s (by omega)
  have K : keyR (bs s) = (!decide (bs s = []) && (!anyB s.data.toList && decide (firstL s.data.toList < 0))) := by
    unfold keyR
    rw [show decide (bs s ≠ []) = !decide (bs s = []) by simp]
    rfl
  rw [K, ← is_nil]
  clear K
  generalize anyB s.data.toList = q at *
  generalize decide (firstL s.data.toList < 0) = f at *
  cases z : s.toList.isEmpty
  · cases q
    all_goals
      go_enter Tryz.func55, Tryz.ntmps55
      go_wp2_with (first
        | (go_at_call 65; refine (hc _).mono ?_; rintro e w1 ⟨rfl, hb1⟩)
        | (go_at_call 56; refine (hr _).mono ?_; rintro e w2 ⟨rfl, hb2⟩))
      all_goals go_ret
      all_goals first | exact ⟨rfl, hb1.trans (hb2.mono hb1.size)⟩ | exact ⟨rfl, hb1⟩
  · go_enter Tryz.func55, Tryz.ntmps55
    go_wp2
    all_goals go_ret
    all_goals exact ⟨rfl, Below.refl _ _⟩

end Go.Proofs.YtlehomcodkbpmaaGreatDoor
