/-
  The document's texts in fields.
-/
import Derived.Test.YtgjbopbpekocpaaFld
import Derived.Test.YtgjbopbpekocpaaMarked
namespace Go.Proofs.Ytgjbopbpekocpaa
open Go.ChangeShapes Go.WideShapes Go.ChangeAt Go.RowKit
set_option linter.unusedVariables false
set_option maxRecDepth 20000

def blankB (l : List Int) : Bool := l.all (· == 0)

set_option maxHeartbeats 2000000 in
theorem blank_walk {w : World} {a : Option Addr} {n c : Nat} {l : List Int} (h : Bys w a n c l) : Calls Try.prog 34 #[.slice a n c] w fun e w' => w' = w ∧ e = .returned (.bool (blankB l)) := by
  obtain ⟨hl, hlc, hm, hr, ⟨rfl, rfl⟩ | ⟨h0, b, off, rfl, hc⟩⟩ := h
  · go_enter Try.func34, Try.ntmps34
    go_wp2
    refine wp_loop_rounds 1 ?_
    rw [rounds_succ]
    go_wp2
    go_ret
    exact ⟨rfl, rfl⟩
  · obtain ⟨q, hq⟩ : ∃ q, q = blankB l := ⟨_, rfl⟩
    rw [← hq]
    have hq' := hid hq
    have hl' := hid hl
    clear hq hl
    go_enter Try.func34, Try.ntmps34
    go_wp2
    go_loop [7] (fun x => ∃ k : Nat, k ≤ n ∧ x = .int .i64 k ∧ Hid (q = blankB (l.drop k))) (fun x => n - (intOf x).toNat)
    case atStart => exact ⟨0, by omega, by go_num, hid (by rw [List.drop_zero]; exact hq')⟩
    case round =>
      obtain ⟨k, hk, rfl, hrel⟩ := hrel
      rcases Nat.lt_or_ge k n with hk2 | hk2
      · obtain ⟨d, hd, hd0, hd1, hcell⟩ := hc.at (k := k) (by rw [hl'.out]; exact hk2)
        by_cases hz : d = 0
        · subst hz
          have hrel2 : Hid (q = blankB (l.drop (k + 1))) := hid (by rw [hrel.out, hd.out]; simp [blankB])
          clear hrel hd
          go_wp2
          go_round
          case rel => exact ⟨k + 1, by omega, by go_num, hrel2⟩
          case measure => simp [intOf]; omega
        · have hqf : q = false := by rw [hrel.out, hd.out]; simp [blankB, hz]
          subst hqf
          have hz' : (d != 0) = true := by simpa using hz
          clear hrel hd hq'
          go_wp2
          go_ret
          exact ⟨rfl, rfl⟩
      · have hqt : q = true := by rw [hrel.out, List.drop_eq_nil_iff.2 (by rw [hl'.out]; exact hk2)]; rfl
        subst hqt
        clear hrel hq'
        go_wp2
        go_ret
        exact ⟨rfl, rfl⟩

set_option maxHeartbeats 2000000 in
theorem rblank_walk {w : World} {a : Option Addr} {n c : Nat} {l : List Int} (h : Bys w a n c l) : Calls Try.prog 14 #[.slice a n c] w fun e w' => w' = w ∧ e = .returned (.bool (blankB l)) := by
  obtain ⟨hl, hlc, hm, hr, ⟨rfl, rfl⟩ | ⟨h0, b, off, rfl, hc⟩⟩ := h
  · go_enter Try.func14, Try.ntmps14
    go_wp2
    refine wp_loop_rounds 1 ?_
    rw [rounds_succ]
    go_wp2
    go_ret
    exact ⟨rfl, rfl⟩
  · obtain ⟨q, hq⟩ : ∃ q, q = blankB l := ⟨_, rfl⟩
    rw [← hq]
    have hq' := hid hq
    have hl' := hid hl
    clear hq hl
    go_enter Try.func14, Try.ntmps14
    go_wp2
    go_loop [3] (fun x => ∃ k : Nat, k ≤ n ∧ x = .int .i64 k ∧ Hid (q = blankB (l.drop k))) (fun x => n - (intOf x).toNat)
    case atStart => exact ⟨0, by omega, by go_num, hid (by rw [List.drop_zero]; exact hq')⟩
    case round =>
      obtain ⟨k, hk, rfl, hrel⟩ := hrel
      rcases Nat.lt_or_ge k n with hk2 | hk2
      · obtain ⟨d, hd, hd0, hd1, hcell⟩ := hc.at (k := k) (by rw [hl'.out]; exact hk2)
        by_cases hz : d = 0
        · subst hz
          have hrel2 : Hid (q = blankB (l.drop (k + 1))) := hid (by rw [hrel.out, hd.out]; simp [blankB])
          clear hrel hd
          go_wp2
          go_round
          case rel => exact ⟨k + 1, by omega, by go_num, hrel2⟩
          case measure => simp [intOf]; omega
        · have hqf : q = false := by rw [hrel.out, hd.out]; simp [blankB, hz]
          subst hqf
          have hz' : 0 < d := by omega
          clear hrel hd hq' hz
          go_wp2
          go_ret
          exact ⟨rfl, rfl⟩
      · have hqt : q = true := by rw [hrel.out, List.drop_eq_nil_iff.2 (by rw [hl'.out]; exact hk2)]; rfl
        subst hqt
        clear hrel hq'
        go_wp2
        go_ret
        exact ⟨rfl, rfl⟩

theorem upto_drop {l : List Int} {k : Nat} {c : Int} (h : l.drop k = c :: l.drop (k + 1)) (hc : c ≠ 0) : upto (l.drop k) = c :: upto (l.drop (k + 1)) := by
  rw [h]; simp [upto, hc]

set_option maxHeartbeats 2000000 in
theorem rget_walk {w : World} {a : Option Addr} {n c : Nat} {l : List Int} (h : Bys w a n c l) (hn : n ≤ 1000000) : Calls Try.prog 33 #[.slice a n c] w fun e w' => e = .returned (.string (strOfNums (upto l))) ∧ Below w.heap.size w w' := by
  obtain ⟨i0, hi, hz0, hz1, hz2⟩ := info_parts Try.info5
  have hlit := World.ownsRow_lit (base := w.heap.size) (e := 5) (size := 1) w #[] 0 (Nat.le_refl _) (by unfold maxLen; omega) rfl
  obtain ⟨hl, hlc, hm, hr, ⟨rfl, rfl⟩ | ⟨h0, b, off, rfl, hc⟩⟩ := h
  · obtain ⟨aa, cc, hv, hby⟩ := own_bys (l := []) hlit rfl (by simp)
    simp only [Value.slice.injEq] at hv
    obtain ⟨rfl, -, rfl⟩ := hv
    have hcv := bys_string (P := Try.prog) Try.underlying22 Try.underlying5 Try.underlying9 hby
    go_enter Try.func33, Try.ntmps33
    go_wp2
    refine wp_loop_rounds 1 ?_
    rw [rounds_succ]
    go_wp2
    go_ret
    exact ⟨rfl, (Below.refl _ w).alloc (Nat.le_refl _) _⟩
  · obtain ⟨q, hq⟩ : ∃ q, q = upto l := ⟨_, rfl⟩
    rw [← hq]
    have hqr : ∀ x ∈ q, 0 ≤ x ∧ x ≤ 255 := by
      rw [hq]; intro x hx
      exact hr x ((List.takeWhile_sublist _).subset hx)
    have hq' := hid hq
    have hl' := hid hl
    clear hq hl
    go_enter Try.func33, Try.ntmps33
    go_wp2
    go_loopw [3, 4] (fun y x wr => ∃ (v : Value) (k : Nat) (acc : List Int), y = v ∧ k ≤ n ∧ x = .int .i64 k ∧ acc.length = k ∧ wr.ownsRow w.heap.size 5 1 v acc.length (u8s acc) ∧ Below w.heap.size w wr ∧ Hid (q = acc ++ upto (l.drop k))) (fun _ x _ => n - (intOf x).toNat)
    case atStart => exact ⟨_, 0, [], rfl, by omega, by go_num, rfl, hlit, (Below.refl _ w).alloc (Nat.le_refl _) _, hid (by rw [List.drop_zero, List.nil_append]; exact hq')⟩
    case round =>
      obtain ⟨v, k, acc, rfl, hk, rfl, hak, hown, hb, hrel⟩ := hrel
      have hBsz := hb.size
      have hak' : acc.length ≤ k ∧ k ≤ acc.length := by omega
      clear hak
      have hfin : Hid (q = acc) → ∃ aa cc, u3 = .slice aa acc.length cc ∧ Bys wr aa acc.length cc acc := by
        intro e
        have e' : q = acc := e
        exact own_bys hown rfl (by rw [← e']; exact hqr)
      rcases Nat.lt_or_ge k n with hk2 | hk2
      · obtain ⟨d, hd, hd0, hd1, hcell⟩ := (hc.below hb).at (k := k) (by rw [hl'.out]; exact hk2)
        by_cases hz : d = 0
        · subst hz
          have hqa : Hid (q = acc) := hid (by rw [hrel.out, hd.out]; simp [upto])
          obtain ⟨aa, cc, rfl, hby⟩ := hfin hqa
          have hcv := bys_string (P := Try.prog) Try.underlying22 Try.underlying5 Try.underlying9 hby
          obtain rfl : q = acc := hqa
          clear hrel hd hq' hfin
          go_wp2
          go_ret
          exact ⟨rfl, hb⟩
        · have hz' : (d != 0) = true := by simpa using hz
          have hrel2 : Hid (q = (acc ++ [d]) ++ upto (l.drop (k + 1))) := hid (by rw [hrel.out, upto_drop hd.out hz]; simp)
          clear hrel hd hfin hz
          go_wp2_with (at_builtin; refine wpList_append_own _ rfl (.tmp 19) (.tmp 24) 22 rfl w.heap.size 5 i0 (.int .u8 0) 1 1 Try.underlying22 hi hz0 hz1 hz2 rfl (by decide) _ _ _ rfl (hown.alloc _) ⟨wr.heap.size, 0, none⟩ 1 1 [.int .u8 d] rfl rfl (cell_one_new _ _ _) (one_one _) (by unfold maxLen; omega) (by omega) (by simp; omega) ?_; intro v' w2 hown' hgrow' _)
          go_roundw
          case rel => exact ⟨_, k + 1, acc ++ [d], rfl, by omega, by go_num, by simp; omega, by have := own_more hown'; simpa using this, (hb.alloc hBsz _).grown hgrow' (by simp; omega) (fun k hk => (hown.lt k hk).1), hrel2⟩
          case measure => simp [intOf]; omega
      · have hqa : Hid (q = acc) := hid (by rw [hrel.out, List.drop_eq_nil_iff.2 (by rw [hl'.out]; exact hk2)]; simp [upto])
        obtain ⟨aa, cc, rfl, hby⟩ := hfin hqa
        have hcv := bys_string (P := Try.prog) Try.underlying22 Try.underlying5 Try.underlying9 hby
        obtain rfl : q = acc := hqa
        clear hrel hq' hfin
        go_wp2
        go_ret
        exact ⟨rfl, hb⟩

theorem clean_str (s : ByteArray) : ((strOfNums (upto (nums s))).toList == s.toList) = cleanB (nums s) := by
  rw [Bool.eq_iff_iff, str_beq]
  constructor
  · intro h
    have h1 : upto (nums s) = nums s := by
      have := congrArg nums h
      rwa [nums_str] at this
      intro x hx
      exact nums_range s x ((List.takeWhile_sublist _).subset hx)
    unfold cleanB
    rw [h1]; simp
  · intro h
    have h1 : (upto (nums s)).length = (nums s).length := by simpa [cleanB] using h
    have h2 := upto_take (nums s)
    rw [h1, List.take_length] at h2
    rw [← h2, str_nums]

set_option maxHeartbeats 2000000 in
theorem rclean_walk (s : ByteArray) (hs : s.size ≤ 1000000) (w : World) : Calls Try.prog 55 #[.string s] w fun e w' => e = .returned (.bool (cleanB (nums s))) ∧ Below w.heap.size w w' := by
  obtain ⟨k, w1, hconv, -, hby, hb1⟩ := conv_string (P := Try.prog) (src := 9) (dst := 22) Try.underlying9 Try.underlying22 Try.underlying5 w s (by omega)
  have hg := rget_walk hby hs
  have hcs := clean_str s
  go_enter Try.func55, Try.ntmps55
  go_wp2_with (go_at_call 33; refine hg.mono ?_; rintro e w2 ⟨rfl, hb2⟩)
  go_ret
  exact ⟨rfl, hb1.trans (hb2.mono hb1.size)⟩

set_option maxHeartbeats 2000000 in
theorem pad_walk (s : ByteArray) (n : Nat) (hn : n ≤ 65536) (hs : s.size ≤ n) (w : World) :
    Calls Try.prog 56 #[.string s, .int .i64 n] w fun e w' => ∃ v, e = .returned v ∧ OwnM w' w.heap.size 5 v n (u8s (fillL (nums s) n)) ∧ Below w.heap.size w w' := by
  obtain ⟨i0, hi, hz0, hz1, hz2⟩ := info_parts Try.info5
  have hns := hid (nums_length s)
  obtain ⟨k0, w1, hconv, hown0, -, hb0⟩ := conv_string (P := Try.prog) (src := 9) (dst := 22) Try.underlying9 Try.underlying22 Try.underlying5 w s (by omega)
  go_enter Try.func56, Try.ntmps56
  go_wp2
  go_loopw [5] (fun y wr => ∃ (a : Option Addr) (m c : Nat), y = .slice a m c ∧ s.size ≤ m ∧ m ≤ n ∧ OwnM wr w.heap.size 5 (.slice a m c) m (u8s (nums s ++ List.replicate (m - s.size) 0)) ∧ Below w.heap.size w wr) (fun y _ => n - sliceLen y)
  case atStart => exact ⟨_, s.size, _, rfl, by omega, hs, by rw [Nat.sub_self]; simpa using hown0, hb0⟩
  case round =>
    obtain ⟨a, m, c, rfl, hm0, hm1, hown, hb⟩ := hrel
    have hBsz := hb.size
    rcases Nat.lt_or_ge m n with hk2 | hk2
    · go_wp2_with (at_builtin; refine wpList_append_ownM _ rfl (.tmp 12) (.tmp 13) 22 rfl w.heap.size 5 i0 (.int .u8 0) Try.underlying22 hi hz0 hz1 hz2 rfl _ _ _ rfl (hown.alloc _) ⟨wr.heap.size, 0, none⟩ 1 1 [.int .u8 0] rfl rfl (cell_one_new _ _ _) (one_one _) (by omega) (by simp; omega) ?_; intro v' w2 hown' hgrow'; obtain ⟨a', c', rfl⟩ := hown'.shape)
      go_roundw
      case rel =>
        refine ⟨a', m + 1, c', rfl, by omega, by omega, ?_, (hb.alloc hBsz _).grown hgrow' (by simp; omega) (fun k hk => (hown.lt k hk).1)⟩
        have e : u8s (nums s ++ List.replicate (m - s.size) 0) ++ [.int .u8 0] = u8s (nums s ++ List.replicate (m + 1 - s.size) 0) := by
          rw [show m + 1 - s.size = (m - s.size) + 1 by omega, List.replicate_succ']
          simp [u8s]
        rw [← e]
        exact hown'
      case measure => simp [sliceLen]; omega
    · obtain rfl : m = n := by omega
      go_wp2
      go_ret
      refine ⟨_, rfl, ?_, hb⟩
      have e : fillL (nums s) m = nums s ++ List.replicate (m - s.size) 0 := by
        unfold fillL
        rw [hns.out, List.take_of_length_le (by rw [hns.out]; exact hs)]
      rw [e]
      exact hown

set_option maxHeartbeats 2000000 in
theorem rput_bad (s : ByteArray) (hs : s.size ≤ 1000000) (n : Int) (w : World) (hc : tputC s n ≠ 0) :
    Calls Try.prog 42 #[.string s, .int .i64 n] w fun e w' => e = .returned (.tuple #[.slice none 0 0, .int .i64 (tputC s n)]) ∧ Below w.heap.size w w' := by
  have hcl := fun w => rclean_walk s hs w
  by_cases h1 : 0 ≤ n ∧ n ≤ 65536
  · cases h2 : cleanB (nums s) with
    | false =>
      have hp : tputC s n = 15 := by unfold tputC; rw [if_neg (by simpa using h1), if_pos h2]
      rw [hp]
      rw [h2] at hcl
      clear hp hc
      obtain ⟨h1a, h1b⟩ := h1
      go_enter Try.func42, Try.ntmps42
      go_wp2_with (go_at_call 55; refine (hcl _).mono ?_; rintro e w1 ⟨rfl, hb⟩)
      go_ret2
      exact ⟨rfl, hb⟩
    | true =>
      rw [h2] at hcl
      by_cases h3 : n < s.size
      · have hp : tputC s n = 13 := by unfold tputC; rw [if_neg (by simpa using h1), if_neg (by simp [h2]), if_pos h3]
        rw [hp]
        clear hp hc
        obtain ⟨h1a, h1b⟩ := h1
        go_enter Try.func42, Try.ntmps42
        go_wp2_with (go_at_call 55; refine (hcl _).mono ?_; rintro e w1 ⟨rfl, hb⟩)
        go_ret2
        exact ⟨rfl, hb⟩
      · exact absurd (by unfold tputC; rw [if_neg (by simpa using h1), if_neg (by simp [h2]), if_neg h3]) hc
  · have hp : tputC s n = 2 := by unfold tputC; rw [if_pos h1]
    rw [hp]
    clear hp hc
    by_cases hneg : n < 0
    · go_enter Try.func42, Try.ntmps42
      go_wp2
      go_ret2
      exact ⟨rfl, Below.refl _ _⟩
    · have hbig : 65536 < n := by omega
      clear h1
      go_enter Try.func42, Try.ntmps42
      go_wp2
      go_ret2
      exact ⟨rfl, Below.refl _ _⟩

set_option maxHeartbeats 2000000 in
theorem rput_good (s : ByteArray) (hs : s.size ≤ 1000000) (n : Nat) (w : World) (hc : tputC s n = 0) :
    Calls Try.prog 42 #[.string s, .int .i64 n] w fun e w' => ∃ v, e = .returned (.tuple #[v, .int .i64 0]) ∧ OwnM w' w.heap.size 5 v n (u8s (fillL (nums s) n)) ∧ Below w.heap.size w w' := by
  obtain ⟨h1, h1', h2, h3⟩ := tputC_good hc
  have hcl := fun w => rclean_walk s hs w
  rw [h2] at hcl
  clear hc
  go_enter Try.func42, Try.ntmps42
  go_wp2_with (first | (go_at_call 55; refine (hcl _).mono ?_; rintro e w1 ⟨rfl, hb⟩) | (go_at_call 56; refine (pad_walk s n (by omega) (by omega) _).mono ?_; rintro e w2 ⟨v, rfl, hown, hb2⟩))
  go_ret2
  have hsz := hb.size
  obtain ⟨ho, h'⟩ := hown
  refine ⟨v, rfl, ⟨ho, ?_⟩, hb.trans (hb2.mono hsz)⟩
  rcases h' with h' | ⟨g, cap, cur, fz, hv, hbg, hr⟩
  · exact .inl h'
  · exact .inr ⟨g, cap, cur, fz, hv, by omega, hr⟩

theorem upto_zeros (a : List Int) (k : Nat) : upto (a ++ List.replicate k 0) = upto a := by
  induction a with
  | nil => cases k <;> simp [upto, List.replicate_succ]
  | cons c r ih =>
    by_cases hc : c = 0
    · subst hc; simp [upto]
    · have hu : ∀ x, upto (c :: x) = c :: upto x := by intro x; simp [upto, hc]
      rw [List.cons_append, hu, hu, ih]

theorem upto_of_take (l : List Int) (n : Nat) : upto (l.take n) = (upto l).take n := by
  induction l generalizing n with
  | nil => simp [upto]
  | cons c r ih =>
    cases n with
    | zero => simp [upto]
    | succ n =>
      by_cases hc : c = 0
      · subst hc; simp [upto]
      · have hu : ∀ x, upto (c :: x) = c :: upto x := by intro x; simp [upto, hc]
        rw [List.take_succ_cons, hu, hu, ih, List.take_succ_cons]

set_option maxHeartbeats 1000000 in
theorem same_walk {w : World} {a a' : Option Addr} {n c n' c' : Nat} {l : List Int} (h : Bys w a n c l) (h' : Bys w a' n' c' l) : Calls Try.prog 20 #[.slice a n c, .slice a' n' c'] w fun e w' => w' = w ∧ e = .returned (.bool true) := by
  have h1 := bys_string (P := Try.prog) Try.underlying22 Try.underlying5 Try.underlying9 h
  have h2 := bys_string (P := Try.prog) Try.underlying22 Try.underlying5 Try.underlying9 h'
  go_enter Try.func20, Try.ntmps20
  go_wp2
  go_ret
  exact ⟨rfl, rfl⟩

end Go.Proofs.Ytgjbopbpekocpaa
