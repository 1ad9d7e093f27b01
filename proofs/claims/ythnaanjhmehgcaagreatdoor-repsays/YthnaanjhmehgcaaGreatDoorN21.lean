/-
  THE DOCUMENT's TEXTS WITHOUT A NOUGHT; WHICH KNOWN KEY A KEY IS; AND WHAT FOLLOWS OF IT. Conditions: those that each part names.
-/
import Derived.Test.YthnaanjhmehgcaaGreatDoorN16
/-
  THE DOCUMENT's TEXTS WITHOUT A NOUGHT; WHICH KNOWN KEY A KEY IS. Conditions: how many bytes a text may have.
-/
namespace Go.Proofs.YthnaanjhmehgcaaGreatDoor
open Go.ChangeShapes Go.WideShapes Go.ChangeAt Go.RowKit Go.Lib
set_option linter.unusedVariables false
set_option maxRecDepth 20000

def upto (l : List Int) : List Int := l.takeWhile (· != 0)

def cleanB (l : List Int) : Bool := (upto l).length == l.length

theorem upto_take (l : List Int) : l.take (upto l).length = upto l := by
  unfold upto
  exact (List.prefix_iff_eq_take.1 (List.takeWhile_prefix _)).symm

theorem upto_drop {l : List Int} {k : Nat} {c : Int} (h : l.drop k = c :: l.drop (k + 1)) (hc : c ≠ 0) : upto (l.drop k) = c :: upto (l.drop (k + 1)) := by
  rw [h]; simp [upto, hc]

set_option maxHeartbeats 2000000 in
theorem rget_walk {w : World} {a : Option Addr} {n c : Nat} {l : List Int} (h : Bys w a n c l) (hn : n ≤ 1000000) : Calls Tryz.prog 128 #[.slice a n c] w fun e w' => e = .returned (.string (strOfNums (upto l))) ∧ Below w.heap.size w w' := by
  obtain ⟨i0, hi, hz0, hz1, hz2⟩ := info_parts Tryz.info5'
  have hlit := World.ownsRow_lit (base := w.heap.size) (e := 5) (size := 1) w #[] 0 (Nat.le_refl _) (by unfold maxLen; omega) rfl
  obtain ⟨hl, hlc, hm, hr, ⟨rfl, rfl⟩ | ⟨h0, b, off, rfl, hc⟩⟩ := h
  · obtain ⟨aa, cc, hv, hby⟩ := own_bys (l := []) hlit rfl (by simp)
    simp only [Value.slice.injEq] at hv
    obtain ⟨rfl, -, rfl⟩ := hv
    have hcv := bys_string (P := Tryz.prog) Tryz.underlying56 Tryz.underlying5 Tryz.underlying9 hby
    go_enter Tryz.func128, Tryz.ntmps128
    go_wp2
    refine wp_loop_rounds 1 ?_
    rw [rounds_succ]
    go_wp2
    go_ret
    exact ⟨rfl, (Below.refl _ w).alloc (Nat.le_refl _) _⟩
  · obtain ⟨q, hq⟩ : ∃ q, q = upto l := ⟨_, rfl⟩
    rw [← hq]
    have hqr : ∀ x ∈ q, 0 ≤ x ∧ x ≤ 255 := by
      rw [hq]; intro x hx
      exact hr x ((List.takeWhile_sublist _).subset hx)
    have hq' := hid hq
    have hl' := hid hl
    clear hq hl
    go_enter Tryz.func128, Tryz.ntmps128
    go_wp2
    go_loopw [3, 4] (fun y x wr => ∃ (v : Value) (k : Nat) (acc : List Int), y = v ∧ k ≤ n ∧ x = .int .i64 k ∧ acc.length = k ∧ wr.ownsRow w.heap.size 5 1 v acc.length (u8s acc) ∧ Below w.heap.size w wr ∧ Hid (q = acc ++ upto (l.drop k))) (fun _ x _ => n - (RowKit.intOf x).toNat)
    case atStart => exact ⟨_, 0, [], rfl, by omega, by go_num, rfl, hlit, (Below.refl _ w).alloc (Nat.le_refl _) _, hid (by rw [List.drop_zero, List.nil_append]; exact hq')⟩
    case round =>
      obtain ⟨v, k, acc, rfl, hk, rfl, hak, hown, hb, hrel⟩ := hrel
      have hBsz := hb.size
      have hak' : acc.length ≤ k ∧ k ≤ acc.length := by omega
      clear hak
      have hfin : Hid (q = acc) → ∃ aa cc, u3 = .slice aa acc.length cc ∧ Bys wr aa acc.length cc acc := by
        intro e
        have e' : q = acc := e
        exact own_bys hown rfl (by rw [← e']; exact hqr)
      rcases Nat.lt_or_ge k n with hk2 | hk2
      · obtain ⟨d, hd, hd0, hd1, hcell⟩ := (hc.below hb).at (k := k) (by rw [hl'.out]; exact hk2)
        by_cases hz : d = 0
        · subst hz
          have hqa : Hid (q = acc) := hid (by rw [hrel.out, hd.out]; simp [upto])
          obtain ⟨aa, cc, rfl, hby⟩ := hfin hqa
          have hcv := bys_string (P := Tryz.prog) Tryz.underlying56 Tryz.underlying5 Tryz.underlying9 hby
          obtain rfl : q = acc := hqa
          clear hrel hd hq' hfin
          go_wp2
          go_ret
          exact ⟨rfl, hb⟩
        · have hz' : (d != 0) = true := by simpa using hz
          have hrel2 : Hid (q = (acc ++ [d]) ++ upto (l.drop (k + 1))) := hid (by rw [hrel.out, upto_drop hd.out hz]; simp)
          clear hrel hd hfin hz
          go_wp2_with (at_builtin; refine wpList_append_own _ rfl (.tmp 19) (.tmp 24) 56 rfl w.heap.size 5 i0 (.int .u8 0) 1 1 Tryz.underlying56 hi hz0 hz1 hz2 rfl (by decide) _ _ _ rfl (hown.alloc _) ⟨wr.heap.size, 0, none⟩ 1 1 [.int .u8 d] rfl rfl (cell_one_new _ _ _) (one_one _) (by unfold maxLen; omega) (by omega) (by simp; omega) ?_; intro v' w2 hown' hgrow' _)
          go_roundw
          case rel => exact ⟨_, k + 1, acc ++ [d], rfl, by omega, by go_num, by simp; omega, by have := own_more hown'; simpa using this, (hb.alloc hBsz _).grown hgrow' (by simp; omega) (fun k hk => (hown.lt k hk).1), hrel2⟩
          case measure => simp [RowKit.intOf]; omega
      · have hqa : Hid (q = acc) := hid (by rw [hrel.out, List.drop_eq_nil_iff.2 (by rw [hl'.out]; exact hk2)]; simp [upto])
        obtain ⟨aa, cc, rfl, hby⟩ := hfin hqa
        have hcv := bys_string (P := Tryz.prog) Tryz.underlying56 Tryz.underlying5 Tryz.underlying9 hby
        obtain rfl : q = acc := hqa
        clear hrel hq' hfin
        go_wp2
        go_ret
        exact ⟨rfl, hb⟩

theorem clean_str (s : ByteArray) : ((strOfNums (upto (nums s))).toList == s.toList) = cleanB (nums s) := by
  rw [Bool.eq_iff_iff, str_beq]
  constructor
  · intro h
    have h1 : upto (nums s) = nums s := by
      have := congrArg nums h
      rwa [nums_str] at this
      intro x hx
      exact nums_range s x ((List.takeWhile_sublist _).subset hx)
    unfold cleanB
    rw [h1]; simp
  · intro h
    have h1 : (upto (nums s)).length = (nums s).length := by simpa [cleanB] using h
    have h2 := upto_take (nums s)
    rw [h1, List.take_length] at h2
    rw [← h2, str_nums]

set_option maxHeartbeats 2000000 in
theorem rclean_walk (s : ByteArray) (hs : s.size ≤ 1000000) (w : World) : Calls Tryz.prog 104 #[.string s] w fun e w' => e = .returned (.bool (cleanB (nums s))) ∧ Below w.heap.size w w' := by
  obtain ⟨k, w1, hconv, -, hby, hb1⟩ := conv_string (P := Tryz.prog) (src := 9) (dst := 56) Tryz.underlying9 Tryz.underlying56 Tryz.underlying5 w s (by omega)
  have hg := rget_walk hby hs
  have hcs := clean_str s
  go_enter Tryz.func104, Tryz.ntmps104
  go_wp2_with (go_at_call 128; refine hg.mono ?_; rintro e w2 ⟨rfl, hb2⟩)
  go_ret
  exact ⟨rfl, hb1.trans (hb2.mono hb1.size)⟩

theorem clean_has (s : ByteArray) : cleanB (nums s) = !has 0 (bs s) := by
  have key : ∀ l : List UInt8, cleanB (l.map fun c => (c.toNat : Int)) = !has 0 l := by
    intro l
    induction l with
    | nil => rfl
    | cons c t ih =>
      unfold cleanB upto has at ih ⊢
      rw [List.map_cons]
      by_cases hc : c = 0
      · subst hc; simp
      · have hz : ((c.toNat : Int) != 0) = true := by
          simp
          intro e
          exact hc (UInt8.toNat_inj.1 (by simpa using e))
        rw [List.takeWhile_cons, hz, if_pos rfl, List.length_cons, List.length_cons]
        have : ¬ (0 : UInt8) = c := fun e => hc e.symm
        simp only [List.mem_cons, this, false_or]
        rw [← ih]
        simp
  exact key s.data.toList

end Go.Proofs.YthnaanjhmehgcaaGreatDoor

/-
  THE DOCUMENT's WORD ON PAIRS: which known key a key is. Conditions: how many bytes a text may have.
-/
namespace Go.Proofs.YthnaanjhmehgcaaGreatDoor
open Go.ChangeShapes Go.WideShapes Go.ChangeAt Go.RowKit Go.Lib
set_option linter.unusedVariables false
set_option maxRecDepth 20000

/-- which known key it is -/
def whichK (k : List UInt8) : Int := if k = [112, 97, 116, 104] then 0 else if k = [108, 105, 110, 107, 112, 97, 116, 104] then 1 else if k = [117, 110, 97, 109, 101] then 2 else if k = [103, 110, 97, 109, 101] then 3 else if k = [117, 105, 100] then 4 else if k = [103, 105, 100] then 5 else if k = [115, 105, 122, 101] then 6 else if k = [109, 116, 105, 109, 101] then 7 else -1

theorem which_kind (k : List UInt8) : (whichK k = -1 ∧ kindK k = 0) ∨ (0 ≤ whichK k ∧ whichK k < 4 ∧ kindK k = 1) ∨ (4 ≤ whichK k ∧ whichK k < 7 ∧ kindK k = 2) ∨ (whichK k = 7 ∧ kindK k = 3) := by
  by_cases k0 : k = [112, 97, 116, 104]
  · subst k0; decide
  by_cases k1 : k = [108, 105, 110, 107, 112, 97, 116, 104]
  · subst k1; decide
  by_cases k2 : k = [117, 110, 97, 109, 101]
  · subst k2; decide
  by_cases k3 : k = [103, 110, 97, 109, 101]
  · subst k3; decide
  by_cases k4 : k = [117, 105, 100]
  · subst k4; decide
  by_cases k5 : k = [103, 105, 100]
  · subst k5; decide
  by_cases k6 : k = [115, 105, 122, 101]
  · subst k6; decide
  by_cases k7 : k = [109, 116, 105, 109, 101]
  · subst k7; decide
  left
  refine ⟨?_, ?_⟩
  · unfold whichK; rw [if_neg k0, if_neg k1, if_neg k2, if_neg k3, if_neg k4, if_neg k5, if_neg k6, if_neg k7]
  · unfold kindK keysN keysU keysT
    rw [if_neg (by simp [k0, k1, k2, k3]), if_neg (by simp [k4, k5, k6]), if_neg (by simp [k7])]

theorem str_is2 (s : ByteArray) (l : List UInt8) : (l == s.toList) = decide (bs s = l) := by
  rw [← str_is s l, Bool.eq_iff_iff]
  simp only [beq_iff_eq]
  exact eq_comm

set_option maxHeartbeats 4000000 in
theorem which_ok (s : ByteArray) (w : World) : Calls Tryz.prog 73 #[.string s] w fun e w' => e = .returned (.int .i64 (whichK (bs s))) ∧ Below w.heap.size w w' := by
  have E := str_is2 s
  have hb := (Below.refl w.heap.size w).alloc (Nat.le_refl _) (.cells #[.string ⟨#[112, 97, 116, 104]⟩, .string ⟨#[108, 105, 110, 107, 112, 97, 116, 104]⟩, .string ⟨#[117, 110, 97, 109, 101]⟩, .string ⟨#[103, 110, 97, 109, 101]⟩, .string ⟨#[117, 105, 100]⟩, .string ⟨#[103, 105, 100]⟩, .string ⟨#[115, 105, 122, 101]⟩, .string ⟨#[109, 116, 105, 109, 101]⟩] 9)
  by_cases k0 : bs s = [112, 97, 116, 104]
  · have e0 : ([112, 97, 116, 104] == s.toList) = true := by rw [E, decide_eq_true k0]
    have hk : whichK (bs s) = 0 := by rw [k0]; decide
    rw [hk]
    clear hk E k0
    go_enter Tryz.func73, Tryz.ntmps73
    go_wp2
    go_rounds 1
    all_goals go_ret
    all_goals exact ⟨rfl, hb⟩
  have e0 : ([112, 97, 116, 104] == s.toList) = false := by rw [E, decide_eq_false k0]
  by_cases k1 : bs s = [108, 105, 110, 107, 112, 97, 116, 104]
  · have e1 : ([108, 105, 110, 107, 112, 97, 116, 104] == s.toList) = true := by rw [E, decide_eq_true k1]
    have hk : whichK (bs s) = 1 := by rw [k1]; decide
    rw [hk]
    clear hk E k0 k1
    go_enter Tryz.func73, Tryz.ntmps73
    go_wp2
    go_rounds 2
    all_goals go_ret
    all_goals exact ⟨rfl, hb⟩
  have e1 : ([108, 105, 110, 107, 112, 97, 116, 104] == s.toList) = false := by rw [E, decide_eq_false k1]
  by_cases k2 : bs s = [117, 110, 97, 109, 101]
  · have e2 : ([117, 110, 97, 109, 101] == s.toList) = true := by rw [E, decide_eq_true k2]
    have hk : whichK (bs s) = 2 := by rw [k2]; decide
    rw [hk]
    clear hk E k0 k1 k2
    go_enter Tryz.func73, Tryz.ntmps73
    go_wp2
    go_rounds 3
    all_goals go_ret
    all_goals exact ⟨rfl, hb⟩
  have e2 : ([117, 110, 97, 109, 101] == s.toList) = false := by rw [E, decide_eq_false k2]
  by_cases k3 : bs s = [103, 110, 97, 109, 101]
  · have e3 : ([103, 110, 97, 109, 101] == s.toList) = true := by rw [E, decide_eq_true k3]
    have hk : whichK (bs s) = 3 := by rw [k3]; decide
    rw [hk]
    clear hk E k0 k1 k2 k3
    go_enter Tryz.func73, Tryz.ntmps73
    go_wp2
    go_rounds 4
    all_goals go_ret
    all_goals exact ⟨rfl, hb⟩
  have e3 : ([103, 110, 97, 109, 101] == s.toList) = false := by rw [E, decide_eq_false k3]
  by_cases k4 : bs s = [117, 105, 100]
  · have e4 : ([117, 105, 100] == s.toList) = true := by rw [E, decide_eq_true k4]
    have hk : whichK (bs s) = 4 := by rw [k4]; decide
    rw [hk]
    clear hk E k0 k1 k2 k3 k4
    go_enter Tryz.func73, Tryz.ntmps73
    go_wp2
    go_rounds 5
    all_goals go_ret
    all_goals exact ⟨rfl, hb⟩
  have e4 : ([117, 105, 100] == s.toList) = false := by rw [E, decide_eq_false k4]
  by_cases k5 : bs s = [103, 105, 100]
  · have e5 : ([103, 105, 100] == s.toList) = true := by rw [E, decide_eq_true k5]
    have hk : whichK (bs s) = 5 := by rw [k5]; decide
    rw [hk]
    clear hk E k0 k1 k2 k3 k4 k5
    go_enter Tryz.func73, Tryz.ntmps73
    go_wp2
    go_rounds 6
    all_goals go_ret
    all_goals exact ⟨rfl, hb⟩
  have e5 : ([103, 105, 100] == s.toList) = false := by rw [E, decide_eq_false k5]
  by_cases k6 : bs s = [115, 105, 122, 101]
  · have e6 : ([115, 105, 122, 101] == s.toList) = true := by rw [E, decide_eq_true k6]
    have hk : whichK (bs s) = 6 := by rw [k6]; decide
    rw [hk]
    clear hk E k0 k1 k2 k3 k4 k5 k6
    go_enter Tryz.func73, Tryz.ntmps73
    go_wp2
    go_rounds 7
    all_goals go_ret
    all_goals exact ⟨rfl, hb⟩
  have e6 : ([115, 105, 122, 101] == s.toList) = false := by rw [E, decide_eq_false k6]
  by_cases k7 : bs s = [109, 116, 105, 109, 101]
  · have e7 : ([109, 116, 105, 109, 101] == s.toList) = true := by rw [E, decide_eq_true k7]
    have hk : whichK (bs s) = 7 := by rw [k7]; decide
    rw [hk]
    clear hk E k0 k1 k2 k3 k4 k5 k6 k7
    go_enter Tryz.func73, Tryz.ntmps73
    go_wp2
    go_rounds 8
    all_goals go_ret
    all_goals exact ⟨rfl, hb⟩
  have e7 : ([109, 116, 105, 109, 101] == s.toList) = false := by rw [E, decide_eq_false k7]
  have hk : whichK (bs s) = -1 := by unfold whichK; rw [if_neg k0, if_neg k1, if_neg k2, if_neg k3, if_neg k4, if_neg k5, if_neg k6, if_neg k7]
  rw [hk]
  clear hk E k0 k1 k2 k3 k4 k5 k6 k7
  go_enter Tryz.func73, Tryz.ntmps73
  go_wp2
  go_rounds 9
  all_goals go_ret
  all_goals exact ⟨rfl, hb⟩

end Go.Proofs.YthnaanjhmehgcaaGreatDoor
