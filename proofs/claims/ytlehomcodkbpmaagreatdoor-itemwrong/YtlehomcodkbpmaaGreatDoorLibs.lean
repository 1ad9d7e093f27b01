/-
  The library's functions that the program calls, at this program: FormatUint and ParseUint at base 10, Cut at a point.
  Conditions: the package variables that they read hold what the program's text lays.
-/
import Derived.Test.YtlehomcodkbpmaaGreatDoorShelf
import Derived.Test.YtlehomcodkbpmaaGreatDoorPlain
import Derived.Test.YtlehomcodkbpmaaGreatDoorStrs
import Derived.Lib.SmallJoins
import Derived.Lib.AppendIntMem
import Derived.Lib.ItoaMem
import Derived.BigCall
import Derived.BigGuard
namespace Go.Proofs.YtlehomcodkbpmaaGreatDoor
open Go.ChangeShapes Go.WideShapes Go.ChangeAt Go.RowKit Go.Lib Go.Sort

/-- The bytes of a string. -/
def bs (s : ByteArray) : List UInt8 := s.data.toList
def txt (l : List UInt8) : ByteArray := ⟨l.toArray⟩
theorem txt_bs (s : ByteArray) : txt (bs s) = s := by unfold txt bs; cases s; simp
theorem bs_txt (l : List UInt8) : bs (txt l) = l := by unfold txt bs; simp
theorem bs_len (s : ByteArray) : (bs s).length = s.size := by unfold bs; rw [Array.length_toList]; rfl
theorem txt_size (l : List UInt8) : (txt l).size = l.length := by rw [← bs_len, bs_txt]
theorem txt_app (a b : List UInt8) : txt a ++ txt b = txt (a ++ b) := by
  unfold txt
  apply ByteArray.ext
  simp
/-- What the listed variables hold. -/
structure Laid (w : World) : Prop where
  pow : TabIs Tryz.prog w "internal/strconv.uint64pow10" .u64 pow10Tab
  syn : ∃ t p, w.var? Tryz.prog "strconv.ErrSyntax" = some #[.iface t p]
  ran : ∃ t p, w.var? Tryz.prog "strconv.ErrRange" = some #[.iface t p]

theorem gPow : Tryz.prog.globalNamed "internal/strconv.uint64pow10" = some 3 := by kernel_rfl
theorem gSyn : Tryz.prog.globalNamed "strconv.ErrSyntax" = some 1 := by kernel_rfl
theorem gRan : Tryz.prog.globalNamed "strconv.ErrRange" = some 2 := by kernel_rfl

theorem Laid.below {w w' : World} (h : Laid w) (hb : Below w.heap.size w w') : Laid w' := by
  obtain ⟨t2, p2, h2⟩ := h.syn
  obtain ⟨t3, p3, h3⟩ := h.ran
  exact ⟨Joins.tab_stays gPow h.pow hb (Nat.le_refl _), ⟨t2, p2, Joins.var_stays gSyn h2 hb (Nat.le_refl _)⟩, ⟨t3, p3, Joins.var_stays gRan h3 hb (Nat.le_refl _)⟩⟩

/-- strconv.ParseUint at base 10, 64 bits: a number. -/
theorem parse_yes (s : ByteArray) (hs : s.size ≤ 281474976710656) (hne : bs s ≠ []) (hd : allD (bs s) = true) (hv : val 0 (bs s) ≤ 18446744073709551615) (w : World) :
    Calls Tryz.prog 88 #[.string s, .int .i64 10, .int .i64 64] w fun e w' => e = .returned (.tuple #[.int .u64 (val 0 (bs s) : Nat), .nilIface]) ∧ Below w.heap.size w w' := by
  refine (Tryz.strconv_ParseUint_10_at64_ok s (by omega) (val 0 (bs s)) (parse_ok hne hd hv) w).mono ?_
  rintro e w' ⟨rfl, rfl | rfl⟩
  · exact ⟨rfl, Below.refl _ _⟩
  · exact ⟨rfl, bytesWorld_below w 5 s⟩
/-- .. and none. -/
theorem parse_no (s : ByteArray) (hs : s.size ≤ 281474976710656) (h : bs s = [] ∨ ¬ (allD (bs s) = true ∧ val 0 (bs s) ≤ 18446744073709551615)) (w : World) (hL : Laid w) :
    Calls Tryz.prog 88 #[.string s, .int .i64 10, .int .i64 64] w fun e w' => ∃ v N, e = .returned (.tuple #[.int .u64 v, .iface 106 (.pointer (some ⟨N, 0, none⟩))]) ∧ Below w.heap.size w w' := by
  have hno := parse_not h
  obtain ⟨t2, p2, h2⟩ := hL.syn
  obtain ⟨t3, p3, h3⟩ := hL.ran
  cases hp : parseUintB 64 (bs s)
  · exact absurd hp (hno _)
  · refine (Any.strconv_ParseUint_10_at64_syntax_var Tryz.laysPu14 s hs hp t2 p2 w h2).mono ?_
    rintro e w' ⟨N, rfl, _, _, hb⟩
    exact ⟨0, N, rfl, hb⟩
  · refine (Any.strconv_ParseUint_10_at64_range_var Tryz.laysPu14 s hs hp t3 p3 w h3).mono ?_
    rintro e w' ⟨N, rfl, _, _, hb⟩
    exact ⟨18446744073709551615, N, rfl, hb⟩

/-! ### The point -/
theorem point_miss : ∀ l : List UInt8, indexByte l 46 = -1 → ahead l = l ∧ behind l = [] ∧ pointed l = false := by
  intro l
  induction l with
  | nil => intro _; exact ⟨rfl, rfl, rfl⟩
  | cons c r ih =>
    intro h
    unfold indexByte at h
    by_cases hc : (c == 46) = true
    · rw [if_pos hc] at h; cases h
    · rw [if_neg hc] at h
      have hge := indexByte_ge r 46
      have hr : indexByte r 46 = -1 := by
        split at h
        · rename_i h'; exact eq_of_beq h'
        · omega
      obtain ⟨h1, h2, h3⟩ := ih hr
      have hc' : (c != 46) = true := by simpa [bne] using hc
      have hc2 : (46 == c) = false := by
        cases h' : (46 == c)
        · rfl
        · exact absurd (by rw [← eq_of_beq h']; simp) hc
      refine ⟨?_, ?_, ?_⟩
      · unfold ahead at *
        rw [List.takeWhile_cons, if_pos hc', h1]
      · unfold behind at *
        rw [List.dropWhile_cons, if_pos hc', h2]
      · unfold pointed at *
        rw [List.contains_cons, hc2, h3]; rfl
theorem point_hit : ∀ (l : List UInt8) (i : Nat), indexByte l 46 = i → i < l.length ∧ ahead l = l.take i ∧ behind l = l.drop (i + 1) ∧ pointed l = true := by
  intro l
  induction l with
  | nil => intro i h; have h' : indexByte [] 46 = -1 := rfl; rw [h'] at h; omega
  | cons c r ih =>
    intro i h
    unfold indexByte at h
    by_cases hc : (c == 46) = true
    · rw [if_pos hc] at h
      obtain rfl : i = 0 := by omega
      have hc' : (c != 46) = false := by simpa [bne] using hc
      have e : c = 46 := eq_of_beq hc
      refine ⟨by simp, ?_, ?_, ?_⟩
      · unfold ahead; rw [List.takeWhile_cons, hc']; rfl
      · unfold behind; rw [List.dropWhile_cons, hc']; rfl
      · unfold pointed; rw [List.contains_cons, e]; rfl
    · rw [if_neg hc] at h
      have hge := indexByte_ge r 46
      split at h
      · omega
      · rename_i hne
        have hne' : indexByte r 46 ≠ -1 := fun e => hne (by rw [e]; rfl)
        obtain ⟨j, rfl⟩ : ∃ j, i = j + 1 := ⟨i - 1, by omega⟩
        obtain ⟨h0, h1, h2, h3⟩ := ih j (by omega)
        have hc' : (c != 46) = true := by simpa [bne] using hc
        refine ⟨by simp; omega, ?_, ?_, ?_⟩
        · unfold ahead at *; rw [List.takeWhile_cons, if_pos hc', h1]; rfl
        · unfold behind at *; rw [List.dropWhile_cons, if_pos hc', h2]; rfl
        · unfold pointed at *; rw [List.contains_cons, h3, Bool.or_true]

theorem ext_upto (s : ByteArray) (k : Nat) : s.extract 0 k = txt ((bs s).take k) := extract_upto s k
theorem ext_from (s : ByteArray) (k : Nat) : s.extract k s.size = txt ((bs s).drop k) := extract_from s k

set_option maxHeartbeats 4000000 in
set_option maxRecDepth 20000 in
theorem cut_inner (s : ByteArray) (hs : s.size ≤ 281474976710656) (w : World) :
    Calls Tryz.prog 98 #[.string s, .string ⟨#[46]⟩] w fun e w' => e = .returned (.tuple #[.string (txt (ahead (bs s))), .string (txt (behind (bs s))), .bool (pointed (bs s))]) ∧ Below w.heap.size w w' := by
  have hge := indexByte_ge (bs s) 46
  by_cases hm : indexByte (bs s) 46 = -1
  · obtain ⟨h1, h2, h3⟩ := point_miss _ hm
    rw [h1, h2, h3, txt_bs]
    have HM := hid hm
    clear hm hge h1 h2 h3
    go_enter Tryz.func98, Tryz.ntmps98
    go_wp2_with (go_at_call 87; refine (Tryz.stringslite_Index_one s 46 _).mono ?_; rintro e w' ⟨rfl, rfl⟩; rw [show indexByte s.data.toList 46 = -1 from HM.out])
    go_ret3
    exact ⟨rfl, Below.refl _ _⟩
  · obtain ⟨i, hi⟩ : ∃ i : Nat, indexByte (bs s) 46 = i := ⟨(indexByte (bs s) 46).toNat, by omega⟩
    obtain ⟨h0, h1, h2, h3⟩ := point_hit _ _ hi
    rw [bs_len] at h0
    rw [h1, h2, h3, ← ext_upto, ← ext_from]
    have HM := hid hi
    have c1 : (0 : Int) ≤ ↑i := by omega
    have c2 : (↑i : Int) ≤ ↑s.size := by omega
    have c3 : (0 : Int) ≤ ↑i + 1 := by omega
    have c4 : (↑i + 1 : Int) ≤ ↑s.size := by omega
    clear hm hge h1 h2 h3 hi
    go_enter Tryz.func98, Tryz.ntmps98
    go_wp2_with (go_at_call 87; refine (Tryz.stringslite_Index_one s 46 _).mono ?_; rintro e w' ⟨rfl, rfl⟩; rw [show indexByte s.data.toList 46 = _ from HM.out])
    go_region
    go_wp2
    go_ret3
    exact ⟨rfl, (Below.refl _ _).drew⟩

/-- strings.Cut at a point. -/
theorem cut_ok (s : ByteArray) (hs : s.size ≤ 281474976710656) (w : World) :
    Calls Tryz.prog 90 #[.string s, .string ⟨#[46]⟩] w fun e w' => e = .returned (.tuple #[.string (txt (ahead (bs s))), .string (txt (behind (bs s))), .bool (pointed (bs s))]) ∧ Below w.heap.size w w' := by
  go_enter Tryz.func90, Tryz.ntmps90
  go_wp2_with (go_at_call 98; refine (cut_inner s hs _).mono ?_; rintro e w' ⟨rfl, hb⟩)
  go_ret3
  exact ⟨rfl, hb⟩

/-- strings.CutPrefix at a minus. -/
theorem minus_ok (s : ByteArray) (w : World) :
    Calls Tryz.prog 78 #[.string s, .string ⟨#[45]⟩] w fun e w' => e = .returned (.tuple #[.string (txt (if (bs s).head? = some 45 then (bs s).tail else bs s)), .bool (decide ((bs s).head? = some 45))]) ∧ w' = w := by
  refine (Tryz.strings_CutPrefix s ⟨#[45]⟩ w).mono ?_
  rintro e w' ⟨rfl, rfl⟩
  refine ⟨?_, rfl⟩
  have hp : hasPrefix (bs s) [45] = decide ((bs s).head? = some 45) := by
    unfold hasPrefix
    cases bs s with
    | nil => rfl
    | cons c r =>
      have : ((45 : UInt8) == c) = decide (c = 45) := by
        by_cases h : c = 45
        · subst h; rfl
        · rw [decide_eq_false h]
          cases h' : ((45 : UInt8) == c)
          · rfl
          · exact absurd (eq_of_beq h').symm h
      simp [List.isPrefixOf, this]
  have ht : trimPrefix (bs s) [45] = if (bs s).head? = some 45 then (bs s).tail else bs s := by
    unfold trimPrefix
    rw [hp]
    by_cases h : (bs s).head? = some 45
    · rw [if_pos h, if_pos (by simpa using h)]; simp
    · rw [if_neg h, if_neg (by simpa using h)]
  show Ending.returned (.tuple #[.string (txt (trimPrefix (bs s) [45])), .bool (hasPrefix (bs s) [45])]) = _
  rw [hp, ht]
end Go.Proofs.YtlehomcodkbpmaaGreatDoor
