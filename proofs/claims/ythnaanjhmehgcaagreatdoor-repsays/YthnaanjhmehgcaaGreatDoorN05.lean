/-
  The library's functions that the program calls, at this program: FormatUint and ParseUint at base 10, Cut at a point.
  Conditions: the package variables that they read hold what the program's text lays.; AND WHAT FOLLOWS OF IT. Conditions: those that each part names.
-/
import Derived.Test.YthnaanjhmehgcaaGreatDoorN01
import Derived.Test.YthnaanjhmehgcaaGreatDoorN04
import Derived.Test.YthnaanjhmehgcaaGreatDoorN03
import Derived.Lib.SmallJoins
import Derived.Lib.AppendIntMem
import Derived.Lib.ItoaMem
import Derived.BigCall
import Derived.BigGuard
/-
  The library's functions that the program calls, at this program: FormatUint and ParseUint at base 10, Cut at a point.
  Conditions: the package variables that they read hold what the program's text lays.
-/
namespace Go.Proofs.YthnaanjhmehgcaaGreatDoor
open Go.ChangeShapes Go.WideShapes Go.ChangeAt Go.RowKit Go.Lib Go.Sort

/-- The bytes of a string. -/
def bs (s : ByteArray) : List UInt8 := s.data.toList
def txt (l : List UInt8) : ByteArray := ⟨l.toArray⟩
theorem txt_bs (s : ByteArray) : txt (bs s) = s := by unfold txt bs; cases s; simp
theorem bs_txt (l : List UInt8) : bs (txt l) = l := by unfold txt bs; simp
theorem bs_len (s : ByteArray) : (bs s).length = s.size := by unfold bs; rw [Array.length_toList]; rfl
theorem txt_size (l : List UInt8) : (txt l).size = l.length := by rw [← bs_len, bs_txt]
theorem txt_app (a b : List UInt8) : txt a ++ txt b = txt (a ++ b) := by
  unfold txt
  apply ByteArray.ext
  simp
/-- What the listed variables hold. -/
structure Laid (w : World) : Prop where
  pow : TabIs Tryz.prog w "internal/strconv.uint64pow10" .u64 pow10Tab
  syn : ∃ t p, w.var? Tryz.prog "strconv.ErrSyntax" = some #[.iface t p]
  ran : ∃ t p, w.var? Tryz.prog "strconv.ErrRange" = some #[.iface t p]

theorem gPow : Tryz.prog.globalNamed "internal/strconv.uint64pow10" = some 1 := by kernel_rfl
theorem gSyn : Tryz.prog.globalNamed "strconv.ErrSyntax" = some 2 := by kernel_rfl
theorem gRan : Tryz.prog.globalNamed "strconv.ErrRange" = some 3 := by kernel_rfl

theorem Laid.below {w w' : World} (h : Laid w) (hb : Below w.heap.size w w') : Laid w' := by
  obtain ⟨t2, p2, h2⟩ := h.syn
  obtain ⟨t3, p3, h3⟩ := h.ran
  exact ⟨Joins.tab_stays gPow h.pow hb (Nat.le_refl _), ⟨t2, p2, Joins.var_stays gSyn h2 hb (Nat.le_refl _)⟩, ⟨t3, p3, Joins.var_stays gRan h3 hb (Nat.le_refl _)⟩⟩

set_option maxHeartbeats 6400000 in
set_option maxRecDepth 100000 in
theorem fmt_inner (u : Nat) (hu64 : u < 18446744073709551616) (w : World) (hL : Laid w) :
    Calls Tryz.prog 153 #[.int .u64 u, .int .i64 10] w fun e w' => e = .returned (.string (txt (decDigits u))) ∧ Below w.heap.size w w' := by
  by_cases hs : u < 100
  · have hlt : ((u : Int) < 100) := by omega
    go_enter Tryz.func153, Tryz.ntmps153
    go_wp2_with (go_at_call 178; refine (Tryz.internal_strconv_small u hs _).mono ?_; rintro e w' ⟨rfl, rfl⟩)
    go_ret
    exact ⟨rfl, Below.refl _ _⟩
  · have hu1 : 1 ≤ u := by omega
    have hlt : ¬ ((u : Int) < 100) := by omega
    have htab := hL.pow
    have hnd20 : nDigits u ≤ 20 := by have := numDigits_eq u hu1 hu64; split at this <;> omega
    have hb3 : nDigits u ≤ 24 := by omega
    have hal : Tryz.prog.arrayLen 171 = 24 := by kernel_rfl
    have hsl1 : ∀ W, (Instr.sliceAt 171 (.pointer (some ⟨w.heap.size, 0, none⟩)) none (some (.int .i64 (nDigits u : Int))) none).run Tryz.prog W = .ok (.slice (some ⟨w.heap.size, 0, none⟩) (nDigits u) 24) W := fun W => by
      rw [run_sliceAt_array_h W 171 ⟨w.heap.size, 0, none⟩ (by kernel_rfl) .i64 (nDigits u : Int) (by omega) (by rw [hal]; omega)]
      go_simp
    have hH0 : Holds (fun (b : UInt8) => Value.int .u8 (b.toNat : Int)) (w.alloc (.cells zeros24 171)) w.heap.size 0 (Array.replicate (nDigits u) 0) := fun j hj => by
      have hj' : j < nDigits u := by simpa using hj
      refine ⟨?_, World.frozen?_alloc_new _ _ _ _⟩
      rw [World.cell?_alloc_new, zeros24_at _ (by omega), getElem!_pos _ j hj]
      simp
    have hfmt := Tryz.internal_strconv_formatBase10 w.heap.size 0 24 u (Array.replicate (nDigits u) 0) (w.alloc (.cells zeros24 171)) hH0 (by rw [Array.size_replicate]; exact lt_pow_nDigits u) hu64 (by rw [Array.size_replicate]; omega)
    rw [Array.size_replicate] at hfmt
    have HH0 := Lib.hid hH0
    clear hH0 hal
    go_enter Tryz.func153, Tryz.ntmps153
    go_wp2_with (first
      | (go_at_call 179; refine (Tryz.internal_strconv_numDigits u hu1 hu64 _ (tabIs_alloc htab _)).mono ?_; rintro e w' ⟨rfl, rfl⟩))
    go_at_call 180
    refine hfmt.mono ?_
    rintro e w' ⟨rfl, k, v', dk, rfl, hF⟩
    have hcv : (convert 56 9 (.slice (some ⟨w.heap.size, 0, none⟩) (nDigits u) 24)).run Tryz.prog ((putRow (fun (b : UInt8) => Value.int .u8 (b.toNat : Int)) (w.alloc (.cells zeros24 171)) w.heap.size 0 dk).drewN k) = .ok (.string ⟨(decDigits u).toArray⟩) ((putRow (fun (b : UInt8) => Value.int .u8 (b.toNat : Int)) (w.alloc (.cells zeros24 171)) w.heap.size 0 dk).drewN k) := by
      have h := run_convert_bytes_back (P := Tryz.prog) ((putRow (fun (b : UInt8) => Value.int .u8 (b.toNat : Int)) (w.alloc (.cells zeros24 171)) w.heap.size 0 dk).drewN k) 56 9 5 ⟨w.heap.size, 0, none⟩ 24 (decDigits u) (by kernel_rfl) (by kernel_rfl) (by kernel_rfl) (fun j hj => by
        rw [row_is_numeral hF j hj, Lib.add_plain, World.cell?_drewN]
        exact cell?_putRow (fun (b : UInt8) => Value.int .u8 (b.toNat : Int)) _ w.heap.size 0 _ dk HH0.out (by rw [hF.size, Array.size_replicate]) j (by rw [hF.size]; rw [decDigits_length] at hj; exact hj))
      rw [decDigits_length] at h
      exact h
    go_wp2
    go_ret
    refine ⟨rfl, ?_⟩
    have : ∃ os, (putRow (fun (b : UInt8) => Value.int .u8 (b.toNat : Int)) (w.alloc (.cells zeros24 171)) w.heap.size 0 dk).drewN k = grow (w.drewN k) os := by
      rw [alloc_eq_grow]
      obtain ⟨os', _, e⟩ := putRow_grow_new (fun (b : UInt8) => Value.int .u8 (b.toNat : Int)) w #[.cells zeros24 171] w.heap.size 0 dk (Nat.le_refl _)
      exact ⟨os', by rw [e]; rfl⟩
    obtain ⟨os, eo⟩ := this
    rw [eo]
    exact below_grow _ w (Nat.le_refl _) k os

/-- strconv.FormatUint at base 10. -/
theorem fmt_ok (u : Nat) (hu64 : u < 18446744073709551616) (w : World) (hL : Laid w) :
    Calls Tryz.prog 124 #[.int .u64 u, .int .i64 10] w fun e w' => e = .returned (.string (txt (decDigits u))) ∧ Below w.heap.size w w' := by
  go_enter Tryz.func124, Tryz.ntmps124
  go_wp2_with (go_at_call 153; refine (fmt_inner u hu64 _ hL).mono ?_; rintro e w' ⟨rfl, hb⟩)
  go_ret
  exact ⟨rfl, hb⟩

/-- strconv.ParseUint at base 10, 64 bits: a number. -/
theorem parse_yes (s : ByteArray) (hs : s.size ≤ 281474976710656) (hne : bs s ≠ []) (hd : allD (bs s) = true) (hv : val 0 (bs s) ≤ 18446744073709551615) (w : World) :
    Calls Tryz.prog 149 #[.string s, .int .i64 10, .int .i64 64] w fun e w' => e = .returned (.tuple #[.int .u64 (val 0 (bs s) : Nat), .nilIface]) ∧ Below w.heap.size w w' := by
  refine (Tryz.strconv_ParseUint_10_at64_ok s (by omega) (val 0 (bs s)) (parse_ok hne hd hv) w).mono ?_
  rintro e w' ⟨rfl, rfl | rfl⟩
  · exact ⟨rfl, Below.refl _ _⟩
  · exact ⟨rfl, bytesWorld_below w 5 s⟩
/-- .. and none. -/
theorem parse_no (s : ByteArray) (hs : s.size ≤ 281474976710656) (h : bs s = [] ∨ ¬ (allD (bs s) = true ∧ val 0 (bs s) ≤ 18446744073709551615)) (w : World) (hL : Laid w) :
    Calls Tryz.prog 149 #[.string s, .int .i64 10, .int .i64 64] w fun e w' => ∃ v N, e = .returned (.tuple #[.int .u64 v, .iface 186 (.pointer (some ⟨N, 0, none⟩))]) ∧ Below w.heap.size w w' := by
  have hno := parse_not h
  obtain ⟨t2, p2, h2⟩ := hL.syn
  obtain ⟨t3, p3, h3⟩ := hL.ran
  cases hp : parseUintB 64 (bs s)
  · exact absurd hp (hno _)
  · refine (Any.strconv_ParseUint_10_at64_syntax_var Tryz.laysPu14 s hs hp t2 p2 w h2).mono ?_
    rintro e w' ⟨N, rfl, _, _, hb⟩
    exact ⟨0, N, rfl, hb⟩
  · refine (Any.strconv_ParseUint_10_at64_range_var Tryz.laysPu14 s hs hp t3 p3 w h3).mono ?_
    rintro e w' ⟨N, rfl, _, _, hb⟩
    exact ⟨18446744073709551615, N, rfl, hb⟩

/-! ### The point -/
theorem point_miss : ∀ l : List UInt8, indexByte l 46 = -1 → ahead l = l ∧ behind l = [] ∧ pointed l = false := by
  intro l
  induction l with
  | nil => intro _; exact ⟨rfl, rfl, rfl⟩
  | cons c r ih =>
    intro h
    unfold indexByte at h
    by_cases hc : (c == 46) = true
    · rw [if_pos hc] at h; cases h
    · rw [if_neg hc] at h
      have hge := indexByte_ge r 46
      have hr : indexByte r 46 = -1 := by
        split at h
        · rename_i h'; exact eq_of_beq h'
        · omega
      obtain ⟨h1, h2, h3⟩ := ih hr
      have hc' : (c != 46) = true := by simpa [bne] using hc
      have hc2 : (46 == c) = false := by
        cases h' : (46 == c)
        · rfl
        · exact absurd (by rw [← eq_of_beq h']; simp) hc
      refine ⟨?_, ?_, ?_⟩
      · unfold ahead at *
        rw [List.takeWhile_cons, if_pos hc', h1]
      · unfold behind at *
        rw [List.dropWhile_cons, if_pos hc', h2]
      · unfold pointed at *
        rw [List.contains_cons, hc2, h3]; rfl
theorem point_hit : ∀ (l : List UInt8) (i : Nat), indexByte l 46 = i → i < l.length ∧ ahead l = l.take i ∧ behind l = l.drop (i + 1) ∧ pointed l = true := by
  intro l
  induction l with
  | nil => intro i h; have h' : indexByte [] 46 = -1 := rfl; rw [h'] at h; omega
  | cons c r ih =>
    intro i h
    unfold indexByte at h
    by_cases hc : (c == 46) = true
    · rw [if_pos hc] at h
      obtain rfl : i = 0 := by omega
      have hc' : (c != 46) = false := by simpa [bne] using hc
      have e : c = 46 := eq_of_beq hc
      refine ⟨by simp, ?_, ?_, ?_⟩
      · unfold ahead; rw [List.takeWhile_cons, hc']; rfl
      · unfold behind; rw [List.dropWhile_cons, hc']; rfl
      · unfold pointed; rw [List.contains_cons, e]; rfl
    · rw [if_neg hc] at h
      have hge := indexByte_ge r 46
      split at h
      · omega
      · rename_i hne
        have hne' : indexByte r 46 ≠ -1 := fun e => hne (by rw [e]; rfl)
        obtain ⟨j, rfl⟩ : ∃ j, i = j + 1 := ⟨i - 1, by omega⟩
        obtain ⟨h0, h1, h2, h3⟩ := ih j (by omega)
        have hc' : (c != 46) = true := by simpa [bne] using hc
        refine ⟨by simp; omega, ?_, ?_, ?_⟩
        · unfold ahead at *; rw [List.takeWhile_cons, if_pos hc', h1]; rfl
        · unfold behind at *; rw [List.dropWhile_cons, if_pos hc', h2]; rfl
        · unfold pointed at *; rw [List.contains_cons, h3, Bool.or_true]

theorem ext_upto (s : ByteArray) (k : Nat) : s.extract 0 k = txt ((bs s).take k) := extract_upto s k
theorem ext_from (s : ByteArray) (k : Nat) : s.extract k s.size = txt ((bs s).drop k) := extract_from s k

set_option maxHeartbeats 4000000 in
set_option maxRecDepth 20000 in
theorem cut_inner (s : ByteArray) (hs : s.size ≤ 281474976710656) (w : World) :
    Calls Tryz.prog 177 #[.string s, .string ⟨#[46]⟩] w fun e w' => e = .returned (.tuple #[.string (txt (ahead (bs s))), .string (txt (behind (bs s))), .bool (pointed (bs s))]) ∧ Below w.heap.size w w' := by
  have hge := indexByte_ge (bs s) 46
  by_cases hm : indexByte (bs s) 46 = -1
  · obtain ⟨h1, h2, h3⟩ := point_miss _ hm
    rw [h1, h2, h3, txt_bs]
    have HM := hid hm
    clear hm hge h1 h2 h3
    go_enter Tryz.func177, Tryz.ntmps177
    go_wp2_with (go_at_call 174; refine (Tryz.stringslite_Index_one s 46 _).mono ?_; rintro e w' ⟨rfl, rfl⟩; rw [show indexByte s.data.toList 46 = -1 from HM.out])
    go_ret3
    exact ⟨rfl, Below.refl _ _⟩
  · obtain ⟨i, hi⟩ : ∃ i : Nat, indexByte (bs s) 46 = i := ⟨(indexByte (bs s) 46).toNat, by omega⟩
    obtain ⟨h0, h1, h2, h3⟩ := point_hit _ _ hi
    rw [bs_len] at h0
    rw [h1, h2, h3, ← ext_upto, ← ext_from]
    have HM := hid hi
    have c1 : (0 : Int) ≤ ↑i := by omega
    have c2 : (↑i : Int) ≤ ↑s.size := by omega
    have c3 : (0 : Int) ≤ ↑i + 1 := by omega
    have c4 : (↑i + 1 : Int) ≤ ↑s.size := by omega
    clear hm hge h1 h2 h3 hi
    go_enter Tryz.func177, Tryz.ntmps177
    go_wp2_with (go_at_call 174; refine (Tryz.stringslite_Index_one s 46 _).mono ?_; rintro e w' ⟨rfl, rfl⟩; rw [show indexByte s.data.toList 46 = _ from HM.out])
    go_region
    go_wp2
    go_ret3
    exact ⟨rfl, (Below.refl _ _).drew⟩

/-- strings.Cut at a point. -/
theorem cut_ok (s : ByteArray) (hs : s.size ≤ 281474976710656) (w : World) :
    Calls Tryz.prog 151 #[.string s, .string ⟨#[46]⟩] w fun e w' => e = .returned (.tuple #[.string (txt (ahead (bs s))), .string (txt (behind (bs s))), .bool (pointed (bs s))]) ∧ Below w.heap.size w w' := by
  go_enter Tryz.func151, Tryz.ntmps151
  go_wp2_with (go_at_call 177; refine (cut_inner s hs _).mono ?_; rintro e w' ⟨rfl, hb⟩)
  go_ret3
  exact ⟨rfl, hb⟩

/-- strings.CutPrefix at a minus. -/
theorem minus_ok (s : ByteArray) (w : World) :
    Calls Tryz.prog 120 #[.string s, .string ⟨#[45]⟩] w fun e w' => e = .returned (.tuple #[.string (txt (if (bs s).head? = some 45 then (bs s).tail else bs s)), .bool (decide ((bs s).head? = some 45))]) ∧ w' = w := by
  refine (Tryz.strings_CutPrefix s ⟨#[45]⟩ w).mono ?_
  rintro e w' ⟨rfl, rfl⟩
  refine ⟨?_, rfl⟩
  have hp : hasPrefix (bs s) [45] = decide ((bs s).head? = some 45) := by
    unfold hasPrefix
    cases bs s with
    | nil => rfl
    | cons c r =>
      have : ((45 : UInt8) == c) = decide (c = 45) := by
        by_cases h : c = 45
        · subst h; rfl
        · rw [decide_eq_false h]
          cases h' : ((45 : UInt8) == c)
          · rfl
          · exact absurd (eq_of_beq h').symm h
      simp [List.isPrefixOf, this]
  have ht : trimPrefix (bs s) [45] = if (bs s).head? = some 45 then (bs s).tail else bs s := by
    unfold trimPrefix
    rw [hp]
    by_cases h : (bs s).head? = some 45
    · rw [if_pos h, if_pos (by simpa using h)]; simp
    · rw [if_neg h, if_neg (by simpa using h)]
  show Ending.returned (.tuple #[.string (txt (trimPrefix (bs s) [45])), .bool (hasPrefix (bs s) [45])]) = _
  rw [hp, ht]
end Go.Proofs.YthnaanjhmehgcaaGreatDoor

/-
  The program's functions of numbers: what they answer.
  Conditions: the package variables that the library reads hold what the program's text lays; strings of at most 2^48 bytes.
-/
namespace Go.Proofs.YthnaanjhmehgcaaGreatDoor
open Go.ChangeShapes Go.WideShapes Go.ChangeAt Go.RowKit Go.Lib Go.Sort

theorem wrap_neg (n : Int) (h0 : -9223372036854775808 ≤ n) (h1 : n < 0) : IntKind.u64.wrap (-IntKind.u64.wrap n) = (n.natAbs : Int) := by
  rw [IntKind.wrap_u64, IntKind.wrap_u64]; omega
theorem wrap_pos (n : Int) (h0 : 0 ≤ n) (h1 : n ≤ 9223372036854775807) : IntKind.u64.wrap n = (n.natAbs : Int) := by
  rw [IntKind.wrap_u64]; omega

theorem dec_size (u : Nat) (h : u < 18446744073709551616) : (txt (decDigits u)).size ≤ 20 := by
  rw [txt_size, decDigits_length]
  exact nDigits_le 19 u (by omega)
theorem sign_size (n : Int) : (txt (signOf n)).size ≤ 1 := by
  rw [txt_size]; unfold signOf; split <;> simp

theorem apart_ok (n : Int) (h0 : -9223372036854775808 ≤ n) (h1 : n ≤ 9223372036854775807) (w : World) :
    Calls Tryz.prog 123 #[.int .i64 n] w fun e w' => w' = w ∧ e = .returned (.tuple #[.string (txt (signOf n)), .int .u64 (n.natAbs : Nat)]) := by
  by_cases hn : n < 0
  · have hs : signOf n = [45] := if_pos hn
    rw [hs]
    have hw := wrap_neg n h0 hn
    go_enter Tryz.func123, Tryz.ntmps123
    go_wp2
    go_ret2
    exact ⟨rfl, rfl⟩
  · have hs : signOf n = [] := if_neg hn
    rw [hs]
    have hw := wrap_pos n (by omega) h1
    go_enter Tryz.func123, Tryz.ntmps123
    go_wp2
    go_ret2
    exact ⟨rfl, rfl⟩

theorem text_ok (n : Int) (h0 : -9223372036854775808 ≤ n) (h1 : n ≤ 9223372036854775807) (w : World) (hL : Laid w) :
    Calls Tryz.prog 99 #[.int .i64 n] w fun e w' => e = .returned (.string (txt (signOf n ++ decDigits n.natAbs))) ∧ Below w.heap.size w w' := by
  have ha := apart_ok n h0 h1 w
  have hf := fmt_ok n.natAbs (by omega) w hL
  have s1 := dec_size n.natAbs (by omega)
  have s2 := sign_size n
  have hcat : ¬ 9223372036854775807 < (txt (signOf n)).size + (txt (decDigits n.natAbs)).size := by omega
  clear s1 s2
  generalize n.natAbs = u at ha hf hcat ⊢
  go_enter Tryz.func99, Tryz.ntmps99
  go_wp2_with (first
    | (go_at_call 123; refine ha.mono ?_; rintro e w' ⟨hw, rfl⟩; obtain rfl := hw.symm)
    | (go_at_call 124; refine hf.mono ?_; rintro e w' ⟨rfl, hb⟩))
  go_ret
  exact ⟨ret_string (txt_app _ _), hb⟩

theorem bs_at (s : ByteArray) (k : Nat) (h : k < s.size) : (bs s)[k]? = some (s[k]'h) := by
  have e : s = ⟨(bs s).toArray⟩ := (txt_bs s).symm
  have := getElem_mk (bs s) k (by rw [← e]; exact h)
  rw [this]
  congr 1
theorem bs_head (s : ByteArray) (h : 0 < s.size) : (bs s).head? = some (s[0]'h) := by rw [← bs_at s 0 h]; cases bs s <;> rfl

/-- natural: a number's text. -/
theorem natural_yes (s : ByteArray) (hs : s.size ≤ 281474976710656) (u : Nat) (hu : nat63 (bs s) = some u) (w : World) :
    Calls Tryz.prog 119 #[.string s] w fun e w' => e = .returned (.tuple #[.int .u64 u, .bool true]) ∧ Below w.heap.size w w' := by
  obtain ⟨hne, hd, hz, hv, hm⟩ := nat63_some hu
  have hp := parse_yes s hs hne hd (by omega) w
  rw [hv] at hp
  have hm' : ¬ (9223372036854775808 : Int) < u := by omega
  clear hv hd hne hu hm
  by_cases h1 : 1 < s.size
  · have h0 : 0 < s.size := by omega
    have hh : ¬ ((s[0]'h0).toNat : Int) = 48 := fun e => hz ⟨by rw [bs_head s h0]; congr 1; apply UInt8.toNat_inj.1; rw [show ((48 : UInt8).toNat) = 48 from rfl]; omega, by rw [bs_len]; exact h1⟩
    have hb1 : (1 : Int) < s.size := by omega
    clear hz
    go_enter Tryz.func119, Tryz.ntmps119
    go_wp2_with (go_at_call 149; refine hp.mono ?_; rintro e w' ⟨rfl, hb⟩)
    go_ret2
    exact ⟨rfl, hb⟩
  · have hb1 : ¬ (1 : Int) < s.size := by omega
    clear hz
    go_enter Tryz.func119, Tryz.ntmps119
    go_wp2_with (go_at_call 149; refine hp.mono ?_; rintro e w' ⟨rfl, hb⟩)
    go_ret2
    exact ⟨rfl, hb⟩

/-- natural: none. -/
theorem natural_no (s : ByteArray) (hs : s.size ≤ 281474976710656) (hu : nat63 (bs s) = none) (w : World) (hL : Laid w) :
    Calls Tryz.prog 119 #[.string s] w fun e w' => e = .returned (.tuple #[.int .u64 0, .bool false]) ∧ Below w.heap.size w w' := by
  by_cases hz : (bs s).head? = some 48 ∧ 1 < (bs s).length
  · have h1 : 1 < s.size := by rw [← bs_len]; exact hz.2
    have h0 : 0 < s.size := by omega
    have hh : ((s[0]'h0).toNat : Int) = 48 := by
      have := hz.1
      rw [bs_head s h0] at this
      injection this with this
      rw [this]; rfl
    have hb1 : (1 : Int) < s.size := by omega
    clear hz hu
    go_enter Tryz.func119, Tryz.ntmps119
    go_wp2
    go_ret2
    exact ⟨rfl, Below.refl _ _⟩
  · have hh : ∀ (h0 : 0 < s.size), 1 < s.size → ¬ ((s[0]'h0).toNat : Int) = 48 := fun h0 h1 e => hz ⟨by rw [bs_head s h0]; congr 1; apply UInt8.toNat_inj.1; rw [show ((48 : UInt8).toNat) = 48 from rfl]; omega, by rw [bs_len]; exact h1⟩
    by_cases hg : bs s ≠ [] ∧ allD (bs s) = true ∧ val 0 (bs s) ≤ 18446744073709551615
    · have hp := parse_yes s hs hg.1 hg.2.1 hg.2.2 w
      have hm' : (9223372036854775808 : Int) < (val 0 (bs s) : Nat) := by
        by_cases hle : val 0 (bs s) ≤ 9223372036854775808
        · unfold nat63 at hu
          rw [if_pos ⟨hg.1, hg.2.1, hz, hle⟩] at hu
          cases hu
        · omega
      clear hu hz hg
      generalize val 0 (bs s) = u at *
      by_cases h1 : 1 < s.size
      · have h0 : 0 < s.size := by omega
        have hh' := hh h0 h1
        have hb1 : (1 : Int) < s.size := by omega
        clear hh
        go_enter Tryz.func119, Tryz.ntmps119
        go_wp2_with (go_at_call 149; refine hp.mono ?_; rintro e w' ⟨rfl, hb⟩)
        go_ret2
        exact ⟨rfl, hb⟩
      · have hb1 : ¬ (1 : Int) < s.size := by omega
        clear hh
        go_enter Tryz.func119, Tryz.ntmps119
        go_wp2_with (go_at_call 149; refine hp.mono ?_; rintro e w' ⟨rfl, hb⟩)
        go_ret2
        exact ⟨rfl, hb⟩
    · have hp := parse_no s hs (by
        by_cases hne : bs s = []
        · exact Or.inl hne
        · exact Or.inr fun h => hg ⟨hne, h⟩) w hL
      clear hu hz hg
      by_cases h1 : 1 < s.size
      · have h0 : 0 < s.size := by omega
        have hh' := hh h0 h1
        have hb1 : (1 : Int) < s.size := by omega
        clear hh
        go_enter Tryz.func119, Tryz.ntmps119
        go_wp2_with (go_at_call 149; refine hp.mono ?_; rintro e w' ⟨v, N, rfl, hb⟩)
        go_ret2
        exact ⟨rfl, hb⟩
      · have hb1 : ¬ (1 : Int) < s.size := by omega
        clear hh
        go_enter Tryz.func119, Tryz.ntmps119
        go_wp2_with (go_at_call 149; refine hp.mono ?_; rintro e w' ⟨v, N, rfl, hb⟩)
        go_ret2
        exact ⟨rfl, hb⟩

/-- Number. -/
theorem number_ok (s : ByteArray) (hs : s.size ≤ 281474976710656) (w : World) (hL : Laid w) (r c : Int)
    (hr : r = match nat63 (bs s) with | some u => if u ≤ 9223372036854775807 then (u : Int) else 0 | none => 0)
    (hc : c = match nat63 (bs s) with | some u => if u ≤ 9223372036854775807 then 0 else 15 | none => 15) :
    Calls Tryz.prog 95 #[.string s] w fun e w' => e = .returned (.tuple #[.int .i64 r, .int .u8 c]) ∧ Below w.heap.size w w' := by
  cases hn : nat63 (bs s) with
  | none =>
    rw [hn] at hr hc
    subst hr hc
    have hp := natural_no s hs hn w hL
    clear hn
    go_enter Tryz.func95, Tryz.ntmps95
    go_wp2_with (go_at_call 119; refine hp.mono ?_; rintro e w' ⟨rfl, hb⟩)
    go_ret2
    exact ⟨rfl, hb⟩
  | some u =>
    rw [hn] at hr hc
    have hp := natural_yes s hs u hn w
    clear hn
    by_cases hu : u ≤ 9223372036854775807
    · simp only [if_pos hu] at hr hc
      subst hr hc
      have hm : ¬ (9223372036854775807 : Int) < u := by omega
      have hm2 : (u : Int) ≤ 9223372036854775807 := by omega
      have hm0 : (0 : Int) ≤ u := by omega
      have hwr : IntKind.i64.wrap (u : Int) = u := by rw [IntKind.wrap_i64]; omega
      clear hu
      go_enter Tryz.func95, Tryz.ntmps95
      go_wp2_with (go_at_call 119; refine hp.mono ?_; rintro e w' ⟨rfl, hb⟩)
      go_ret2
      exact ⟨rfl, hb⟩
    · simp only [if_neg hu] at hr hc
      subst hr hc
      have hm : (9223372036854775807 : Int) < u := by omega
      clear hu
      go_enter Tryz.func95, Tryz.ntmps95
      go_wp2_with (go_at_call 119; refine hp.mono ?_; rintro e w' ⟨rfl, hb⟩)
      go_ret2
      exact ⟨rfl, hb⟩

/-- billionths: as many as there are. -/
theorem billion_yes (s : ByteArray) (p : Nat) (hp : billion (bs s) = some p) (w : World) :
    Calls Tryz.prog 152 #[.string s] w fun e w' => e = .returned (.tuple #[.int .u64 p, .bool true]) ∧ Below w.heap.size w w' := by
  unfold billion at hp
  split at hp
  · rename_i h
    obtain ⟨hd, hl1, hl9⟩ := h
    injection hp with hp
    have hsz : s.size ≤ 9 := by rw [← bs_len]; exact hl9
    have hsz1 : 1 ≤ s.size := by rw [← bs_len]; exact hl1
    have hrep : ∀ k, allD (List.replicate k 48) = true ∧ ∀ acc, val acc (List.replicate k 48) = acc * 10 ^ k := by
      intro k
      induction k with
      | zero => exact ⟨rfl, fun acc => by rw [List.replicate_zero, val_nil]; simp⟩
      | succ k ih =>
        refine ⟨by rw [List.replicate_succ, allD_cons, ih.1]; rfl, fun acc => ?_⟩
        rw [List.replicate_succ, val_cons, ih.2, Nat.pow_succ]
        have : ((48 : UInt8).toNat - 48) = 0 := rfl
        rw [this, Nat.add_zero, Nat.mul_assoc, Nat.mul_comm 10]
    have hx : ({ data := #[48, 48, 48, 48, 48, 48, 48, 48, 48] } : ByteArray).extract s.size 9 = txt (List.replicate (9 - s.size) 48) := by
      have h9 : ({ data := #[48, 48, 48, 48, 48, 48, 48, 48, 48] } : ByteArray) = txt (List.replicate 9 48) := rfl
      have := ext_from (txt (List.replicate 9 48)) s.size
      rw [bs_txt, List.drop_replicate] at this
      rw [h9]
      exact this
    have hcat : s ++ txt (List.replicate (9 - s.size) 48) = txt (bs s ++ List.replicate (9 - s.size) 48) := by
      rw [← txt_app, txt_bs]
    have hvl : val 0 (bs s ++ List.replicate (9 - s.size) 48) = p := by rw [val_app, (hrep _).2, ← bs_len, hp]
    have hall : allD (bs s ++ List.replicate (9 - s.size) 48) = true := by rw [allD_app, hd, (hrep _).1]; rfl
    have hln : (bs s ++ List.replicate (9 - s.size) 48).length = 9 := by rw [List.length_append, List.length_replicate, bs_len]; omega
    have hlt := val_lt _ hall
    rw [hln, hvl] at hlt
    have hpar := parse_yes (txt (bs s ++ List.replicate (9 - s.size) 48)) (by rw [txt_size, hln]; omega) (by rw [bs_txt]; intro e; rw [e] at hln; simp at hln) (by rw [bs_txt]; exact hall) (by rw [bs_txt, hvl]; omega) w
    rw [bs_txt, hvl] at hpar
    generalize txt (bs s ++ List.replicate (9 - s.size) 48) = S at *
    generalize txt (List.replicate (9 - s.size) 48) = Z at *
    have i1 : ¬ (s.size : Int) < 1 := by omega
    have i2 : ¬ (9 : Int) < s.size := by omega
    have i3 : (s.size : Int) ≤ 9 := by omega
    have hzs : Z.size ≤ 9 := by rw [← hx]; rw [ByteArray.size_extract]; omega
    have hcs : ¬ 9223372036854775807 < s.size + Z.size := by omega
    clear hp hrep hvl hall hln hd hl1 hl9 hlt hzs
    have HS := hid hsz
    clear hsz hsz1
    go_enter Tryz.func152, Tryz.ntmps152
    go_wp2_with (go_at_call 149; refine hpar.mono ?_; rintro e w' ⟨rfl, hb⟩)
    go_region
    go_wp2
    go_ret2
    exact ⟨rfl, hb.drew⟩
  · cases hp

end Go.Proofs.YthnaanjhmehgcaaGreatDoor

/-
  The program's functions of times: what they answer.
  Conditions: the package variables that the library reads hold what the program's text lays; strings of at most 2^48 bytes.
-/
namespace Go.Proofs.YthnaanjhmehgcaaGreatDoor
open Go.ChangeShapes Go.WideShapes Go.ChangeAt Go.RowKit Go.Lib Go.Sort

/-- billionths: none. -/
theorem billion_no (s : ByteArray) (hp : billion (bs s) = none) (w : World) (hL : Laid w) :
    Calls Tryz.prog 152 #[.string s] w fun e w' => (∃ v, e = .returned (.tuple #[.int .u64 v, .bool false])) ∧ Below w.heap.size w w' := by
  by_cases h1 : s.size < 1
  · have i1 : (s.size : Int) < 1 := by omega
    clear h1 hp
    go_enter Tryz.func152, Tryz.ntmps152
    go_wp2
    go_ret2
    exact ⟨⟨0, rfl⟩, Below.refl _ _⟩
  · by_cases h9 : 9 < s.size
    · have i1 : ¬ (s.size : Int) < 1 := by omega
      have i2 : (9 : Int) < s.size := by omega
      clear h1 hp h9
      go_enter Tryz.func152, Tryz.ntmps152
      go_wp2
      go_ret2
      exact ⟨⟨0, rfl⟩, Below.refl _ _⟩
    · have hd : ¬ allD (bs s) = true := by
        intro hd
        unfold billion at hp
        rw [if_pos ⟨hd, by rw [bs_len]; omega, by rw [bs_len]; omega⟩] at hp
        cases hp
      have hx : ({ data := #[48, 48, 48, 48, 48, 48, 48, 48, 48] } : ByteArray).extract s.size 9 = txt (List.replicate (9 - s.size) 48) := by
        have h9 : ({ data := #[48, 48, 48, 48, 48, 48, 48, 48, 48] } : ByteArray) = txt (List.replicate 9 48) := rfl
        have := ext_from (txt (List.replicate 9 48)) s.size
        rw [bs_txt, List.drop_replicate] at this
        rw [h9]
        exact this
      have hcat : s ++ txt (List.replicate (9 - s.size) 48) = txt (bs s ++ List.replicate (9 - s.size) 48) := by
        rw [← txt_app, txt_bs]
      have hln : (bs s ++ List.replicate (9 - s.size) 48).length = 9 := by rw [List.length_append, List.length_replicate, bs_len]; omega
      have hpar := parse_no (txt (bs s ++ List.replicate (9 - s.size) 48)) (by rw [txt_size, hln]; omega) (Or.inr fun h => hd (by
        have := h.1
        rw [bs_txt, allD_app, Bool.and_eq_true] at this
        exact this.1)) w hL
      generalize txt (bs s ++ List.replicate (9 - s.size) 48) = S at *
      generalize txt (List.replicate (9 - s.size) 48) = Z at *
      have i1 : ¬ (s.size : Int) < 1 := by omega
      have i2 : ¬ (9 : Int) < s.size := by omega
      have i3 : (s.size : Int) ≤ 9 := by omega
      have hzs : Z.size ≤ 9 := by rw [← hx]; rw [ByteArray.size_extract]; omega
      have hcs : ¬ 9223372036854775807 < s.size + Z.size := by omega
      clear hp hln hd hzs h1 h9
      go_enter Tryz.func152, Tryz.ntmps152
      go_wp2_with (go_at_call 149; refine hpar.mono ?_; rintro e w' ⟨v, N, rfl, hb⟩)
      go_region
      go_wp2
      go_ret2
      exact ⟨⟨v, rfl⟩, hb.drew⟩

theorem ahead_len (l : List UInt8) : (ahead l).length ≤ l.length := (List.takeWhile_prefix _).length_le
theorem size_ahead (s : ByteArray) : (txt (ahead (bs s))).size ≤ s.size := by rw [txt_size, ← bs_len]; exact ahead_len _

/-- value: seconds and billionths. -/
theorem value_yes (s : ByteArray) (hs : s.size ≤ 281474976710656) (u p : Nat) (hv : valueOf (bs s) = some (u, p)) (w : World) :
    Calls Tryz.prog 121 #[.string s] w fun e w' => e = .returned (.tuple #[.int .u64 u, .int .u64 p, .bool true]) ∧ Below w.heap.size w w' := by
  have hcut := cut_ok s hs w
  unfold valueOf at hv
  cases hn : nat63 (ahead (bs s)) with
  | none => rw [hn] at hv; cases hv
  | some u' =>
    rw [hn] at hv
    simp only at hv
    have hnat : ∀ w, _ := fun w => natural_yes (txt (ahead (bs s))) (Nat.le_trans (size_ahead s) hs) u' (by rw [bs_txt]; exact hn) w
    by_cases hpt : pointed (bs s) = true
    · rw [if_pos hpt] at hv
      cases hb : billion (behind (bs s)) with
      | none => rw [hb] at hv; cases hv
      | some p' =>
        rw [hb] at hv
        simp only [Option.map_some, Option.some.injEq, Prod.mk.injEq] at hv
        obtain ⟨rfl, rfl⟩ := hv
        have hbil : ∀ w, _ := fun w => billion_yes (txt (behind (bs s))) p' (by rw [bs_txt]; exact hb) w
        rw [hpt] at hcut
        clear hb hn hpt
        go_enter Tryz.func121, Tryz.ntmps121
        go_wp2_with (first
          | (go_at_call 151; refine hcut.mono ?_; rintro e w1 ⟨rfl, hb1⟩)
          | (go_at_call 119; refine (hnat _).mono ?_; rintro e w2 ⟨rfl, hb2⟩)
          | (go_at_call 152; refine (hbil _).mono ?_; rintro e w3 ⟨rfl, hb3⟩))
        go_ret3
        exact ⟨rfl, hb1.trans ((hb2.mono hb1.size).trans (hb3.mono (Nat.le_trans hb1.size hb2.size)))⟩
    · rw [if_neg hpt] at hv
      simp only [Option.some.injEq, Prod.mk.injEq] at hv
      obtain ⟨rfl, rfl⟩ := hv
      rw [Bool.not_eq_true] at hpt
      rw [hpt] at hcut
      clear hn hpt
      go_enter Tryz.func121, Tryz.ntmps121
      go_wp2_with (first
        | (go_at_call 151; refine hcut.mono ?_; rintro e w1 ⟨rfl, hb1⟩)
        | (go_at_call 119; refine (hnat _).mono ?_; rintro e w2 ⟨rfl, hb2⟩))
      go_ret3
      exact ⟨rfl, hb1.trans (hb2.mono hb1.size)⟩
/-- value: none. -/
theorem value_no (s : ByteArray) (hs : s.size ≤ 281474976710656) (hv : valueOf (bs s) = none) (w : World) (hL : Laid w) :
    Calls Tryz.prog 121 #[.string s] w fun e w' => (∃ a b, e = .returned (.tuple #[.int .u64 a, .int .u64 b, .bool false])) ∧ Below w.heap.size w w' := by
  have hcut := cut_ok s hs w
  unfold valueOf at hv
  cases hn : nat63 (ahead (bs s)) with
  | none =>
    have hnat : ∀ w, Laid w → _ := fun w hL => natural_no (txt (ahead (bs s))) (Nat.le_trans (size_ahead s) hs) (by rw [bs_txt]; exact hn) w hL
    clear hn hv
    generalize pointed (bs s) = pp at *
    go_enter Tryz.func121, Tryz.ntmps121
    go_wp2_with (first
      | (go_at_call 151; refine hcut.mono ?_; rintro e w1 ⟨rfl, hb1⟩; have hL1 := hL.below hb1)
      | (go_at_call 119; refine (hnat _ hL1).mono ?_; rintro e w2 ⟨rfl, hb2⟩))
    go_ret3
    exact ⟨⟨_, _, rfl⟩, hb1.trans (hb2.mono hb1.size)⟩
  | some u' =>
    rw [hn] at hv
    simp only at hv
    have hnat : ∀ w, _ := fun w => natural_yes (txt (ahead (bs s))) (Nat.le_trans (size_ahead s) hs) u' (by rw [bs_txt]; exact hn) w
    by_cases hpt : pointed (bs s) = true
    · rw [if_pos hpt] at hv
      cases hb : billion (behind (bs s)) with
      | some p' => rw [hb] at hv; cases hv
      | none =>
        have hbil : ∀ w, Laid w → _ := fun w hL => billion_no (txt (behind (bs s))) (by rw [bs_txt]; exact hb) w hL
        rw [hpt] at hcut
        clear hb hn hpt hv
        go_enter Tryz.func121, Tryz.ntmps121
        go_wp2_with (first
          | (go_at_call 151; refine hcut.mono ?_; rintro e w1 ⟨rfl, hb1⟩; have hL1 := hL.below hb1)
          | (go_at_call 119; refine (hnat _).mono ?_; rintro e w2 ⟨rfl, hb2⟩; have hL2 := hL1.below hb2)
          | (go_at_call 152; refine (hbil _ hL2).mono ?_; rintro e w3 ⟨⟨v, rfl⟩, hb3⟩))
        go_ret3
        exact ⟨⟨_, _, rfl⟩, hb1.trans ((hb2.mono hb1.size).trans (hb3.mono (Nat.le_trans hb1.size hb2.size)))⟩
    · rw [if_neg hpt] at hv
      cases hv

set_option maxHeartbeats 2000000 in
set_option maxRecDepth 20000 in
theorem under_yes (u p : Nat) (hu : u ≤ 9223372036854775808) (hp : p < 1000000000) (a b : Int) (h : underOf u p = some (a, b)) (w : World) :
    Calls Tryz.prog 122 #[.int .u64 u, .int .u64 p] w fun e w' => e = .returned (.tuple #[.agg #[.int .i64 a, .int .i64 b], .int .u8 0]) ∧ Below w.heap.size w w' := by
  unfold underOf at h
  by_cases hp0 : 0 < p
  · rw [if_pos hp0] at h
    by_cases hm : 9223372036854775808 < u + 1
    · rw [if_pos hm] at h; cases h
    · rw [if_neg hm] at h
      simp only [Option.some.injEq, Prod.mk.injEq] at h
      obtain ⟨rfl, rfl⟩ := h
      have i1 : (0 : Int) < p := by omega
      have i2 : IntKind.u64.wrap ((u : Int) + 1) = u + 1 := by rw [IntKind.wrap_u64]; omega
      have i3 : IntKind.u64.wrap (1000000000 - (p : Int)) = 1000000000 - p := by rw [IntKind.wrap_u64]; omega
      have i4 : ¬ (9223372036854775808 : Int) < u + 1 := by omega
      have i5 : wrap64 (IntKind.u64.wrap (-((u : Int) + 1))) = -((u : Int) + 1) := by unfold wrap64; rw [IntKind.wrap_u64]; omega
      have i6 : IntKind.i64.wrap (1000000000 - (p : Int)) = 1000000000 - p := by rw [IntKind.wrap_i64]; omega
      have I5 := hid i5
      clear hp0 hm hu hp i5
      go_enter Tryz.func122, Tryz.ntmps122
      go_wp2
      refine bodyPost_ret (v := .tuple #[.agg #[.int .i64 (-((u : Int) + 1)), .int .i64 (1000000000 - (p : Int))], .int .u8 0]) ?_ rfl ⟨rfl, (Below.refl _ _).alloc (Nat.le_refl _) _⟩
      rw [I5.out]
      simp [results, Tryz.results122, go_sem]
  · rw [if_neg hp0] at h
    rw [if_neg (by omega)] at h
    simp only [Option.some.injEq, Prod.mk.injEq] at h
    obtain ⟨rfl, rfl⟩ := h
    obtain rfl : p = 0 := by omega
    have i4 : ¬ (9223372036854775808 : Int) < u := by omega
    have i5 : wrap64 (IntKind.u64.wrap (-(u : Int))) = -(u : Int) := by unfold wrap64; rw [IntKind.wrap_u64]; omega
    have I5 := hid i5
    clear hp0 hu hp i5
    go_enter Tryz.func122, Tryz.ntmps122
    go_wp2
    refine bodyPost_ret (v := .tuple #[.agg #[.int .i64 (-(u : Int)), .int .i64 0], .int .u8 0]) ?_ rfl ⟨rfl, (Below.refl _ _).alloc (Nat.le_refl _) _⟩
    rw [I5.out]
    simp [results, Tryz.results122, go_sem]

set_option maxHeartbeats 2000000 in
set_option maxRecDepth 20000 in
theorem under_no (u p : Nat) (hu : u ≤ 9223372036854775808) (hp : p < 1000000000) (h : underOf u p = none) (w : World) :
    Calls Tryz.prog 122 #[.int .u64 u, .int .u64 p] w fun e w' => e = .returned (.tuple #[.agg #[.int .i64 0, .int .i64 0], .int .u8 15]) ∧ Below w.heap.size w w' := by
  unfold underOf at h
  by_cases hp0 : 0 < p
  · rw [if_pos hp0] at h
    by_cases hm : 9223372036854775808 < u + 1
    · have i1 : (0 : Int) < p := by omega
      have i2 : IntKind.u64.wrap ((u : Int) + 1) = u + 1 := by rw [IntKind.wrap_u64]; omega
      have i3 : IntKind.u64.wrap (1000000000 - (p : Int)) = 1000000000 - p := by rw [IntKind.wrap_u64]; omega
      have i4 : (9223372036854775808 : Int) < u + 1 := by omega
      clear hp0 hm hu hp h
      go_enter Tryz.func122, Tryz.ntmps122
      go_wp2
      refine bodyPost_ret (v := .tuple #[.agg #[.int .i64 0, .int .i64 0], .int .u8 15]) ?_ rfl ⟨rfl, (Below.refl _ _).alloc (Nat.le_refl _) _⟩
      simp [results, Tryz.results122, go_sem]
    · rw [if_neg hm] at h; cases h
  · rw [if_neg hp0] at h
    rw [if_neg (by omega)] at h
    cases h

theorem value_bounds {l : List UInt8} {u p : Nat} (h : valueOf l = some (u, p)) : u ≤ 9223372036854775808 ∧ p < 1000000000 := by
  unfold valueOf at h
  cases hn : nat63 (ahead l) with
  | none => rw [hn] at h; cases h
  | some u' =>
    rw [hn] at h
    simp only at h
    have hu := (nat63_some hn).2.2.2.2
    by_cases hpt : pointed l = true
    · rw [if_pos hpt] at h
      cases hb : billion (behind l) with
      | none => rw [hb] at h; cases h
      | some p' =>
        rw [hb] at h
        simp only [Option.map_some, Option.some.injEq, Prod.mk.injEq] at h
        obtain ⟨rfl, rfl⟩ := h
        refine ⟨hu, ?_⟩
        unfold billion at hb
        split at hb
        · rename_i hh
          obtain ⟨hd, h1, h9⟩ := hh
          injection hb with hb
          have := val_lt _ hd
          rw [← hb]
          have hpow : 10 ^ (behind l).length * 10 ^ (9 - (behind l).length) = 1000000000 := by
            rw [← Nat.pow_add, show (behind l).length + (9 - (behind l).length) = 9 by omega]
          rw [← hpow]
          exact Nat.mul_lt_mul_of_pos_right this (Nat.pow_pos (by omega))
        · cases hb
    · rw [if_neg hpt] at h
      simp only [Option.some.injEq, Prod.mk.injEq] at h
      obtain ⟨rfl, rfl⟩ := h
      exact ⟨hu, by omega⟩

/-- What lies in the block of the result, behind calls. -/
theorem laid_res {w w1 : World} {t : TypeId} (hb : Below (w.alloc (Obj.cells #[.int .i64 0, .int .i64 0] t)).heap.size (w.alloc (Obj.cells #[.int .i64 0, .int .i64 0] t)) w1) :
    w.heap.size < w1.heap.size ∧ w1.cell? ⟨w.heap.size, 0, none⟩ = some (.int .i64 0) ∧ w1.cell? ⟨w.heap.size, 1, none⟩ = some (.int .i64 0) ∧ w1.frozen? ⟨w.heap.size, 0, none⟩ = false ∧ w1.frozen? ⟨w.heap.size, 1, none⟩ = false ∧ Below w.heap.size w w1 := by
  have hlt : w.heap.size < w1.heap.size := by have := hb.size; simp at this; omega
  refine ⟨hlt, (hb.cell (p := ⟨w.heap.size, 0, none⟩) (by simp)).trans (by simp), (hb.cell (p := ⟨w.heap.size, 1, none⟩) (by simp)).trans (by simp), (hb.frozen (p := ⟨w.heap.size, 0, none⟩) (by simp)).trans (by simp), (hb.frozen (p := ⟨w.heap.size, 1, none⟩) (by simp)).trans (by simp), ?_⟩
  exact ((Below.refl _ w).alloc (Nat.le_refl _) _).trans (hb.mono (by simp))

theorem below_alloc (w : World) (o : Obj) : Below w.heap.size w (w.alloc o) := (Below.refl _ w).alloc (Nat.le_refl _) _

set_option maxHeartbeats 4000000 in
set_option maxRecDepth 20000 in
/-- Time: a time's text. -/
theorem time_ok (s : ByteArray) (hs : s.size ≤ 281474976710656) (w : World) (hL : Laid w) (a b c : Int)
    (h : timeOf (bs s) = some (a, b) ∧ c = 0 ∨ timeOf (bs s) = none ∧ a = 0 ∧ b = 0 ∧ c = 15) :
    Calls Tryz.prog 96 #[.string s] w fun e w' => e = .returned (.tuple #[.agg #[.int .i64 a, .int .i64 b], .int .u8 c]) ∧ Below w.heap.size w w' := by
  have hmin := minus_ok s
  obtain ⟨R, hR⟩ : ∃ R : List UInt8, R = if (bs s).head? = some 45 then (bs s).tail else bs s := ⟨_, rfl⟩
  obtain ⟨bl, hbl⟩ : ∃ bl : Bool, bl = decide ((bs s).head? = some 45) := ⟨_, rfl⟩
  have hRs : (txt R).size ≤ 281474976710656 := by
    rw [txt_size, hR]
    have : (bs s).length ≤ 281474976710656 := by rw [bs_len]; exact hs
    split
    · rw [List.length_tail]; omega
    · exact this
  have htm : timeOf (bs s) = match valueOf R with
      | none => none
      | some (u, p) => if bl = true then underOf u p else if 9223372036854775807 < u then none else some ((u : Int), (p : Int)) := by
    unfold timeOf
    rw [← hR]
    cases valueOf R with
    | none => rfl
    | some q => obtain ⟨u, p⟩ := q; rw [hbl]; simp only [decide_eq_true_eq]
  rw [← hR, ← hbl] at hmin
  clear hR hbl
  rw [htm] at h
  clear htm
  cases hv : valueOf R with
  | none =>
    rw [hv] at h
    obtain ⟨h, _⟩ | ⟨_, rfl, rfl, rfl⟩ := h
    · cases h
    have hval : ∀ w, Laid w → _ := fun w hL => value_no (txt R) hRs (by rw [bs_txt]; exact hv) w hL
    clear hv
    go_enter Tryz.func96, Tryz.ntmps96
    go_wp2_with (first
      | (go_at_call 120; refine (hmin _).mono ?_; rintro e w1 ⟨rfl, rfl⟩)
      | (go_at_call 121; refine (hval _ (hL.below (below_alloc _ _))).mono ?_; rintro e w1 ⟨⟨v1, v2, rfl⟩, hb1⟩; obtain ⟨hlt, q0, q1, z0, z1, hB⟩ := laid_res hb1; clear hb1))
    refine bodyPost_ret (v := .tuple #[.agg #[.int .i64 0, .int .i64 0], .int .u8 15]) ?_ rfl ⟨rfl, (hB.setCell (Nat.le_refl _) _).setCell (Nat.le_refl _) _⟩
    simp [results, Tryz.results96, go_sem, q0, q1]
  | some q =>
    obtain ⟨u, p⟩ := q
    rw [hv] at h
    simp only at h
    obtain ⟨hu, hp⟩ := value_bounds hv
    have hval : ∀ w, _ := fun w => value_yes (txt R) hRs u p (by rw [bs_txt]; exact hv) w
    clear hv
    cases bl with
    | true =>
      simp only [if_true] at h
      have hun : ∀ w, Calls Tryz.prog 122 #[.int .u64 u, .int .u64 p] w fun e w' => e = .returned (.tuple #[.agg #[.int .i64 a, .int .i64 b], .int .u8 c]) ∧ Below w.heap.size w w' := by
        intro w
        obtain ⟨h, rfl⟩ | ⟨h, rfl, rfl, rfl⟩ := h
        · exact under_yes u p hu hp a b h w
        · exact under_no u p hu hp h w
      clear h hu hp
      go_enter Tryz.func96, Tryz.ntmps96
      go_wp2_with (first
        | (go_at_call 120; refine (hmin _).mono ?_; rintro e w1 ⟨rfl, rfl⟩)
        | (go_at_call 121; refine (hval _).mono ?_; rintro e w1 ⟨rfl, hb1⟩)
        | (go_at_call 122; refine (hun _).mono ?_; rintro e w2 ⟨rfl, hb2⟩; obtain ⟨hlt, q0, q1, z0, z1, hB⟩ := laid_res (hb1.trans (hb2.mono hb1.size)); clear hb1 hb2))
      refine bodyPost_ret (v := .tuple #[.agg #[.int .i64 a, .int .i64 b], .int .u8 c]) ?_ rfl ⟨rfl, (hB.setCell (Nat.le_refl _) _).setCell (Nat.le_refl _) _⟩
      simp [results, Tryz.results96, go_sem, q0, q1]
    | false =>
      by_cases hm : 9223372036854775807 < u
      · simp only [if_pos hm] at h
        obtain ⟨h, _⟩ | ⟨_, rfl, rfl, rfl⟩ := h
        · cases h
        have hmi : (9223372036854775807 : Int) < u := by omega
        clear hu hp hm
        go_enter Tryz.func96, Tryz.ntmps96
        go_wp2_with (first
          | (go_at_call 120; refine (hmin _).mono ?_; rintro e w1 ⟨rfl, rfl⟩)
          | (go_at_call 121; refine (hval _).mono ?_; rintro e w1 ⟨rfl, hb1⟩; obtain ⟨hlt, q0, q1, z0, z1, hB⟩ := laid_res hb1; clear hb1))
        refine bodyPost_ret (v := .tuple #[.agg #[.int .i64 0, .int .i64 0], .int .u8 15]) ?_ rfl ⟨rfl, (hB.setCell (Nat.le_refl _) _).setCell (Nat.le_refl _) _⟩
        simp [results, Tryz.results96, go_sem, q0, q1]
      · simp only [if_neg hm] at h
        obtain ⟨h, rfl⟩ | ⟨h, _⟩ := h
        · simp only [Bool.false_eq_true, if_false, Option.some.injEq, Prod.mk.injEq] at h
          obtain ⟨rfl, rfl⟩ := h
          have hmi : ¬ (9223372036854775807 : Int) < u := by omega
          have hmi2 : (u : Int) ≤ 9223372036854775807 := by omega
          have hpi2 : (p : Int) ≤ 9223372036854775807 := by omega
          clear hu hp hm
          go_enter Tryz.func96, Tryz.ntmps96
          go_wp2_with (first
            | (go_at_call 120; refine (hmin _).mono ?_; rintro e w1 ⟨rfl, rfl⟩)
            | (go_at_call 121; refine (hval _).mono ?_; rintro e w1 ⟨rfl, hb1⟩; obtain ⟨hlt, q0, q1, z0, z1, hB⟩ := laid_res hb1; clear hb1))
          refine bodyPost_ret (v := .tuple #[.agg #[.int .i64 (u : Int), .int .i64 (p : Int)], .int .u8 0]) ?_ rfl ⟨rfl, (hB.setCell (Nat.le_refl _) _).setCell (Nat.le_refl _) _⟩
          simp [results, Tryz.results96, go_sem, q0, q1]
        · cases h
end Go.Proofs.YthnaanjhmehgcaaGreatDoor
