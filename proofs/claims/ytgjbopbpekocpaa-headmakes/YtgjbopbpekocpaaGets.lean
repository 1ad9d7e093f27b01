/-
  Numbers that are got of bytes: num and the document. No condition but that the slice can be read.
-/
import Derived.Test.YtgjbopbpekocpaaRows
import Derived.Test.YtgjbopbpekocpaaBase
import Derived.Test.YtgjbopbpekocpaaStrs
namespace Go.Proofs.Ytgjbopbpekocpaa
open Go.ChangeShapes Go.WideShapes Go.ChangeAt Go.RowKit
set_option linter.unusedVariables false
set_option maxRecDepth 20000

theorem behind_any (w : World) (a : Option Addr) (len cap : Nat) (l : List Int) (h : Bys w a len cap l) :
    Calls Try.prog 60 #[.slice a len cap] w fun e w' => w' = w ∧ ∃ a' n c', e = .returned (.slice a' n c') ∧ Bys w a' n c' (l.dropWhile (· == 32)) := by
  obtain ⟨hl0, hlc, hm, hb, ⟨rfl, rfl⟩ | ⟨h0, b, off, rfl, hc⟩⟩ := h
  · go_enter Try.func60, Try.ntmps60
    go_wp2
    go_rounds 1
    all_goals go_ret
    all_goals exact ⟨rfl, _, _, _, rfl, by first | exact Bys.mk0 hm | exact Bys.mk0 (by omega)⟩
  · have hl := hid hl0
    clear hl0
    go_enter Try.func60, Try.ntmps60
    go_wp2
    go_loop [3] (fun i => ∃ k : Nat, k ≤ len ∧ i = .int .i64 k ∧ Hid (l.dropWhile (· == 32) = (l.drop k).dropWhile (· == 32))) (fun i => len - (intOf i).toNat)
    case atStart => exact ⟨0, Nat.zero_le _, rfl, hid (by simp)⟩
    case round =>
      obtain ⟨k, hk, rfl, hr⟩ := hrel
      have hD := hc.drop k
      by_cases hlt : k < len
      · obtain ⟨c, hd, hc0, hc1, hck⟩ := hc.at (k := k) (by rw [hl.out]; exact hlt)
        by_cases h32 : c = 32
        · subst h32
          go_wp2
          go_round
          case rel => exact ⟨k + 1, by omega, by go_num, hid (by rw [hr.out, hd.out]; simp)⟩
          case measure => simp [intOf]; omega
        · have h32' : (c == 32) = false := by simp [h32]
          go_wp2
          go_ret
          refine ⟨rfl, _, _, _, rfl, ?_⟩
          rw [hr.out, hd.out, List.dropWhile_cons, if_neg (by simp [h32]), ← hd.out]
          exact Bys.mk' (by simp [hl.out]) (by omega) (by omega) hD
      · have e0 : l.drop k = [] := by rw [List.drop_eq_nil_iff, hl.out]; omega
        have E : Hid (l.dropWhile (· == 32) = []) := hid (by rw [hr.out, e0]; rfl)
        clear e0
        go_wp2
        all_goals go_ret
        all_goals refine ⟨rfl, _, _, _, rfl, ?_⟩
        all_goals rw [E.out, show len - k = 0 by omega]
        all_goals exact Bys.mk0 (by omega)

def fill (c : Int) : Bool := c == 0 || c == 32

theorem filler_any (w : World) (a : Option Addr) (len cap : Nat) (l : List Int) (h : Bys w a len cap l) :
    Calls Try.prog 62 #[.slice a len cap] w fun e w' => w' = w ∧ e = .returned (.bool (l.all fill)) := by
  obtain ⟨hl0, hlc, hm, hb, ⟨rfl, rfl⟩ | ⟨h0, b, off, rfl, hc⟩⟩ := h
  · go_enter Try.func62, Try.ntmps62
    go_wp2
    go_rounds 1
    all_goals go_ret
    all_goals exact ⟨rfl, rfl⟩
  · have hl := hid hl0
    clear hl0
    go_enter Try.func62, Try.ntmps62
    go_wp2
    go_loop [7] (fun i => ∃ k : Nat, k ≤ len ∧ i = .int .i64 k ∧ Hid (l.all fill = (l.drop k).all fill)) (fun i => len - (intOf i).toNat)
    case atStart => exact ⟨0, Nat.zero_le _, rfl, hid (by simp)⟩
    case round =>
      obtain ⟨k, hk, rfl, hr⟩ := hrel
      by_cases hlt : k < len
      · obtain ⟨c, hd, hc0, hc1, hck⟩ := hc.at (k := k) (by rw [hl.out]; exact hlt)
        by_cases h1 : fill c = true
        · have h1' : c = 0 ∨ c = 32 := by simpa [fill] using h1
          have E : Hid (l.all fill = (l.drop (k + 1)).all fill) := hid (by rw [hr.out, hd.out]; simp [h1])
          clear h1
          rcases h1' with rfl | rfl
          all_goals go_wp2
          all_goals go_round
          case rel => exact ⟨k + 1, by omega, by go_num, E⟩
          case measure => simp [intOf]; omega
          case rel => exact ⟨k + 1, by omega, by go_num, E⟩
          case measure => simp [intOf]; omega
        · have E : Hid (l.all fill = false) := hid (by rw [hr.out, hd.out]; simp [h1])
          have h1' : (c != 0) = true ∧ (c != 32) = true := by simpa [fill] using h1
          obtain ⟨h2, h3⟩ := h1'
          clear h1
          go_wp2
          all_goals go_ret
          all_goals exact ⟨rfl, ret_bool E.out.symm⟩
      · have e0 : l.drop k = [] := by rw [List.drop_eq_nil_iff, hl.out]; omega
        have E : Hid (l.all fill = true) := hid (by rw [hr.out, e0]; rfl)
        clear e0
        go_wp2
        all_goals go_ret
        all_goals exact ⟨rfl, ret_bool E.out.symm⟩

def dig (c : Int) : Bool := decide (48 ≤ c) && decide (c ≤ 55)

theorem dig_iff (c : Int) : dig c = true ↔ 48 ≤ c ∧ c ≤ 55 := by simp [dig]

theorem digit_any (w : World) (c : Int) (h0 : 0 ≤ c) (h1 : c ≤ 255) :
    Calls Try.prog 61 #[.int .u8 c] w fun e w' => w' = w ∧ e = .returned (.bool (dig c)) := by
  by_cases h2 : 48 ≤ c
  · by_cases h3 : c ≤ 55
    · go_enter Try.func61, Try.ntmps61
      go_wp2
      all_goals go_ret
      all_goals exact ⟨rfl, ret_bool (by simp [dig, h2, h3])⟩
    · go_enter Try.func61, Try.ntmps61
      go_wp2
      all_goals go_ret
      all_goals exact ⟨rfl, ret_bool (by simp [dig, h2, h3])⟩
  · go_enter Try.func61, Try.ntmps61
    go_wp2
    all_goals go_ret
    all_goals exact ⟨rfl, ret_bool (by simp [dig]; omega)⟩

/-- digits in base 8 behind 'n': the number and what is left, unless it is beyond 63 bits -/
def oct : Int → List Int → Option (Int × List Int)
  | n, [] => some (n, [])
  | n, c :: t => if dig c = true then (if 1152921504606846976 ≤ n then none else oct (8 * n + (c - 48)) t) else some (n, c :: t)

def octal (l : List Int) : Option Int :=
  match oct 0 (l.dropWhile (· == 32)) with
  | none => none
  | some (n, r) => if r.all fill then some n else none

def val (o : Option Int) : Int := o.getD 0

def cod (o : Option Int) : Int := if o.isSome then 0 else 5

theorem join8 (n d : Int) (h0 : 0 ≤ n) (h1 : n < 1152921504606846976) (h2 : 0 ≤ d) (h3 : d < 8) : bits BinOp.or IntKind.u64 (n * 8) d = 8 * n + d := by
  rw [u64_or _ _ (by omega) (by omega) (by omega) (by omega), nat_join 3 _ _ (by omega) (by omega)]; omega

theorem oct_stop (n c : Int) (t : List Int) (h : ¬ dig c = true) : oct n (c :: t) = some (n, c :: t) := by simp [oct, h]

theorem octal_of {l r : List Int} {n : Int} (h : oct 0 (l.dropWhile (· == 32)) = some (n, r)) : octal l = if r.all fill then some n else none := by
  simp [octal, h]

set_option maxHeartbeats 1000000 in
theorem octal_any (w : World) (a : Option Addr) (len cap : Nat) (l : List Int) (h : Bys w a len cap l) :
    Calls Try.prog 46 #[.slice a len cap] w fun e w' => w' = w ∧ e = .returned (.tuple #[.int .i64 (val (octal l)), .int .u8 (cod (octal l))]) := by
  go_enter Try.func46, Try.ntmps46
  go_wp2_with (go_at_call 60; refine (behind_any _ _ _ _ _ h).mono ?_; rintro e w' ⟨rfl, a, len, cap, rfl, h1⟩)
  obtain ⟨hl0, hlc, hm, hb, ⟨hnil, rfl⟩ | ⟨h0, b, off, rfl, hc⟩⟩ := h1
  · have E : Hid (octal l = some 0) := hid (by rw [octal_of (n := 0) (r := []) (by rw [hnil]; rfl)]; rfl)
    clear h hnil hb hl0
    refine wp_loop_rounds 1 ?_
    rw [rounds_succ]
    go_wp2_with (go_at_call 62; refine (filler_any _ _ _ _ [] (Bys.mk0 ?_)).mono ?_; (first | omega | skip); rintro e w' ⟨rfl, rfl⟩)
    all_goals go_ret2
    all_goals exact ⟨rfl, ret_two (by rw [E.out]; rfl) (by rw [E.out]; rfl)⟩
  · have hl := hid hl0
    clear hl0 h
    go_loop [5, 6] (fun u i => ∃ (k : Nat) (n : Int), k ≤ len ∧ 0 ≤ n ∧ n ≤ 9223372036854775807 ∧ i = .int .i64 k ∧ u = .int .u64 n ∧ Hid (oct 0 (l.dropWhile (· == 32)) = oct n ((l.dropWhile (· == 32)).drop k))) (fun _ i => len - (intOf i).toNat)
    case atStart => exact ⟨0, 0, Nat.zero_le _, by omega, by omega, rfl, rfl, hid (by simp)⟩
    case round =>
      obtain ⟨k, n, hk, hn0, hn1, rfl, rfl, hr⟩ := hrel
      have hD := Bys.mk' (len := len - k) (cap := cap - k) (by simp [hl.out]) (by omega) (by omega) (hc.drop k)
      by_cases hlt : k < len
      · obtain ⟨c, hd, hc0, hc1, hck⟩ := hc.at (k := k) (by rw [hl.out]; exact hlt)
        by_cases hdg : dig c = true
        · have hdg' := (dig_iff c).mp hdg
          obtain ⟨hd1, hd2⟩ := hdg'
          by_cases hbig : 1152921504606846976 ≤ n
          · have E : Hid (octal l = none) := hid (by unfold octal; rw [hr.out, hd.out, oct, if_pos hdg, if_pos hbig])
            have hbig' : (n / 1152921504606846976 != 0) = true := by simp; omega
            clear hD
            go_wp2_with (go_at_call 61; refine (digit_any _ c hc0 hc1).mono ?_; rintro e w' ⟨rfl, rfl⟩)
            all_goals go_ret2
            all_goals exact ⟨rfl, ret_two (by rw [E.out]; rfl) (by rw [E.out]; rfl)⟩
          · have hbig' : (n / 1152921504606846976 != 0) = false := by simp; omega
            have hj := join8 n (c - 48) hn0 (by omega) (by omega) (by omega)
            clear hD
            go_wp2_with (go_at_call 61; refine (digit_any _ c hc0 hc1).mono ?_; rintro e w' ⟨rfl, rfl⟩)
            go_round
            case rel => exact ⟨k + 1, 8 * n + (c - 48), by omega, by omega, by omega, by go_num, by go_num, hid (by rw [hr.out, hd.out, oct, if_pos hdg, if_neg (by omega)])⟩
            case measure => simp [intOf]; omega
        · have E : Hid (octal l = if ((l.dropWhile (· == 32)).drop k).all fill then some n else none) := hid (octal_of (by rw [hr.out, hd.out, oct_stop _ _ _ hdg, ← hd.out]))
          have hdg' : dig c = false := by simpa using hdg
          clear hdg
          cases hf : ((l.dropWhile (· == 32)).drop k).all fill
          all_goals rw [hf] at E
          all_goals go_wp2_with (first | (go_at_call 61; refine (digit_any _ c hc0 hc1).mono ?_; rintro e w' ⟨rfl, rfl⟩) | (go_at_call 62; refine (filler_any _ _ _ _ _ hD).mono ?_; rintro e w' ⟨rfl, rfl⟩))
          all_goals go_ret2
          all_goals exact ⟨rfl, ret_two (by rw [E.out]; rfl) (by rw [E.out]; rfl)⟩
      · have E : Hid (octal l = some n) := hid (by rw [octal_of (n := n) (r := []) (by rw [hr.out, List.drop_eq_nil_iff.mpr (by rw [hl.out]; omega)]; rfl)]; rfl)
        have hz : len - k = 0 := by omega
        clear hD
        go_wp2_with (go_at_call 62; refine (filler_any _ _ _ _ [] (Bys.mk0 ?_)).mono ?_; (first | omega | skip); rintro e w' ⟨rfl, rfl⟩)
        all_goals go_ret2
        all_goals exact ⟨rfl, ret_two (by rw [E.out]; rfl) (by rw [E.out]; rfl)⟩

def isW : List Int → Bool
  | c :: _ :: _ => c == 128 || c == 255
  | _ => false

theorem isWide_any (w : World) (a : Option Addr) (len cap : Nat) (l : List Int) (h : Bys w a len cap l) :
    Calls Try.prog 65 #[.slice a len cap] w fun e w' => w' = w ∧ e = .returned (.bool (isW l)) := by
  obtain ⟨hl0, hlc, hm, hb, ⟨rfl, rfl⟩ | ⟨h0, b, off, rfl, hc⟩⟩ := h
  · go_enter Try.func65, Try.ntmps65
    go_wp2
    all_goals go_ret
    all_goals exact ⟨rfl, rfl⟩
  · match l, hl0, hc with
    | [], hl, hc => simp at hl; omega
    | [c], hl, hc =>
      obtain rfl : len = 1 := by simpa using hl.symm
      go_enter Try.func65, Try.ntmps65
      go_wp2
      all_goals go_ret
      all_goals exact ⟨rfl, rfl⟩
    | c :: d :: t, hl, hc =>
      have hck : w.cell? ⟨b, off, none⟩ = some (.int .u8 c) := by simpa using hc.2 0 (by simp)
      have hge : 2 ≤ len := by simp at hl; omega
      clear hl hc hb
      by_cases h1 : c = 128
      · subst h1
        go_enter Try.func65, Try.ntmps65
        go_wp2
        all_goals go_ret
        all_goals exact ⟨rfl, rfl⟩
      · have h1' : (c == 128) = false := by simp [h1]
        go_enter Try.func65, Try.ntmps65
        go_wp2
        all_goals go_ret
        all_goals exact ⟨rfl, ret_bool (by simp [isW, h1])⟩

/-- the bytes behind a wide field's first one, as a number; the other sides of them, where it is below 0 -/
def wid (neg : Bool) : Int → List Int → Option Int
  | n, [] => some n
  | n, c :: t => if 36028797018963967 < n then none else wid neg (256 * n + (if neg then 255 - c else c)) t

def wide (l : List Int) : Option Int :=
  if isW l then (if l.headD 0 = 255 then (wid true 0 l.tail).map (fun n => -n - 1) else wid false 0 l.tail) else none

theorem join256 (n d : Int) (h0 : 0 ≤ n) (h1 : n < 36028797018963968) (h2 : 0 ≤ d) (h3 : d < 256) : bits BinOp.or IntKind.u64 (n * 256) d = 256 * n + d := by
  rw [u64_or _ _ (by omega) (by omega) (by omega) (by omega), nat_join 8 _ _ (by omega) (by omega)]; omega

theorem joinNeg (n d : Int) (h0 : 0 ≤ n) (h1 : n < 36028797018963968) (h2 : 0 ≤ d) (h3 : d < 256) :
    bits BinOp.or IntKind.u64 (IntKind.u64.wrap ((18446744073709551615 - n) * 256)) d = 18446744073709551615 - (256 * n + (255 - d)) := by
  rw [IntKind.wrap_u64, u64_or _ _ (by omega) (by omega) (by omega) (by omega), nat_join 8 _ _ (by omega) (by omega)]; omega

theorem wrapNeg (n : Int) (h0 : 0 ≤ n) (h1 : n ≤ 9223372036854775807) : wrap64 (18446744073709551615 - n) = -n - 1 := by go_arith

theorem isW_cons {l : List Int} (h : isW l = true) : ∃ c d t, l = c :: d :: t ∧ (c = 128 ∨ c = 255) := by
  match l, h with
  | c :: d :: t, h => exact ⟨c, d, t, rfl, by simpa [isW] using h⟩

set_option maxHeartbeats 1000000 in
theorem wide_any (w : World) (a : Option Addr) (len cap : Nat) (l : List Int) (h : Bys w a len cap l) :
    Calls Try.prog 50 #[.slice a len cap] w fun e w' => w' = w ∧ e = .returned (.tuple #[.int .i64 (val (wide l)), .int .u8 (cod (wide l))]) := by
  cases hW : isW l
  · have E : Hid (wide l = none) := hid (by unfold wide; rw [hW]; rfl)
    go_enter Try.func50, Try.ntmps50
    go_wp2_with (go_at_call 65; refine (isWide_any _ _ _ _ _ h).mono ?_; rintro e w' ⟨rfl, rfl⟩)
    all_goals go_ret2
    all_goals exact ⟨rfl, ret_two (by rw [E.out]; rfl) (by rw [E.out]; rfl)⟩
  · obtain ⟨c0, d0, t0, rfl, hc0⟩ := isW_cons hW
    have h' := h
    obtain ⟨hl0, hlc, hm, hb, ⟨h00, rfl⟩ | ⟨h0, b, off, rfl, hc⟩⟩ := h'
    · simp at h00
    · have hck : w.cell? ⟨b, off, none⟩ = some (.int .u8 c0) := by simpa using hc.2 0 (by simp)
      have hge : 2 ≤ len := by simp at hl0; omega
      obtain ⟨t, ht⟩ : ∃ t, t = d0 :: t0 := ⟨_, rfl⟩
      have hct : Cells w b (off + 1) t := by have := hc.drop 1; rw [ht]; simpa using this
      have hlt : Hid (t.length + 1 = len) := hid (by rw [ht]; simpa using hl0)
      have hWd : Hid (wide (c0 :: d0 :: t0) = if c0 = 255 then (wid true 0 t).map (fun n => -n - 1) else wid false 0 t) := hid (by unfold wide; rw [hW, ht]; rfl)
      clear ht hb hc hl0
      rcases hc0 with rfl | rfl
      · have E : Hid (wide (128 :: d0 :: t0) = wid false 0 t) := hid (by rw [hWd.out]; rfl)
        go_enter Try.func50, Try.ntmps50
        go_wp2_with (go_at_call 65; refine (isWide_any _ _ _ _ _ h).mono ?_; rintro e w' ⟨rfl, rfl⟩)
        clear h
        go_loop [5, 19] (fun u i => ∃ (k : Nat) (n : Int), k + 1 ≤ len ∧ 0 ≤ n ∧ n ≤ 9223372036854775807 ∧ i = .int .i64 k ∧ u = .int .u64 n ∧ Hid (wid false 0 t = wid false n (t.drop k))) (fun _ i => len - (intOf i).toNat)
        case atStart => exact ⟨0, 0, by omega, by omega, by omega, rfl, rfl, hid (by simp)⟩
        case round =>
          obtain ⟨k, n, hk, hn0, hn1, rfl, rfl, hr⟩ := hrel
          by_cases hlt2 : k + 1 < len
          · obtain ⟨c, hd, hc0, hc1, hck⟩ := hct.at (k := k) (by have := hlt.out; omega)
            have hlt3 : k < len - 1 := by omega
            by_cases hbig : 36028797018963967 < n
            · have E2 : Hid (wide (128 :: d0 :: t0) = none) := hid (by rw [E.out, hr.out, hd.out, wid, if_pos hbig])
              have hbig' : (n / 36028797018963968 != 0) = true := by simp; omega
              go_wp2
              all_goals go_ret2
              all_goals exact ⟨rfl, ret_two (by rw [E2.out]; rfl) (by rw [E2.out]; rfl)⟩
            · have hbig' : (n / 36028797018963968 != 0) = false := by simp; omega
              have hj := join256 n c hn0 (by omega) (by omega) (by omega)
              go_wp2
              go_round
              case rel => exact ⟨k + 1, 256 * n + c, by omega, by omega, by omega, by go_num, by go_num, hid (by rw [hr.out, hd.out, wid, if_neg (by omega)]; rfl)⟩
              case measure => simp [intOf]; omega
          · have E2 : Hid (wide (128 :: d0 :: t0) = some n) := hid (by rw [E.out, hr.out, List.drop_eq_nil_iff.mpr (by have := hlt.out; omega)]; rfl)
            have hlt3 : ¬ k < len - 1 := by omega
            go_wp2
            all_goals go_ret2
            all_goals exact ⟨rfl, ret_two (by rw [E2.out]; rfl) (by rw [E2.out]; rfl)⟩
      · have E : Hid (wide (255 :: d0 :: t0) = (wid true 0 t).map (fun n => -n - 1)) := hid (by rw [hWd.out]; rfl)
        go_enter Try.func50, Try.ntmps50
        go_wp2_with (go_at_call 65; refine (isWide_any _ _ _ _ _ h).mono ?_; rintro e w' ⟨rfl, rfl⟩)
        clear h
        go_loop [5, 19] (fun u i => ∃ (k : Nat) (n : Int), k + 1 ≤ len ∧ 0 ≤ n ∧ n ≤ 9223372036854775807 ∧ i = .int .i64 k ∧ u = .int .u64 (18446744073709551615 - n) ∧ Hid (wid true 0 t = wid true n (t.drop k))) (fun _ i => len - (intOf i).toNat)
        case atStart => exact ⟨0, 0, by omega, by omega, by omega, rfl, rfl, hid (by simp)⟩
        case round =>
          obtain ⟨k, n, hk, hn0, hn1, rfl, rfl, hr⟩ := hrel
          by_cases hlt2 : k + 1 < len
          · obtain ⟨c, hd, hc0, hc1, hck⟩ := hct.at (k := k) (by have := hlt.out; omega)
            have hlt3 : k < len - 1 := by omega
            by_cases hbig : 36028797018963967 < n
            · have E2 : Hid (wide (255 :: d0 :: t0) = none) := hid (by rw [E.out, hr.out, hd.out, wid, if_pos hbig]; rfl)
              have hbig' : ((18446744073709551615 - n) / 36028797018963968 != 511) = true := by simp; omega
              go_wp2
              all_goals go_ret2
              all_goals exact ⟨rfl, ret_two (by rw [E2.out]; rfl) (by rw [E2.out]; rfl)⟩
            · have hbig' : ((18446744073709551615 - n) / 36028797018963968 != 511) = false := by simp; omega
              have hj := joinNeg n c hn0 (by omega) (by omega) (by omega)
              go_wp2
              go_round
              case rel => exact ⟨k + 1, 256 * n + (255 - c), by omega, by omega, by omega, by go_num, by go_num, hid (by rw [hr.out, hd.out, wid, if_neg (by omega)]; rfl)⟩
              case measure => simp [intOf]; omega
          · have E2 : Hid (wide (255 :: d0 :: t0) = some (-n - 1)) := hid (by rw [E.out, hr.out, List.drop_eq_nil_iff.mpr (by have := hlt.out; omega)]; rfl)
            have hlt3 : ¬ k < len - 1 := by omega
            go_wp2
            all_goals go_ret2
            all_goals exact ⟨rfl, ret_two (by rw [E2.out]; exact wrapNeg n hn0 hn1) (by rw [E2.out]; rfl)⟩

def got (l : List Int) : Option Int := if 128 ≤ l.headD 0 then wide l else octal l

theorem get_any (w : World) (a : Option Addr) (len cap : Nat) (l : List Int) (h : Bys w a len cap l) :
    Calls Try.prog 35 #[.slice a len cap] w fun e w' => w' = w ∧ e = .returned (.tuple #[.int .i64 (val (got l)), .int .u8 (cod (got l))]) := by
  have h' := h
  obtain ⟨hl0, hlc, hm, hb, ⟨rfl, rfl⟩ | ⟨h0, b, off, rfl, hc⟩⟩ := h'
  · have E : Hid (got [] = octal []) := hid rfl
    go_enter Try.func35, Try.ntmps35
    go_wp2_with (go_at_call 46; refine (octal_any _ _ _ _ _ h).mono ?_; rintro e w' ⟨rfl, rfl⟩)
    all_goals go_ret2
    all_goals exact ⟨rfl, ret_two (by rw [E.out]) (by rw [E.out])⟩
  · obtain ⟨c, hd, hc0, hc1, hck⟩ := hc.at (k := 0) (by omega)
    have hck' : w.cell? ⟨b, off, none⟩ = some (.int .u8 c) := hck
    have E : Hid (got l = if 128 ≤ c then wide l else octal l) := hid (by have := hd.out; simp only [List.drop_zero] at this; unfold got; rw [this]; rfl)
    clear hck hd hc hb hl0
    by_cases h1 : 128 ≤ c
    · rw [if_pos h1] at E
      go_enter Try.func35, Try.ntmps35
      go_wp2_with (go_at_call 50; refine (wide_any _ _ _ _ _ h).mono ?_; rintro e w' ⟨rfl, rfl⟩)
      all_goals go_ret2
      all_goals exact ⟨rfl, ret_two (by rw [E.out]) (by rw [E.out])⟩
    · rw [if_neg h1] at E
      go_enter Try.func35, Try.ntmps35
      go_wp2_with (go_at_call 46; refine (octal_any _ _ _ _ _ h).mono ?_; rintro e w' ⟨rfl, rfl⟩)
      all_goals go_ret2
      all_goals exact ⟨rfl, ret_two (by rw [E.out]) (by rw [E.out])⟩

theorem wrapDig (n c : Int) (h0 : 0 ≤ n) (h1 : n ≤ 1152921504606846975) (h2 : 48 ≤ c) (h3 : c ≤ 55) : wrap64 (wrap64 (8 * n + c) - 48) = 8 * n + (c - 48) := by go_arith

set_option maxHeartbeats 1000000 in
theorem refOctal_any (w : World) (a : Option Addr) (len cap : Nat) (l : List Int) (h : Bys w a len cap l) :
    Calls Try.prog 49 #[.slice a len cap] w fun e w' => w' = w ∧ e = .returned (.tuple #[.int .i64 (val (octal l)), .bool (octal l).isSome]) := by
  obtain ⟨hl0, hlc, hm, hb, ⟨rfl, rfl⟩ | ⟨h0, b, off, rfl, hc⟩⟩ := h
  · go_enter Try.func49, Try.ntmps49
    go_wp2
    go_rounds 1
    go_rounds 1
    go_rounds 1
    all_goals go_ret2
    all_goals exact ⟨rfl, rfl⟩
  · have hl := hid hl0
    clear hl0 hb
    go_enter Try.func49, Try.ntmps49
    go_upto_block 0 with fail
    go_cut [4] (fun i wc => wc = w ∧ ∃ k : Nat, k ≤ len ∧ i = .int .i64 k ∧ Hid (l.dropWhile (· == 32) = l.drop k))
    case first =>
      go_wp2
      go_loop [4] (fun i => ∃ (k : Nat), k ≤ len ∧ i = .int .i64 k ∧ Hid (l.dropWhile (· == 32) = (l.drop k).dropWhile (· == 32))) (fun i => len - (intOf i).toNat)
      case atStart => exact ⟨0, Nat.zero_le _, rfl, hid (by simp)⟩
      case round =>
        obtain ⟨k, hk, rfl, hr⟩ := hrel
        by_cases hlt : k < len
        · obtain ⟨c, hd, hc0, hc1, hck⟩ := hc.at (k := k) (by rw [hl.out]; exact hlt)
          by_cases h32 : c = 32
          · subst h32
            go_wp2
            go_round
            case rel => exact ⟨k + 1, by omega, by go_num, hid (by rw [hr.out, hd.out]; simp)⟩
            case measure => simp [intOf]; omega
          · have h32' : (c == 32) = false := by simp [h32]
            go_wp2
            go_meet
            case rel => exact ⟨rfl, k, hk, rfl, hid (by rw [hr.out, hd.out, List.dropWhile_cons, if_neg (by simp [h32])])⟩
        · go_wp2
          go_meet
          case rel => exact ⟨rfl, k, hk, rfl, hid (by rw [hr.out, List.drop_eq_nil_iff.mpr (by rw [hl.out]; omega)]; rfl)⟩
    case rest =>
      obtain ⟨rfl, k0, hk0, rfl, hr0⟩ := hcut
      go_upto_block 2 with fail
      go_cut [4, 5] (fun i u w1 => w1 = wc ∧ ∃ (k : Nat) (n : Int), k ≤ len ∧ 0 ≤ n ∧ n ≤ 9223372036854775807 ∧ i = .int .i64 k ∧ u = .int .i64 n ∧ Hid (octal l = if (l.drop k).all fill then some n else none))
      case first =>
        go_wp2
        go_loop [4, 5] (fun i u => ∃ (k : Nat) (n : Int), k ≤ len ∧ 0 ≤ n ∧ n ≤ 9223372036854775807 ∧ i = .int .i64 k ∧ u = .int .i64 n ∧ Hid (oct 0 (l.dropWhile (· == 32)) = oct n (l.drop k))) (fun i _ => len - (intOf i).toNat)
        case atStart => exact ⟨k0, 0, hk0, by omega, by omega, rfl, rfl, hid (by rw [hr0.out])⟩
        case round =>
          obtain ⟨k, n, hk, hn0, hn1, rfl, rfl, hr⟩ := hrel
          by_cases hlt : k < len
          · obtain ⟨c, hd, hc0, hc1, hck⟩ := hc.at (k := k) (by rw [hl.out]; exact hlt)
            by_cases hdg : dig c = true
            · have hdg' := (dig_iff c).mp hdg
              obtain ⟨hd1, hd2⟩ := hdg'
              by_cases hbig : 1152921504606846975 < n
              · have E : Hid (octal l = none) := hid (by unfold octal; rw [hr.out, hd.out, oct, if_pos hdg, if_pos (by omega)])
                go_wp2
                all_goals go_ret2
                all_goals exact ⟨rfl, ret_vb (by rw [E.out]; rfl) (by rw [E.out]; rfl)⟩
              · have E : Hid (oct 0 (l.dropWhile (· == 32)) = oct (8 * n + (c - 48)) (l.drop (k + 1))) := hid (by rw [hr.out, hd.out, oct, if_pos hdg, if_neg (by omega)])
                have hj := wrapDig n c hn0 (by omega) hd1 hd2
                go_wp2
                go_round
                case rel => exact ⟨k + 1, 8 * n + (c - 48), by omega, by omega, by omega, by go_num, by go_num, E⟩
                case measure => simp [intOf]; omega
            · have E : Hid (octal l = if (l.drop k).all fill then some n else none) := hid (octal_of (by rw [hr.out, hd.out, oct_stop _ _ _ hdg]))
              have hdg' : ¬ (48 ≤ c ∧ c ≤ 55) := fun h => hdg ((dig_iff c).mpr h)
              clear hdg
              by_cases h48 : 48 ≤ c
              · have h55 : ¬ c ≤ 55 := fun h => hdg' ⟨h48, h⟩
                clear hdg'
                go_wp2
                go_meet
                case rel => exact ⟨rfl, k, n, hk, hn0, hn1, rfl, rfl, E⟩
              · clear hdg'
                go_wp2
                go_meet
                case rel => exact ⟨rfl, k, n, hk, hn0, hn1, rfl, rfl, E⟩
          · have E : Hid (octal l = if (l.drop k).all fill then some n else none) := hid (octal_of (by rw [hr.out, List.drop_eq_nil_iff.mpr (by rw [hl.out]; omega)]; rfl))
            go_wp2
            go_meet
            case rel => exact ⟨rfl, k, n, hk, hn0, hn1, rfl, rfl, E⟩
      case rest =>
        obtain ⟨rfl, k1, n, hk1, hn0, hn1, rfl, rfl, hr1⟩ := hcut
        go_wp2
        go_loop [4] (fun i => ∃ (k : Nat), k ≤ len ∧ i = .int .i64 k ∧ Hid (octal l = if (l.drop k).all fill then some n else none)) (fun i => len - (intOf i).toNat)
        case atStart => exact ⟨k1, hk1, rfl, hr1⟩
        case round =>
          obtain ⟨k, hk, rfl, hr⟩ := hrel
          by_cases hlt : k < len
          · obtain ⟨c, hd, hc0, hc1, hck⟩ := hc.at (k := k) (by rw [hl.out]; exact hlt)
            by_cases h1 : fill c = true
            · have h1' : c = 0 ∨ c = 32 := by simpa [fill] using h1
              have E : Hid (octal l = if (l.drop (k + 1)).all fill then some n else none) := hid (by rw [hr.out, hd.out, List.all_cons, h1]; rfl)
              clear h1
              rcases h1' with rfl | rfl
              all_goals go_wp2
              all_goals go_round
              case rel => exact ⟨k + 1, by omega, by go_num, E⟩
              case measure => simp [intOf]; omega
              case rel => exact ⟨k + 1, by omega, by go_num, E⟩
              case measure => simp [intOf]; omega
            · have E : Hid (octal l = none) := hid (by rw [hr.out, hd.out, List.all_cons]; simp [h1])
              have h1' : (c != 0) = true ∧ (c != 32) = true := by simpa [fill] using h1
              obtain ⟨h2, h3⟩ := h1'
              clear h1
              go_wp2
              all_goals go_ret2
              all_goals exact ⟨rfl, ret_vb (by rw [E.out]; rfl) (by rw [E.out]; rfl)⟩
          · have E : Hid (octal l = some n) := hid (by rw [hr.out, List.drop_eq_nil_iff.mpr (by rw [hl.out]; omega)]; rfl)
            go_wp2
            all_goals go_ret2
            all_goals exact ⟨rfl, ret_vb (by rw [E.out]; rfl) (by rw [E.out]; rfl)⟩

set_option maxHeartbeats 1000000 in
theorem refWide_any (w : World) (a : Option Addr) (len cap : Nat) (l : List Int) (h : Bys w a len cap l) :
    Calls Try.prog 51 #[.slice a len cap] w fun e w' => w' = w ∧ e = .returned (.tuple #[.int .i64 (val (wide l)), .bool (wide l).isSome]) := by
  obtain ⟨hl0, hlc, hm, hb, ⟨rfl, rfl⟩ | ⟨h0, b, off, rfl, hc⟩⟩ := h
  · go_enter Try.func51, Try.ntmps51
    go_wp2
    all_goals go_ret2
    all_goals exact ⟨rfl, rfl⟩
  · obtain ⟨c0, t, rfl, hc00, hc01, hck⟩ := hd_cell hc hl0 h0
    have hct : Cells w b (off + 1) t := by have := hc.drop 1; simpa using this
    have hlt : Hid (t.length + 1 = len) := hid (by simpa using hl0)
    clear hl0 hc hb
    cases hW : isW (c0 :: t)
    · have E : Hid (wide (c0 :: t) = none) := hid (by unfold wide; rw [hW]; rfl)
      by_cases h2 : len < 2
      · clear hW
        go_enter Try.func51, Try.ntmps51
        go_wp2
        all_goals go_ret2
        all_goals exact ⟨rfl, ret_vb (by rw [E.out]; rfl) (by rw [E.out]; rfl)⟩
      · have h3 : ¬ c0 = 128 ∧ ¬ c0 = 255 := by
          match t, hlt, hW with
          | [], h, _ => have := h.out; simp at this; omega
          | _ :: _, _, h => simpa [isW] using h
        have h4 : (c0 != 128) = true := by simp [h3.1]
        have h5 : (c0 != 255) = true := by simp [h3.2]
        clear hW h3
        go_enter Try.func51, Try.ntmps51
        go_wp2
        all_goals go_ret2
        all_goals exact ⟨rfl, ret_vb (by rw [E.out]; rfl) (by rw [E.out]; rfl)⟩
    · have hge : 2 ≤ len := by
        obtain ⟨c, d, t', e, _⟩ := isW_cons hW
        have := hlt.out; simp at e; rw [e.2] at this; simp at this; omega
      have hc0 : c0 = 128 ∨ c0 = 255 := by
        obtain ⟨c, d, t', e, h⟩ := isW_cons hW
        simp at e; rw [e.1]; exact h
      have hWd : Hid (wide (c0 :: t) = if c0 = 255 then (wid true 0 t).map (fun n => -n - 1) else wid false 0 t) := hid (by unfold wide; rw [hW]; rfl)
      clear hW
      rcases hc0 with rfl | rfl
      · have E : Hid (wide (128 :: t) = wid false 0 t) := hid (by rw [hWd.out]; rfl)
        clear hWd
        go_enter Try.func51, Try.ntmps51
        go_wp2
        go_loop [4, 5] (fun u i => ∃ (k : Nat) (n : Int), k + 1 ≤ len ∧ 0 ≤ n ∧ n ≤ 9223372036854775807 ∧ i = .int .i64 (k + 1 : Nat) ∧ u = .int .i64 n ∧ Hid (wid false 0 t = wid false n (t.drop k))) (fun _ i => len - (intOf i).toNat)
        case atStart => exact ⟨0, 0, by omega, by omega, by omega, rfl, rfl, hid (by simp)⟩
        case round =>
          obtain ⟨k, n, hk, hn0, hn1, rfl, rfl, hr⟩ := hrel
          by_cases hlt2 : k + 1 < len
          · obtain ⟨c, hd, hc0, hc1, hck0⟩ := hct.at (k := k) (by have := hlt.out; omega)
            have hck2 : w.cell? ⟨b, off + (k + 1), none⟩ = some (.int .u8 c) := by rw [← hck0]; congr 2; omega
            clear hck0
            by_cases hbig : 36028797018963967 < n
            · have E2 : Hid (wide (128 :: t) = none) := hid (by rw [E.out, hr.out, hd.out, wid, if_pos hbig])
              go_wp2
              all_goals go_ret2
              all_goals exact ⟨rfl, ret_vb (by rw [E2.out]; rfl) (by rw [E2.out]; rfl)⟩
            · have E2 : Hid (wid false 0 t = wid false (256 * n + c) (t.drop (k + 1))) := hid (by rw [hr.out, hd.out, wid, if_neg (by omega)]; rfl)
              go_wp2
              go_round
              case rel => exact ⟨k + 1, 256 * n + c, by omega, by omega, by omega, by go_num, by go_num, E2⟩
              case measure => simp [intOf]; omega
          · have E2 : Hid (wide (128 :: t) = some n) := hid (by rw [E.out, hr.out, List.drop_eq_nil_iff.mpr (by have := hlt.out; omega)]; rfl)
            go_wp2
            all_goals go_ret2
            all_goals exact ⟨rfl, ret_vb (by rw [E2.out]; rfl) (by rw [E2.out]; rfl)⟩
      · have E : Hid (wide (255 :: t) = (wid true 0 t).map (fun n => -n - 1)) := hid (by rw [hWd.out]; rfl)
        clear hWd
        go_enter Try.func51, Try.ntmps51
        go_wp2
        go_loop [4, 5] (fun u i => ∃ (k : Nat) (n : Int), k + 1 ≤ len ∧ 0 ≤ n ∧ n ≤ 9223372036854775807 ∧ i = .int .i64 (k + 1 : Nat) ∧ u = .int .i64 n ∧ Hid (wid true 0 t = wid true n (t.drop k))) (fun _ i => len - (intOf i).toNat)
        case atStart => exact ⟨0, 0, by omega, by omega, by omega, rfl, rfl, hid (by simp)⟩
        case round =>
          obtain ⟨k, n, hk, hn0, hn1, rfl, rfl, hr⟩ := hrel
          by_cases hlt2 : k + 1 < len
          · obtain ⟨c, hd, hc0, hc1, hck0⟩ := hct.at (k := k) (by have := hlt.out; omega)
            have hck2 : w.cell? ⟨b, off + (k + 1), none⟩ = some (.int .u8 c) := by rw [← hck0]; congr 2; omega
            clear hck0
            by_cases hbig : 36028797018963967 < n
            · have E2 : Hid (wide (255 :: t) = none) := hid (by rw [E.out, hr.out, hd.out, wid, if_pos hbig]; rfl)
              go_wp2
              all_goals go_ret2
              all_goals exact ⟨rfl, ret_vb (by rw [E2.out]; rfl) (by rw [E2.out]; rfl)⟩
            · have E2 : Hid (wid true 0 t = wid true (256 * n + (255 - c)) (t.drop (k + 1))) := hid (by rw [hr.out, hd.out, wid, if_neg (by omega)]; rfl)
              go_wp2
              go_round
              case rel => exact ⟨k + 1, 256 * n + (255 - c), by omega, by omega, by omega, by go_num, by go_num, E2⟩
              case measure => simp [intOf]; omega
          · have E2 : Hid (wide (255 :: t) = some (-n - 1)) := hid (by rw [E.out, hr.out, List.drop_eq_nil_iff.mpr (by have := hlt.out; omega)]; rfl)
            go_wp2
            all_goals go_ret2
            all_goals exact ⟨rfl, ret_vb (by rw [E2.out]; rfl) (by rw [E2.out]; rfl)⟩

theorem refGet_any (w : World) (a : Option Addr) (len cap : Nat) (l : List Int) (h : Bys w a len cap l) :
    Calls Try.prog 38 #[.slice a len cap] w fun e w' => w' = w ∧ e = .returned (.tuple #[.int .i64 (val (got l)), .bool (got l).isSome]) := by
  have h' := h
  obtain ⟨hl0, hlc, hm, hb, ⟨rfl, rfl⟩ | ⟨h0, b, off, rfl, hc⟩⟩ := h'
  · have E : Hid (got [] = octal []) := hid rfl
    go_enter Try.func38, Try.ntmps38
    go_wp2_with (go_at_call 49; refine (refOctal_any _ _ _ _ _ h).mono ?_; rintro e w' ⟨rfl, rfl⟩)
    all_goals go_ret2
    all_goals exact ⟨rfl, ret_vb (by rw [E.out]) (by rw [E.out])⟩
  · obtain ⟨c, hd, hc0, hc1, hck⟩ := hc.at (k := 0) (by omega)
    have hck' : w.cell? ⟨b, off, none⟩ = some (.int .u8 c) := hck
    have E : Hid (got l = if 128 ≤ c then wide l else octal l) := hid (by have := hd.out; simp only [List.drop_zero] at this; unfold got; rw [this]; rfl)
    clear hck hd hc hb hl0
    by_cases h1 : 128 ≤ c
    · rw [if_pos h1] at E
      go_enter Try.func38, Try.ntmps38
      go_wp2_with (go_at_call 51; refine (refWide_any _ _ _ _ _ h).mono ?_; rintro e w' ⟨rfl, rfl⟩)
      all_goals go_ret2
      all_goals exact ⟨rfl, ret_vb (by rw [E.out]) (by rw [E.out])⟩
    · rw [if_neg h1] at E
      go_enter Try.func38, Try.ntmps38
      go_wp2_with (go_at_call 49; refine (refOctal_any _ _ _ _ _ h).mono ?_; rintro e w' ⟨rfl, rfl⟩)
      all_goals go_ret2
      all_goals exact ⟨rfl, ret_vb (by rw [E.out]) (by rw [E.out])⟩

end Go.Proofs.Ytgjbopbpekocpaa
