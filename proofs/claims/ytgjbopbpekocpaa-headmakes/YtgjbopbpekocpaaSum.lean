/-
  The sums of a header, for every slice of bytes.
-/
import Derived.Test.YtgjbopbpekocpaaRefPut
import Derived.Test.YtgjbopbpekocpaaStrs
namespace Go.Proofs.Ytgjbopbpekocpaa
open Go.ChangeShapes Go.WideShapes Go.ChangeAt Go.RowKit
set_option linter.unusedVariables false
set_option maxRecDepth 20000

/-- what the byte at 'i' counts as -/
def cnt (i : Nat) (c : Int) : Int := if 148 ≤ i ∧ i < 156 then 32 else c

/-- a byte as a signed one -/
def sg (c : Int) : Int := if 128 ≤ c then c - 256 else c

/-- the sum of bytes from place 'i' on -/
def pl : Nat → List Int → Int
  | _, [] => 0
  | i, c :: t => cnt i c + pl (i + 1) t

/-- the signed sum of bytes from place 'i' on -/
def sn : Nat → List Int → Int
  | _, [] => 0
  | i, c :: t => sg (cnt i c) + sn (i + 1) t

theorem cnt_range (i : Nat) (c : Int) (h0 : 0 ≤ c) (h1 : c ≤ 255) : 0 ≤ cnt i c ∧ cnt i c ≤ 255 := by unfold cnt; split <;> omega

theorem sg_range (c : Int) (h0 : 0 ≤ c) (h1 : c ≤ 255) : -128 ≤ sg c ∧ sg c ≤ 127 := by unfold sg; split <;> omega

theorem pl_range (l : List Int) (h : ∀ x ∈ l, 0 ≤ x ∧ x ≤ 255) : ∀ i, 0 ≤ pl i l ∧ pl i l ≤ 255 * l.length := by
  induction l with
  | nil => intro i; simp [pl]
  | cons c t ih =>
    intro i
    have h1 := ih (fun x hx => h x (List.mem_cons_of_mem _ hx)) (i + 1)
    have h2 := h c (by simp)
    have h3 := cnt_range i c h2.1 h2.2
    simp only [pl, List.length_cons]
    omega

theorem sn_range (l : List Int) (h : ∀ x ∈ l, 0 ≤ x ∧ x ≤ 255) : ∀ i, -128 * l.length ≤ sn i l ∧ sn i l ≤ 127 * l.length := by
  induction l with
  | nil => intro i; simp [sn]
  | cons c t ih =>
    intro i
    have h1 := ih (fun x hx => h x (List.mem_cons_of_mem _ hx)) (i + 1)
    have h2 := h c (by simp)
    have h3 := cnt_range i c h2.1 h2.2
    have h4 := sg_range _ h3.1 h3.2
    simp only [sn, List.length_cons]
    omega

theorem i8_high (c : Int) (h0 : 128 ≤ c) (h1 : c ≤ 255) : IntKind.i8.wrap c = c - 256 := by
  simp [IntKind.wrap, IntKind.bits, IntKind.signed]; omega

theorem ret_sums {a b a' b' : Int} {k : Int} (h : a = a') (h' : b = b') : Ending.returned (.tuple #[.int .i64 a, .int .i64 b, .int .u8 k]) = .returned (.tuple #[.int .i64 a', .int .i64 b', .int .u8 k]) := by rw [h, h']

theorem sum_bad {w : World} {a : Option Addr} {len cap : Nat} {l : List Int} (h : Bys w a len cap l) (hne : len ≠ 512) :
    Calls Try.prog 45 #[.slice a len cap] w fun e w' => w' = w ∧ e = .returned (.tuple #[.int .i64 0, .int .i64 0, .int .u8 2]) := by
  obtain ⟨hl0, hlc, hm, hb, -⟩ := h
  clear hb hl0
  have h1 : (len : Int) ≠ 512 := by omega
  go_enter Try.func45, Try.ntmps45
  go_wp2
  all_goals go_ret3
  all_goals exact ⟨rfl, rfl⟩

set_option maxHeartbeats 4000000 in
set_option maxRecDepth 20000 in
theorem sum_ok {w : World} {a : Option Addr} {len cap : Nat} {l : List Int} (h : Bys w a len cap l) (hlen : len = 512) :
    Calls Try.prog 45 #[.slice a len cap] w fun e w' => w' = w ∧ e = .returned (.tuple #[.int .i64 (pl 0 l), .int .i64 (sn 0 l), .int .u8 0]) := by
  obtain ⟨hl0, hlc, hm, hb, ⟨rfl, h⟩ | ⟨h0, b, off, rfl, hc⟩⟩ := h
  · omega
  have hl := hid hl0
  have h512 : (len : Int) = 512 := by omega
  clear hl0 hb hlen
  go_enter Try.func45, Try.ntmps45
  go_wp2
  go_loop [14, 5, 6] (fun i p s => ∃ (k : Nat) (x y : Int), k ≤ len ∧ i = .int .i64 k ∧ p = .int .i64 x ∧ s = .int .i64 y ∧ 0 ≤ x ∧ x ≤ 255 * k ∧ -128 * (k : Int) ≤ y ∧ y ≤ 127 * k ∧ Hid (pl 0 l = x + pl k (l.drop k) ∧ sn 0 l = y + sn k (l.drop k))) (fun i _ _ => len - (intOf i).toNat)
  case atStart => exact ⟨0, 0, 0, by omega, rfl, rfl, rfl, by omega, by omega, by omega, by omega, hid (by simp)⟩
  case round =>
    obtain ⟨k, x, y, hk, rfl, rfl, rfl, hx0, hx1, hy0, hy1, hr⟩ := hrel
    by_cases hlt : k < len
    · obtain ⟨c, hd, hc0, hc1, hck⟩ := hc.at (k := k) (by rw [hl.out]; exact hlt)
      have E : Hid (pl 0 l = x + cnt k c + pl (k + 1) (l.drop (k + 1)) ∧ sn 0 l = y + sg (cnt k c) + sn (k + 1) (l.drop (k + 1))) := hid (by rw [hr.out.1, hr.out.2, hd.out]; simp only [pl, sn]; omega)
      clear hr
      by_cases hf : 148 ≤ k ∧ k < 156
      · obtain ⟨hf1, hf2⟩ := hf
        have e1 : cnt k c = 32 := by unfold cnt; rw [if_pos ⟨hf1, hf2⟩]
        have e2 : sg (cnt k c) = 32 := by rw [e1]; rfl
        rw [e1, show sg 32 = 32 from rfl] at E
        clear e1 e2
        go_wp2
        go_round
        case rel => exact ⟨k + 1, x + 32, y + 32, by omega, by go_num, by go_num, by go_num, by omega, by omega, by omega, by omega, E⟩
        case measure => simp [intOf]; omega
      · have e1 : cnt k c = c := by unfold cnt; rw [if_neg hf]
        rw [e1] at E
        clear e1
        by_cases hs : 128 ≤ c
        · have e2 : sg c = c - 256 := by unfold sg; rw [if_pos hs]
          rw [e2] at E
          clear e2
          have hi8 := i8_high c hs hc1
          by_cases hf1 : 148 ≤ k
          · have hf2 : ¬ k < 156 := by omega
            clear hf
            go_wp2
            go_round
            case rel => exact ⟨k + 1, x + c, y + (c - 256), by omega, by go_num, by go_num, by go_num, by omega, by omega, by omega, by omega, E⟩
            case measure => simp [intOf]; omega
          · clear hf
            go_wp2
            go_round
            case rel => exact ⟨k + 1, x + c, y + (c - 256), by omega, by go_num, by go_num, by go_num, by omega, by omega, by omega, by omega, E⟩
            case measure => simp [intOf]; omega
        · have e2 : sg c = c := by unfold sg; rw [if_neg hs]
          rw [e2] at E
          clear e2
          by_cases hf1 : 148 ≤ k
          · have hf2 : ¬ k < 156 := by omega
            clear hf
            go_wp2
            go_round
            case rel => exact ⟨k + 1, x + c, y + c, by omega, by go_num, by go_num, by go_num, by omega, by omega, by omega, by omega, E⟩
            case measure => simp [intOf]; omega
          · clear hf
            go_wp2
            go_round
            case rel => exact ⟨k + 1, x + c, y + c, by omega, by go_num, by go_num, by go_num, by omega, by omega, by omega, by omega, E⟩
            case measure => simp [intOf]; omega
    · have e0 : l.drop k = [] := by rw [List.drop_eq_nil_iff, hl.out]; omega
      have E : Hid (pl 0 l = x ∧ sn 0 l = y) := hid (by rw [hr.out.1, hr.out.2, e0]; simp [pl, sn])
      clear e0
      go_wp2
      all_goals go_ret3
      all_goals exact ⟨rfl, ret_sums E.out.1.symm E.out.2.symm⟩

theorem ret_pair {a b a' b' : Int} (h : a = a') (h' : b = b') : Ending.returned (.tuple #[.int .i64 a, .int .i64 b]) = .returned (.tuple #[.int .i64 a', .int .i64 b']) := by rw [h, h']

set_option maxHeartbeats 4000000 in
set_option maxRecDepth 20000 in
theorem rsums_ok {w : World} {a : Option Addr} {len cap : Nat} {l : List Int} (h : Bys w a len cap l) (hlen : len = 512) :
    Calls Try.prog 44 #[.slice a len cap] w fun e w' => w' = w ∧ e = .returned (.tuple #[.int .i64 (pl 0 l), .int .i64 (sn 0 l)]) := by
  obtain ⟨hl0, hlc, hm, hb, ⟨rfl, h⟩ | ⟨h0, b, off, rfl, hc⟩⟩ := h
  · omega
  have hl := hid hl0
  have h512 : (len : Int) = 512 := by omega
  clear hl0 hb hlen
  go_enter Try.func44, Try.ntmps44
  go_wp2
  go_loop [6, 4, 5] (fun i p s => ∃ (k : Nat) (x y : Int), k ≤ len ∧ i = .int .i64 k ∧ p = .int .i64 x ∧ s = .int .i64 y ∧ 256 ≤ x ∧ x ≤ 256 + 255 * k ∧ 0 ≤ y ∧ y ≤ k ∧ Hid (pl 0 l = x + pl k (l.drop k) - 32 * (min 8 (156 - k) : Nat) ∧ sn 0 l = x - 256 * y + sn k (l.drop k) - 32 * (min 8 (156 - k) : Nat))) (fun i _ _ => len - (intOf i).toNat)
  case atStart => exact ⟨0, 256, 0, by omega, rfl, rfl, rfl, by omega, by omega, by omega, by omega, hid (by simp; omega)⟩
  case round =>
    obtain ⟨k, x, y, hk, rfl, rfl, rfl, hx0, hx1, hy0, hy1, hr⟩ := hrel
    by_cases hlt : k < len
    · obtain ⟨c, hd, hc0, hc1, hck⟩ := hc.at (k := k) (by rw [hl.out]; exact hlt)
      by_cases hf : 148 ≤ k ∧ k < 156
      · have E : Hid (pl 0 l = x + pl (k + 1) (l.drop (k + 1)) - 32 * (min 8 (156 - (k + 1)) : Nat) ∧ sn 0 l = x - 256 * y + sn (k + 1) (l.drop (k + 1)) - 32 * (min 8 (156 - (k + 1)) : Nat)) := hid (by
          rw [hr.out.1, hr.out.2, hd.out]; simp only [pl, sn, cnt, if_pos hf, show sg 32 = 32 from rfl]; omega)
        obtain ⟨hf1, hf2⟩ := hf
        clear hr
        go_wp2
        go_round
        case rel => exact ⟨k + 1, x, y, by omega, by go_num, by go_num, by go_num, by omega, by omega, by omega, by omega, E⟩
        case measure => simp [intOf]; omega
      · by_cases hs : 128 ≤ c
        · have E : Hid (pl 0 l = (x + c) + pl (k + 1) (l.drop (k + 1)) - 32 * (min 8 (156 - (k + 1)) : Nat) ∧ sn 0 l = (x + c) - 256 * (y + 1) + sn (k + 1) (l.drop (k + 1)) - 32 * (min 8 (156 - (k + 1)) : Nat)) := hid (by
            rw [hr.out.1, hr.out.2, hd.out]; simp only [pl, sn, cnt, if_neg hf, sg, if_pos hs]; omega)
          clear hr
          by_cases hf1 : 148 ≤ k
          · have hf2 : ¬ k < 156 := by omega
            clear hf
            go_wp2
            go_round
            case rel => exact ⟨k + 1, x + c, y + 1, by omega, by go_num, by go_num, by go_num, by omega, by omega, by omega, by omega, E⟩
            case measure => simp [intOf]; omega
          · clear hf
            go_wp2
            go_round
            case rel => exact ⟨k + 1, x + c, y + 1, by omega, by go_num, by go_num, by go_num, by omega, by omega, by omega, by omega, E⟩
            case measure => simp [intOf]; omega
        · have E : Hid (pl 0 l = (x + c) + pl (k + 1) (l.drop (k + 1)) - 32 * (min 8 (156 - (k + 1)) : Nat) ∧ sn 0 l = (x + c) - 256 * y + sn (k + 1) (l.drop (k + 1)) - 32 * (min 8 (156 - (k + 1)) : Nat)) := hid (by
            rw [hr.out.1, hr.out.2, hd.out]; simp only [pl, sn, cnt, if_neg hf, sg, if_neg hs]; omega)
          clear hr
          by_cases hf1 : 148 ≤ k
          · have hf2 : ¬ k < 156 := by omega
            clear hf
            go_wp2
            go_round
            case rel => exact ⟨k + 1, x + c, y, by omega, by go_num, by go_num, by go_num, by omega, by omega, by omega, by omega, E⟩
            case measure => simp [intOf]; omega
          · clear hf
            go_wp2
            go_round
            case rel => exact ⟨k + 1, x + c, y, by omega, by go_num, by go_num, by go_num, by omega, by omega, by omega, by omega, E⟩
            case measure => simp [intOf]; omega
    · have e0 : l.drop k = [] := by rw [List.drop_eq_nil_iff, hl.out]; omega
      have E : Hid (pl 0 l = x ∧ sn 0 l = x - 256 * y) := hid (by rw [hr.out.1, hr.out.2, e0]; simp only [pl, sn]; omega)
      clear e0
      go_wp2
      all_goals go_ret2
      all_goals exact ⟨rfl, ret_pair (by rw [E.out.1]) (by rw [E.out.2])⟩

/-- the code of a header's field -/
def chk (l : List Int) : Int :=
  if l.length ≠ 512 then 2 else
  match octal ((l.drop 148).take 8) with
  | none => 5
  | some n => if n ≠ pl 0 l ∧ n ≠ sn 0 l then 4 else 0

theorem Bys.drop {w : World} {a : Option Addr} {n c : Nat} {l : List Int} {b off : Nat} (k : Nat) (ha : a = some ⟨b, off, none⟩) (h : Bys w a n c l) (hk : k ≤ n) : Bys w (some ⟨b, off + k, none⟩) (n - k) (c - k) (l.drop k) := by
  subst ha
  obtain ⟨hl, hlc, hm, hb, ⟨rfl, rfl⟩ | ⟨h0, b', off', e, hc⟩⟩ := h
  · obtain rfl : k = 0 := by omega
    simpa using Bys.mk0 (by omega)
  · simp only [Option.some.injEq, Addr.mk.injEq, and_true] at e
    obtain ⟨rfl, rfl⟩ := e
    exact Bys.mk' (by rw [List.length_drop, hl]) (by omega) (by omega) (hc.drop k)

theorem Bys.field {w : World} {b off len cap : Nat} {l : List Int} (h : Bys w (some ⟨b, off, none⟩) len cap l) (hlen : len = 512) : Bys w (some ⟨b, off + 148, none⟩) 8 (cap - 148) ((l.drop 148).take 8) :=
  (h.drop 148 rfl (by omega)).take 8 (by omega)

theorem check_bad {w : World} {a : Option Addr} {len cap : Nat} {l : List Int} (h : Bys w a len cap l) (hne : len ≠ 512) :
    Calls Try.prog 22 #[.slice a len cap] w fun e w' => w' = w ∧ e = .returned (.int .u8 2) := by
  go_enter Try.func22, Try.ntmps22
  go_wp2_with (go_at_call 45; refine (sum_bad h hne).mono ?_; rintro e w' ⟨hw, rfl⟩; obtain rfl := hw.symm)
  all_goals go_ret
  all_goals exact ⟨rfl, rfl⟩

theorem rcheck_bad {w : World} {a : Option Addr} {len cap : Nat} {l : List Int} (h : Bys w a len cap l) (hne : len ≠ 512) :
    Calls Try.prog 29 #[.slice a len cap] w fun e w' => w' = w ∧ e = .returned (.int .i64 2) := by
  obtain ⟨hl0, hlc, hm, hb, -⟩ := h
  have h1 : (len : Int) ≠ 512 := by omega
  clear hb hl0
  go_enter Try.func29, Try.ntmps29
  go_wp2
  all_goals go_ret
  all_goals exact ⟨rfl, rfl⟩

theorem Bys.some_of {w : World} {a : Option Addr} {len cap : Nat} {l : List Int} (h : Bys w a len cap l) (h0 : 0 < len) : ∃ b off, a = some ⟨b, off, none⟩ := by
  obtain ⟨_, _, _, _, ⟨_, h⟩ | ⟨_, b, off, rfl, _⟩⟩ := h
  · omega
  · exact ⟨b, off, rfl⟩

theorem chk_none {l : List Int} (h : l.length = 512) (ho : octal ((l.drop 148).take 8) = none) : chk l = 5 := by unfold chk; rw [if_neg (by omega), ho]

theorem chk_some {l : List Int} {n : Int} (h : l.length = 512) (ho : octal ((l.drop 148).take 8) = some n) : chk l = if n ≠ pl 0 l ∧ n ≠ sn 0 l then 4 else 0 := by unfold chk; rw [if_neg (by omega), ho]

set_option maxHeartbeats 4000000 in
set_option maxRecDepth 20000 in
theorem check_ok {w : World} {a : Option Addr} {len cap : Nat} {l : List Int} (h : Bys w a len cap l) (hlen : len = 512) :
    Calls Try.prog 22 #[.slice a len cap] w fun e w' => w' = w ∧ e = .returned (.int .u8 (chk l)) := by
  obtain ⟨b, off, rfl⟩ := h.some_of (by omega)
  have hF := h.field hlen
  have hll : l.length = 512 := h.1.trans hlen
  have hcap : 512 ≤ cap ∧ cap ≤ 9223372036854775807 := ⟨by have := h.2.1; omega, h.2.2.1⟩
  have hsum := sum_ok h hlen
  have hoct := octal_any _ _ _ _ _ hF
  obtain ⟨hcap1, hcap2⟩ := hcap
  have h512 : (len : Int) = 512 := by omega
  cases ho : octal ((l.drop 148).take 8) with
  | none =>
    have E := hid (chk_none hll ho)
    rw [ho] at hoct
    clear h hF hll ho hlen
    change Calls _ _ _ _ fun e w' => w' = w ∧ e = .returned (.tuple #[.int .i64 0, .int .u8 5]) at hoct
    go_enter Try.func22, Try.ntmps22
    go_wp2_with (first | (go_at_call 45; refine hsum.mono ?_; rintro e w' ⟨hw, rfl⟩; obtain rfl := hw.symm) | (go_at_call 46; refine hoct.mono ?_; rintro e w' ⟨hw, rfl⟩; obtain rfl := hw.symm))
    all_goals go_ret
    all_goals exact ⟨rfl, ret_int E.out.symm⟩
  | some n =>
    have E := hid (chk_some hll ho)
    rw [ho] at hoct
    clear h hF hll ho hlen
    change Calls _ _ _ _ fun e w' => w' = w ∧ e = .returned (.tuple #[.int .i64 n, .int .u8 0]) at hoct
    generalize pl 0 l = p at *
    generalize sn 0 l = s at *
    by_cases h1 : n = p
    · rw [if_neg (by simp [h1])] at E
      go_enter Try.func22, Try.ntmps22
      go_wp2_with (first | (go_at_call 45; refine hsum.mono ?_; rintro e w' ⟨hw, rfl⟩; obtain rfl := hw.symm) | (go_at_call 46; refine hoct.mono ?_; rintro e w' ⟨hw, rfl⟩; obtain rfl := hw.symm))
      all_goals go_ret
      all_goals exact ⟨rfl, ret_int E.out.symm⟩
    · by_cases h2 : n = s
      · rw [if_neg (by simp [h2])] at E
        go_enter Try.func22, Try.ntmps22
        go_wp2_with (first | (go_at_call 45; refine hsum.mono ?_; rintro e w' ⟨hw, rfl⟩; obtain rfl := hw.symm) | (go_at_call 46; refine hoct.mono ?_; rintro e w' ⟨hw, rfl⟩; obtain rfl := hw.symm))
        all_goals go_ret
        all_goals exact ⟨rfl, ret_int E.out.symm⟩
      · rw [if_pos ⟨h1, h2⟩] at E
        have h1' : (n != p) = true := by simp [h1]
        have h2' : (n != s) = true := by simp [h2]
        clear h1 h2
        go_enter Try.func22, Try.ntmps22
        go_wp2_with (first | (go_at_call 45; refine hsum.mono ?_; rintro e w' ⟨hw, rfl⟩; obtain rfl := hw.symm) | (go_at_call 46; refine hoct.mono ?_; rintro e w' ⟨hw, rfl⟩; obtain rfl := hw.symm))
        all_goals go_ret
        all_goals exact ⟨rfl, ret_int E.out.symm⟩

set_option maxHeartbeats 4000000 in
set_option maxRecDepth 20000 in
theorem rcheck_ok {w : World} {a : Option Addr} {len cap : Nat} {l : List Int} (h : Bys w a len cap l) (hlen : len = 512) :
    Calls Try.prog 29 #[.slice a len cap] w fun e w' => w' = w ∧ e = .returned (.int .i64 (chk l)) := by
  obtain ⟨b, off, rfl⟩ := h.some_of (by omega)
  have hF := h.field hlen
  have hll : l.length = 512 := h.1.trans hlen
  have hcap : 512 ≤ cap ∧ cap ≤ 9223372036854775807 := ⟨by have := h.2.1; omega, h.2.2.1⟩
  have hsum := rsums_ok h hlen
  have hoct := refOctal_any _ _ _ _ _ hF
  obtain ⟨hcap1, hcap2⟩ := hcap
  have h512 : (len : Int) = 512 := by omega
  cases ho : octal ((l.drop 148).take 8) with
  | none =>
    have E := hid (chk_none hll ho)
    rw [ho] at hoct
    clear h hF hll ho hlen
    change Calls _ _ _ _ fun e w' => w' = w ∧ e = .returned (.tuple #[.int .i64 0, .bool false]) at hoct
    go_enter Try.func29, Try.ntmps29
    go_wp2_with (first | (go_at_call 44; refine hsum.mono ?_; rintro e w' ⟨hw, rfl⟩; obtain rfl := hw.symm) | (go_at_call 49; refine hoct.mono ?_; rintro e w' ⟨hw, rfl⟩; obtain rfl := hw.symm))
    all_goals go_ret
    all_goals exact ⟨rfl, ret_int E.out.symm⟩
  | some n =>
    have E := hid (chk_some hll ho)
    rw [ho] at hoct
    clear h hF hll ho hlen
    change Calls _ _ _ _ fun e w' => w' = w ∧ e = .returned (.tuple #[.int .i64 n, .bool true]) at hoct
    generalize pl 0 l = p at *
    generalize sn 0 l = s at *
    by_cases h1 : n = p
    · rw [if_neg (by simp [h1])] at E
      go_enter Try.func29, Try.ntmps29
      go_wp2_with (first | (go_at_call 44; refine hsum.mono ?_; rintro e w' ⟨hw, rfl⟩; obtain rfl := hw.symm) | (go_at_call 49; refine hoct.mono ?_; rintro e w' ⟨hw, rfl⟩; obtain rfl := hw.symm))
      all_goals go_ret
      all_goals exact ⟨rfl, ret_int E.out.symm⟩
    · by_cases h2 : n = s
      · rw [if_neg (by simp [h2])] at E
        go_enter Try.func29, Try.ntmps29
        go_wp2_with (first | (go_at_call 44; refine hsum.mono ?_; rintro e w' ⟨hw, rfl⟩; obtain rfl := hw.symm) | (go_at_call 49; refine hoct.mono ?_; rintro e w' ⟨hw, rfl⟩; obtain rfl := hw.symm))
        all_goals go_ret
        all_goals exact ⟨rfl, ret_int E.out.symm⟩
      · rw [if_pos ⟨h1, h2⟩] at E
        have h1' : (n != p) = true := by simp [h1]
        have h2' : (n != s) = true := by simp [h2]
        clear h1 h2
        go_enter Try.func29, Try.ntmps29
        go_wp2_with (first | (go_at_call 44; refine hsum.mono ?_; rintro e w' ⟨hw, rfl⟩; obtain rfl := hw.symm) | (go_at_call 49; refine hoct.mono ?_; rintro e w' ⟨hw, rfl⟩; obtain rfl := hw.symm))
        all_goals go_ret
        all_goals exact ⟨rfl, ret_int E.out.symm⟩

theorem same_any {w : World} {a a' : Option Addr} {n n' c c' : Nat} {l : List Int} (h : Bys w a n c l) (h' : Bys w a' n' c' l) :
    Calls Try.prog 20 #[.slice a n c, .slice a' n' c'] w fun e w' => w' = w ∧ e = .returned (.bool true) := by
  have e1 := bys_string (P := Try.prog) Try.underlying22 Try.underlying5 Try.underlying9 h
  have e2 := bys_string (P := Try.prog) Try.underlying22 Try.underlying5 Try.underlying9 h'
  clear h h'
  go_enter Try.func20, Try.ntmps20
  go_wp2
  all_goals go_ret
  all_goals exact ⟨rfl, ret_bool (by simp)⟩

end Go.Proofs.Ytgjbopbpekocpaa
