/-
  Numbers that are put into bytes. No condition.
-/
import Derived.Test.YtgjbopbpekocpaaGets
import Derived.Test.YtgjbopbpekocpaaRowops
namespace Go.Proofs.Ytgjbopbpekocpaa
open Go.ChangeShapes Go.WideShapes Go.ChangeAt Go.RowKit
set_option linter.unusedVariables false
set_option maxRecDepth 20000

theorem Try.info5 : (Try.prog.info? 5).map (fun i => (i.zero, i.size, i.bytes)) = some (some (.int .u8 0), 1, 1) := by kernel_rfl

/-- the greatest number of so many digits in base 8 -/
def most (n : Int) : Int := if n < 1 then 0 else if 20 < n then 9223372036854775807 else 8 ^ n.toNat - 1

theorem pow8_le (k : Nat) (h : k ≤ 20) : (8 : Int) ^ k ≤ 1152921504606846976 := by
  have := Nat.pow_le_pow_right (n := 8) (by omega) h
  have e : ((8 ^ k : Nat) : Int) = 8 ^ k := by simp
  rw [← e]; omega

theorem pow8_pos (k : Nat) : (1 : Int) ≤ 8 ^ k := by have := Int.pow_pos (n := 8) (m := k) (by omega); omega

theorem pow2_3 (k : Nat) : (2 : Int) ^ (3 * k) = 8 ^ k := by rw [Int.pow_mul]; rfl

theorem most_wrap (k : Nat) (h : k ≤ 20) : wrap64 (wrap64 (2 ^ (3 * k)) - 1) = 8 ^ k - 1 := by
  rw [pow2_3]; have := pow8_le k h; have := pow8_pos k
  generalize (8 : Int) ^ k = x at *
  go_arith

theorem most_any (w : World) (n : Int) :
    Calls Try.prog 69 #[.int .i64 n] w fun e w' => w' = w ∧ e = .returned (.int .i64 (most n)) := by
  by_cases h1 : n < 1
  · go_enter Try.func69, Try.ntmps69
    go_wp2
    all_goals go_ret
    all_goals exact ⟨rfl, ret_int (by simp [most, h1])⟩
  · by_cases h2 : 20 < n
    · go_enter Try.func69, Try.ntmps69
      go_wp2
      all_goals go_ret
      all_goals exact ⟨rfl, ret_int (by rw [most, if_neg (by omega), if_pos h2])⟩
    · obtain ⟨k, rfl⟩ : ∃ k : Nat, n = k := ⟨n.toNat, by omega⟩
      go_enter Try.func69, Try.ntmps69
      go_wp2
      all_goals go_ret
      all_goals exact ⟨rfl, ret_int (by rw [most_wrap k (by omega), most, if_neg (by omega), if_neg (by omega)]; rfl)⟩

def fit (n : Int) (k : Nat) : Bool := decide (-2 ^ min (8 * (k - 1)) 64 ≤ n) && decide (n < 2 ^ min (8 * (k - 1)) 64)

theorem shr_at (n : Int) (k : Nat) (h1 : 2 ≤ k) : Op.shift BinOp.shr IntKind.i64 n IntKind.i64 (8 * ((k : Int) - 1)) = pure (.int .i64 (n / 2 ^ min (8 * (k - 1)) 64)) := by
  rw [shift_shr_any _ _ _ _ (by omega)]
  have : (8 * ((k : Int) - 1)).toNat = 8 * (k - 1) := by omega
  rw [this]; rfl

theorem div_fit (n p : Int) (hp : 0 < p) : (n / p == 0 || n / p == -1) = (decide (-p ≤ n) && decide (n < p)) := by
  have h1 := Int.emod_add_mul_ediv n p
  have h2 := Int.emod_nonneg n (Int.ne_of_gt hp)
  have h3 := Int.emod_lt_of_pos n hp
  rw [Bool.eq_iff_iff]
  simp only [Bool.or_eq_true, beq_iff_eq, Bool.and_eq_true, decide_eq_true_eq]
  constructor
  · rintro (h | h)
    · rw [h] at h1; simp at h1; omega
    · rw [h] at h1; simp at h1; omega
  · rintro ⟨a, b⟩
    have h4 : n / p < 1 := Int.ediv_lt_of_lt_mul hp (by omega)
    have h5 : -1 ≤ n / p := (Int.le_ediv_iff_mul_le hp).mpr (by omega)
    omega

theorem fits_any (w : World) (n : Int) (k : Nat) (h1 : 2 ≤ k) (h2 : k ≤ 32) (h3 : -9223372036854775808 ≤ n) (h4 : n ≤ 9223372036854775807):
    Calls Try.prog 71 #[.int .i64 n, .int .i64 k] w fun e w' => w' = w ∧ e = .returned (.bool (fit n k)) := by
  have hsh := shr_at n k h1
  have E : Hid (fit n k = (n / 2 ^ min (8 * (k - 1)) 64 == 0 || n / 2 ^ min (8 * (k - 1)) 64 == -1)) := hid (div_fit _ _ (Int.pow_pos (by omega))).symm
  generalize n / 2 ^ min (8 * (k - 1)) 64 = q at *
  go_enter Try.func71, Try.ntmps71
  by_cases hq : q = 0
  · subst hq
    go_wp2
    all_goals go_ret
    all_goals exact ⟨rfl, ret_bool (by rw [E.out]; rfl)⟩
  · have hq' : (q == 0) = false := by simp [hq]
    go_wp2
    all_goals go_ret
    all_goals exact ⟨rfl, ret_bool (by rw [E.out, hq']; rfl)⟩

theorem pow_le_of {B : Nat} (hB : 1 ≤ B) {i k : Nat} (h : i ≤ k) : (B : Int) ^ i ≤ (B : Int) ^ k := by
  have := Nat.pow_le_pow_right hB h
  have e (j : Nat) : ((B ^ j : Nat) : Int) = (B : Int) ^ j := by simp
  rw [← e, ← e]; omega

/-- 'k' digits of 'n' in base 'b', the highest first -/
def digs (b : Int) : Int → Nat → List Int
  | _, 0 => []
  | n, k + 1 => digs b (n / b) k ++ [n % b]

theorem digs_length (b n : Int) (k : Nat) : (digs b n k).length = k := by
  induction k generalizing n with
  | zero => rfl
  | succ k ih => simp [digs, ih]

theorem u8s_set (z v : Int) (j : Nat) (d : List Int) : (u8s (List.replicate (j + 1) z ++ d)).set j (.int .u8 v) = u8s (List.replicate j z ++ (v :: d)) := by
  unfold u8s
  rw [← List.map_set]
  congr 1
  rw [List.set_append, if_pos (by simp), List.replicate_succ', List.set_append, if_neg (by simp)]
  simp

/-- one step of a row of bytes that is filled from its end on -/
theorem row_step {w : World} {B g k j : Nat} {v : Int} {d : List Int} (h : w.ownsRow B 5 1 (.slice (some ⟨g, 0, none⟩) k k) k (u8s (List.replicate (j + 1) 0 ++ d))) :
    w.cell? ⟨g, j, none⟩ = some (.int .u8 0) ∧ w.frozen? ⟨g, j, none⟩ = false ∧
    (w.setCell ⟨g, j, none⟩ (.int .u8 v)).ownsRow B 5 1 (.slice (some ⟨g, 0, none⟩) k k) k (u8s (List.replicate j 0 ++ (v :: d))) := by
  have hl : k = j + 1 + d.length := by have := h.1; simp [u8s] at this; omega
  refine ⟨?_, h.frozenAt j, ?_⟩
  · rw [h.cellAt j (by omega), u8s_get _ _ (by simp; omega)]
    simp [List.getElem?_append]
  · rw [← u8s_set]; exact (h.stored j _).1

theorem and7 (n : Int) : bits .and .i64 n 7 = n % 8 := by
  have h7 : (BitVec.ofInt 64 7).toNat = 2 ^ 3 - 1 := by decide
  have key : (BitVec.ofInt 64 n &&& BitVec.ofInt 64 7).toNat = (n % ((2 ^ 64 : Nat) : Int)).toNat % 2 ^ 3 := by
    rw [BitVec.toNat_and, BitVec.toNat_ofInt, h7, Nat.and_two_pow_sub_one_eq_mod]
  show IntKind.i64.wrap ((BitVec.ofInt 64 n &&& BitVec.ofInt 64 7).toNat : Nat) = n % 8
  rw [key, IntKind.wrap_i64]
  omega

/-- the digits as letters -/
def lets (n : Int) (k : Nat) : List Int := (digs 8 n k).map (48 + ·)

theorem lets_succ (n : Int) (k : Nat) : lets n (k + 1) = lets (n / 8) k ++ [48 + n % 8] := by simp [lets, digs]

/-- the bytes of an octal field -/
def octB (n : Int) (k : Nat) : List Int := if n ≤ most ((k : Int) - 1) then lets n (k - 1) ++ [0] else lets n k

set_option maxHeartbeats 1000000 in
theorem putOctal_any (w : World) (n : Int) (k : Nat) (hk1 : 2 ≤ k) (hk : k ≤ 32) (hn : 0 ≤ n) (hn2 : n ≤ 9223372036854775807) :
    Calls Try.prog 70 #[.int .i64 n, .int .i64 k] w fun e w' => ∃ g, e = .returned (.slice (some ⟨g, 0, none⟩) k k) ∧
      w'.ownsRow w.heap.size 5 1 (.slice (some ⟨g, 0, none⟩) k k) k (u8s (octB n k)) ∧ Below w.heap.size w w' := by
  obtain ⟨i0, hi, hz0, hz1, hz2⟩ := info_parts Try.info5
  obtain ⟨q, r, hqr, hq0, hE⟩ : ∃ q r : Nat, Hid (q + r = k) ∧ 0 < q ∧ Hid (octB n k = lets n q ++ List.replicate r 0 ∧ (q : Int) = if n ≤ most ((k : Int) - 1) then (k : Int) - 1 else k) := by
    by_cases h : n ≤ most ((k : Int) - 1)
    · exact ⟨k - 1, 1, hid (by omega), by omega, hid ⟨by unfold octB; rw [if_pos h]; rfl, by rw [if_pos h]; omega⟩⟩
    · exact ⟨k, 0, hid (by omega), by omega, hid ⟨by unfold octB; rw [if_neg h]; simp, by rw [if_neg h]⟩⟩
  go_enter Try.func70, Try.ntmps70
  go_upto_if 13 with (go_at_call 69; refine (most_any _ _).mono ?_; rintro e w' ⟨rfl, rfl⟩)
  go_cut [5] (fun x w1 => w1 = w' ∧ x = .int .i64 q)
  case first =>
    by_cases h : n ≤ most ((k : Int) - 1)
    · go_wp2
      go_meet
      case rel => exact ⟨rfl, by rw [hE.out.2, if_pos h]⟩
    · go_wp2
      go_meet
      case rel => exact ⟨rfl, by rw [hE.out.2, if_neg (by omega)]⟩
  case rest =>
    obtain ⟨rfl, rfl⟩ := hcut
    have hqk : q ≤ k := by have := hqr.out; omega
    go_wp2_with (refine wpList_make_full _ rfl (.tmp 16) (.tmp 16) 22 rfl wc.heap.size 5 i0 (.int .u8 0) 1 Try.underlying22 hi hz0 hz1 _ _ _ _ k rfl rfl rfl rfl (by rw [hz2]; omega) (by unfold maxLen; omega) (Nat.le_refl _) ?_; intro w1 hown hgrow; try rw [Nat.mul_one] at hown)
    have hown1 := hid hown
    clear hown
    have hbel := (Below.refl wc.heap.size wc).grown hgrow (Nat.le_refl _) (by simp)
    go_loopw [0, 7] (fun x i wr => ∃ (j : Nat) (m : Int) (d : List Int), j ≤ q ∧ 0 ≤ m ∧ m ≤ 9223372036854775807 ∧ i = .int .i64 ((j : Int) - 1) ∧ x = .int .i64 m ∧
       wr.ownsRow wc.heap.size 5 1 (.slice (some ⟨wc.heap.size, 0, none⟩) k k) k (u8s (List.replicate j 0 ++ (d ++ List.replicate r 0))) ∧ Below wc.heap.size wc wr ∧ Hid (lets n q = lets m j ++ d)) (fun _ i _ => (intOf i + 1).toNat)
    case atStart =>
      refine ⟨q, n, [], by omega, hn, hn2, rfl, rfl, ?_, hbel, hid (by simp)⟩
      rw [List.nil_append, List.replicate_append_replicate, hqr.out, ← madeBytes]; exact hown1.out
    case round =>
      obtain ⟨j, m, d, hjq, hm0, hm1, rfl, rfl, hown, hbe, hdg⟩ := hrel
      clear hown1 hgrow hbel
      by_cases hlt : j = 0
      · subst hlt
        have hown1 := hid hown
        clear hown
        go_wp2
        all_goals go_ret
        all_goals exact ⟨_, rfl, by rw [hE.out.1, hdg.out]; exact hown1.out, hbe⟩
      · obtain ⟨j, rfl⟩ : ∃ j', j = j' + 1 := ⟨j - 1, by omega⟩
        have hidx : ((j + 1 : Nat) : Int) - 1 = (j : Int) := by omega
        rw [hidx]
        obtain ⟨hc, hf, hst⟩ := row_step (v := 48 + m % 8) hown
        have hst' := hid hst
        have h7 := and7 m
        clear hst hown
        go_wp2
        go_roundw
        case rel => exact ⟨j, m / 8, (48 + m % 8) :: d, by omega, by omega, by omega, by go_num, by go_num, hst'.out, hbe.setCell (Nat.le_refl _) _, hid (by rw [hdg.out, lets_succ]; simp)⟩
        case measure => simp [intOf]

/-- the bytes of a wide field -/
def wideB (n : Int) (k : Nat) : List Int := (if n < 0 then 255 else 128) :: digs 256 n (k - 1)

/-- one step of a row of bytes that is filled from its end on, behind its first one -/
theorem row_step1 {w : World} {B g k j : Nat} {c v : Int} {d : List Int} (h : w.ownsRow B 5 1 (.slice (some ⟨g, 0, none⟩) k k) k (u8s (c :: (List.replicate (j + 1) 0 ++ d)))) :
    w.cell? ⟨g, j + 1, none⟩ = some (.int .u8 0) ∧ w.frozen? ⟨g, j + 1, none⟩ = false ∧
    (w.setCell ⟨g, j + 1, none⟩ (.int .u8 v)).ownsRow B 5 1 (.slice (some ⟨g, 0, none⟩) k k) k (u8s (c :: (List.replicate j 0 ++ (v :: d)))) := by
  have hl : k = j + 2 + d.length := by have := h.1; simp [u8s] at this; omega
  refine ⟨?_, h.frozenAt (j + 1), ?_⟩
  · rw [h.cellAt (j + 1) (by omega), u8s_get _ _ (by simp; omega)]
    simp [List.getElem?_append]
  · have e : u8s (c :: (List.replicate j 0 ++ (v :: d))) = (u8s (c :: (List.replicate (j + 1) 0 ++ d))).set (j + 1) (.int .u8 v) := by
      have := u8s_set 0 v j d
      unfold u8s at this ⊢
      rw [List.map_cons, List.map_cons, List.set_cons_succ, this]
    rw [e]; exact (h.stored (j + 1) _).1

theorem row_first {w : World} {B g k : Nat} {c v : Int} {d : List Int} (h : w.ownsRow B 5 1 (.slice (some ⟨g, 0, none⟩) k k) k (u8s (c :: d))) :
    w.cell? ⟨g, 0, none⟩ = some (.int .u8 c) ∧ w.frozen? ⟨g, 0, none⟩ = false ∧
    (w.setCell ⟨g, 0, none⟩ (.int .u8 v)).ownsRow B 5 1 (.slice (some ⟨g, 0, none⟩) k k) k (u8s (v :: d)) := by
  have hl : k = 1 + d.length := by have := h.1; simp [u8s] at this; omega
  refine ⟨?_, h.frozenAt 0, (h.stored 0 _).1⟩
  rw [h.cellAt 0 (by omega), u8s_get _ _ (by simp)]; rfl

theorem row_first0 {w : World} {B g k q : Nat} (hk : k = q + 1) (h : w.ownsRow B 5 1 (.slice (some ⟨g, 0, none⟩) k k) k (madeCells (Value.int .u8 0).cells k).toList) :
    w.cell? ⟨g, 0, none⟩ = some (.int .u8 0) ∧ w.frozen? ⟨g, 0, none⟩ = false ∧
    (w.setCell ⟨g, 0, none⟩ (.int .u8 128)).ownsRow B 5 1 (.slice (some ⟨g, 0, none⟩) k k) k (u8s (128 :: List.replicate q 0)) := by
  have e : (madeCells (Value.int .u8 0).cells k).toList = u8s (0 :: List.replicate q 0) := by
    rw [show (Value.int .u8 0).cells = #[Value.int .u8 0] from rfl, madeBytes, hk, List.replicate_succ]
  rw [e] at h
  exact row_first h

set_option maxHeartbeats 1000000 in
theorem putWide_any (w : World) (n : Int) (k : Nat) (hk1 : 2 ≤ k) (hk : k ≤ 32) (hn : -9223372036854775808 ≤ n) (hn2 : n ≤ 9223372036854775807) :
    Calls Try.prog 72 #[.int .i64 n, .int .i64 k] w fun e w' => ∃ g, e = .returned (.slice (some ⟨g, 0, none⟩) k k) ∧
      w'.ownsRow w.heap.size 5 1 (.slice (some ⟨g, 0, none⟩) k k) k (u8s (wideB n k)) ∧ Below w.heap.size w w' := by
  obtain ⟨i0, hi, hz0, hz1, hz2⟩ := info_parts Try.info5
  obtain ⟨q, hq⟩ : ∃ q, k = q + 1 := ⟨k - 1, by omega⟩
  have hqk : (q : Int) + 1 = k := by omega
  have hq' := hid hq
  clear hq
  go_enter Try.func72, Try.ntmps72
  go_wp2_with (refine wpList_make_full _ rfl (.tmp 7) (.tmp 7) 22 rfl w.heap.size 5 i0 (.int .u8 0) 1 Try.underlying22 hi hz0 hz1 _ _ _ _ k rfl rfl rfl rfl (by rw [hz2]; omega) (by unfold maxLen; omega) (Nat.le_refl _) ?_; intro w1 hown hgrow; try rw [Nat.mul_one] at hown; have hcf := row_first0 hq'.out hown; obtain ⟨hc0, hf0, hst0⟩ := hcf; have hcs := row_first (v := 255) hst0; obtain ⟨hc1, hf1, hst1⟩ := hcs; have H0 := hid hst0; have H1 := hid hst1; have HB := hid hgrow; clear hst0 hst1 hown hgrow)
  all_goals
    have hbel := (Below.refl w.heap.size w).grown HB.out (Nat.le_refl _) (by simp)
    go_loopw [0, 6] (fun x i wr => ∃ (j : Nat) (c m : Int) (d : List Int), j ≤ q ∧ -9223372036854775808 ≤ m ∧ m ≤ 9223372036854775807 ∧ i = .int .i64 (j : Int) ∧ x = .int .i64 m ∧
       wr.ownsRow w.heap.size 5 1 (.slice (some ⟨w.heap.size, 0, none⟩) k k) k (u8s (c :: (List.replicate j 0 ++ d))) ∧ Below w.heap.size w wr ∧ Hid (digs 256 n q = digs 256 m j ++ d ∧ c = if n < 0 then 255 else 128)) (fun _ i _ => (intOf i).toNat)
    case atStart =>
      first
        | exact ⟨q, 255, n, [], Nat.le_refl _, hn, hn2, by go_num, rfl, by rw [List.append_nil]; exact H1.out, (hbel.setCell (Nat.le_refl _) _).setCell (Nat.le_refl _) _, hid ⟨by simp, by rw [if_pos (by omega)]⟩⟩
        | exact ⟨q, 128, n, [], Nat.le_refl _, hn, hn2, by go_num, rfl, by rw [List.append_nil]; exact H0.out, hbel.setCell (Nat.le_refl _) _, hid ⟨by simp, by rw [if_neg (by omega)]⟩⟩
    case round =>
      obtain ⟨j, c, m, d, hjq, hm0, hm1, rfl, rfl, hown, hbe, hdg⟩ := hrel
      clear H0 H1 HB hbel hc0 hf0 hc1 hf1
      by_cases hlt : j = 0
      · subst hlt
        have hown1 := hid hown
        clear hown
        go_wp2
        all_goals go_ret
        all_goals exact ⟨_, rfl, by rw [wideB, ← hdg.out.2, show k - 1 = q by omega, hdg.out.1]; exact hown1.out, hbe⟩
      · obtain ⟨j, rfl⟩ : ∃ j', j = j' + 1 := ⟨j - 1, by omega⟩
        obtain ⟨hc, hf, hst⟩ := row_step1 (v := m % 256) hown
        have hst' := hid hst
        have hjk : j + 1 < k := by omega
        clear hst hown
        go_wp2
        go_roundw
        case rel => exact ⟨j, c, m / 256, (m % 256) :: d, by omega, by omega, by omega, by go_num, by go_num, hst'.out, hbe.setCell (Nat.le_refl _) _, hid ⟨by rw [hdg.out.1, digs]; simp, hdg.out.2⟩⟩
        case measure => simp [intOf]

/-- the bytes of a number in a field, and the code -/
def putL (n k : Int) (wd : Bool) : List Int :=
  if k < 2 ∨ 32 < k then [] else if 0 ≤ n ∧ n ≤ most k then octB n k.toNat else if (wd && fit n k.toNat) = true then wideB n k.toNat else []

def putC (n k : Int) (wd : Bool) : Int :=
  if k < 2 ∨ 32 < k then 2 else if 0 ≤ n ∧ n ≤ most k then 0 else if (wd && fit n k.toNat) = true then 0 else 5

theorem lets_length (n : Int) (k : Nat) : (lets n k).length = k := by simp [lets, digs_length]

theorem octB_length (n : Int) (k : Nat) (h : 2 ≤ k) : (octB n k).length = k := by
  unfold octB; split <;> simp [lets_length]; omega

theorem wideB_length (n : Int) (k : Nat) (h : 2 ≤ k) : (wideB n k).length = k := by simp [wideB, digs_length]; omega

theorem digs_range (b n : Int) (k : Nat) (hb : 0 < b) : ∀ x ∈ digs b n k, 0 ≤ x ∧ x < b := by
  induction k generalizing n with
  | zero => simp [digs]
  | succ k ih =>
    intro x hx
    simp only [digs, List.mem_append, List.mem_singleton] at hx
    rcases hx with hx | rfl
    · exact ih _ x hx
    · exact ⟨Int.emod_nonneg _ (by omega), Int.emod_lt_of_pos _ hb⟩

theorem lets_range (n : Int) (k : Nat) : ∀ x ∈ lets n k, 48 ≤ x ∧ x ≤ 55 := by
  intro x hx
  simp only [lets, List.mem_map] at hx
  obtain ⟨y, hy, rfl⟩ := hx
  have := digs_range 8 n k (by omega) y hy
  omega

theorem octB_range (n : Int) (k : Nat) : ∀ x ∈ octB n k, 0 ≤ x ∧ x ≤ 255 := by
  intro x hx
  unfold octB at hx
  split at hx
  · simp only [List.mem_append, List.mem_singleton] at hx
    rcases hx with hx | rfl
    · have := lets_range _ _ x hx; omega
    · omega
  · have := lets_range _ _ x hx; omega

theorem wideB_range (n : Int) (k : Nat) : ∀ x ∈ wideB n k, 0 ≤ x ∧ x ≤ 255 := by
  intro x hx
  simp only [wideB, List.mem_cons] at hx
  rcases hx with rfl | hx
  · split <;> omega
  · have := digs_range 256 _ _ (by omega) x hx; omega

theorem putL_range (n k : Int) (wd : Bool) : ∀ x ∈ putL n k wd, 0 ≤ x ∧ x ≤ 255 := by
  unfold putL
  split
  · simp
  · split
    · exact octB_range _ _
    · split
      · exact wideB_range _ _
      · simp

set_option maxHeartbeats 1000000 in
theorem put_any (w : World) (n k : Int) (wd : Bool) (hn : -9223372036854775808 ≤ n) (hn2 : n ≤ 9223372036854775807) :
    Calls Try.prog 53 #[.int .i64 n, .int .i64 k, .bool wd] w fun e w' => ∃ v, e = .returned (.tuple #[v, .int .u8 (putC n k wd)]) ∧
      w'.ownsRow w.heap.size 5 1 v (putL n k wd).length (u8s (putL n k wd)) ∧ Below w.heap.size w w' := by
  by_cases h1 : k < 2 ∨ 32 < k
  · have EL : Hid (putL n k wd = []) := hid (by rw [putL, if_pos h1])
    have EC : Hid (putC n k wd = 2) := hid (by rw [putC, if_pos h1])
    by_cases h2 : k < 2
    · clear h1
      go_enter Try.func53, Try.ntmps53
      go_wp2
      all_goals go_ret2
      all_goals exact ⟨_, by rw [EC.out]; rfl, by rw [EL.out]; exact World.ownsRow_nil _ _ _ _, Below.refl _ _⟩
    · have h3 : 32 < k := by omega
      clear h1
      go_enter Try.func53, Try.ntmps53
      go_wp2
      all_goals go_ret2
      all_goals exact ⟨_, by rw [EC.out]; rfl, by rw [EL.out]; exact World.ownsRow_nil _ _ _ _, Below.refl _ _⟩
  · obtain ⟨q, rfl⟩ : ∃ q : Nat, k = q := ⟨k.toNat, by omega⟩
    have hq1 : 2 ≤ q := by omega
    have hq2 : q ≤ 32 := by omega
    clear h1
    by_cases h2 : 0 ≤ n ∧ n ≤ most q
    · have EL : Hid (putL n q wd = octB n q) := hid (by rw [putL, if_neg (by omega), if_pos h2]; rfl)
      have EC : Hid (putC n q wd = 0) := hid (by rw [putC, if_neg (by omega), if_pos h2])
      obtain ⟨h3, h4⟩ := h2
      go_enter Try.func53, Try.ntmps53
      go_wp2_with (first | (go_at_call 69; refine (most_any _ _).mono ?_; rintro e w' ⟨hw, rfl⟩; obtain rfl := hw.symm) | (go_at_call 70; refine (putOctal_any _ n q hq1 hq2 h3 hn2).mono ?_; rintro e w1 ⟨g, rfl, hown, hbel⟩))
      all_goals go_ret2
      all_goals exact ⟨_, by rw [EC.out]; rfl, by rw [EL.out, octB_length _ _ hq1]; assumption, by assumption⟩
    · have h2' : n < 0 ∨ most q < n := by omega
      clear h2
      cases hf : (wd && fit n q)
      · have EL : Hid (putL n q wd = []) := hid (by rw [putL, if_neg (by omega), if_neg (by omega), show (q : Int).toNat = q from rfl, hf]; rfl)
        have EC : Hid (putC n q wd = 5) := hid (by rw [putC, if_neg (by omega), if_neg (by omega), show (q : Int).toNat = q from rfl, hf]; rfl)
        cases wd
        · clear hf
          rcases h2' with h3 | h3
          all_goals
            go_enter Try.func53, Try.ntmps53
            go_wp2_with (first | (go_at_call 69; refine (most_any _ _).mono ?_; rintro e w' ⟨hw, rfl⟩; obtain rfl := hw.symm) | (go_at_call 71; refine (fits_any _ n q hq1 hq2 hn hn2).mono ?_; rintro e w' ⟨hw, rfl⟩; obtain rfl := hw.symm) | (go_at_call 72; refine (putWide_any _ n q hq1 hq2 hn hn2).mono ?_; rintro e w1 ⟨g, rfl, hown, hbel⟩))
            all_goals go_ret2
            all_goals exact ⟨_, by rw [EC.out]; rfl, by rw [EL.out]; exact World.ownsRow_nil _ _ _ _, Below.refl _ _⟩
        · have hf' : fit n q = false := by simpa using hf
          clear hf
          rcases h2' with h3 | h3
          all_goals
            go_enter Try.func53, Try.ntmps53
            go_wp2_with (first | (go_at_call 69; refine (most_any _ _).mono ?_; rintro e w' ⟨hw, rfl⟩; obtain rfl := hw.symm) | (go_at_call 71; refine (fits_any _ n q hq1 hq2 hn hn2).mono ?_; rintro e w' ⟨hw, rfl⟩; obtain rfl := hw.symm) | (go_at_call 72; refine (putWide_any _ n q hq1 hq2 hn hn2).mono ?_; rintro e w1 ⟨g, rfl, hown, hbel⟩))
            all_goals go_ret2
            all_goals exact ⟨_, by rw [EC.out]; rfl, by rw [EL.out]; exact World.ownsRow_nil _ _ _ _, Below.refl _ _⟩
      · have EL : Hid (putL n q wd = wideB n q) := hid (by rw [putL, if_neg (by omega), if_neg (by omega), show (q : Int).toNat = q from rfl, hf]; rfl)
        have EC : Hid (putC n q wd = 0) := hid (by rw [putC, if_neg (by omega), if_neg (by omega), show (q : Int).toNat = q from rfl, hf]; rfl)
        obtain ⟨rfl, hf'⟩ : wd = true ∧ fit n q = true := by simpa using hf
        clear hf
        rcases h2' with h3 | h3
        all_goals
          go_enter Try.func53, Try.ntmps53
          go_wp2_with (first | (go_at_call 69; refine (most_any _ _).mono ?_; rintro e w' ⟨hw, rfl⟩; obtain rfl := hw.symm) | (go_at_call 71; refine (fits_any _ n q hq1 hq2 hn hn2).mono ?_; rintro e w' ⟨hw, rfl⟩; obtain rfl := hw.symm) | (go_at_call 72; refine (putWide_any _ n q hq1 hq2 hn hn2).mono ?_; rintro e w1 ⟨g, rfl, hown, hbel⟩))
          all_goals go_ret2
          all_goals exact ⟨_, by rw [EC.out]; rfl, by rw [EL.out, wideB_length _ _ hq1]; assumption, by assumption⟩

theorem put_bys {w w1 : World} {v : Value} {n k : Int} {wd : Bool} (h : w1.ownsRow w.heap.size 5 1 v (putL n k wd).length (u8s (putL n k wd))) :
    ∃ a c, v = .slice a (putL n k wd).length c ∧ Bys w1 a (putL n k wd).length c (putL n k wd) := own_bys h rfl (putL_range _ _ _)

end Go.Proofs.Ytgjbopbpekocpaa
