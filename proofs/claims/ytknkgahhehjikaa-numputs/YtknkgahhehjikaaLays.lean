/-
  THE CONTRACTS of num's calls that lay the bytes of a number. Conditions: widths from 2 to 32.
-/
import Derived.Test.YtknkgahhehjikaaDigs
namespace Go.Proofs.Ytknkgahhehjikaa
open Go.ChangeShapes Go.WideShapes Go.ChangeAt Go.RowKit
set_option linter.unusedVariables false

theorem and7 (n : Int) : bits .and .i64 n 7 = n % 8 := by
  have h7 : (BitVec.ofInt 64 7).toNat = 2 ^ 3 - 1 := by decide
  have key : (BitVec.ofInt 64 n &&& BitVec.ofInt 64 7).toNat = (n % ((2 ^ 64 : Nat) : Int)).toNat % 2 ^ 3 := by
    rw [BitVec.toNat_and, BitVec.toNat_ofInt, h7, Nat.and_two_pow_sub_one_eq_mod]
  show IntKind.i64.wrap ((BitVec.ofInt 64 n &&& BitVec.ofInt 64 7).toNat : Nat) = n % 8
  rw [key, IntKind.wrap_i64]
  omega

/-- the digits as letters -/
def lets (n : Int) (k : Nat) : List Int := (digs 8 n k).map (48 + ·)
theorem lets_succ (n : Int) (k : Nat) : lets n (k + 1) = lets (n / 8) k ++ [48 + n % 8] := by simp [lets, digs]

/-- the bytes of an octal field -/
def octB (n : Int) (k : Nat) : List Int := if n ≤ most ((k : Int) - 1) then lets n (k - 1) ++ [0] else lets n k

set_option maxHeartbeats 1000000 in
theorem putOctal_any (w : World) (n : Int) (k : Nat) (hk1 : 2 ≤ k) (hk : k ≤ 32) (hn : 0 ≤ n) (hn2 : n ≤ 9223372036854775807) :
    Calls Try.prog 24 #[.int .i64 n, .int .i64 k] w fun e w' => ∃ g, e = .returned (.slice (some ⟨g, 0, none⟩) k k) ∧
      w'.ownsRow w.heap.size 5 1 (.slice (some ⟨g, 0, none⟩) k k) k (u8s (octB n k)) ∧ Below w.heap.size w w' := by
  obtain ⟨i0, hi, hz0, hz1, hz2⟩ := info_parts Try.info5
  obtain ⟨q, r, hqr, hq0, hE⟩ : ∃ q r : Nat, Hid (q + r = k) ∧ 0 < q ∧ Hid (octB n k = lets n q ++ List.replicate r 0 ∧ (q : Int) = if n ≤ most ((k : Int) - 1) then (k : Int) - 1 else k) := by
    by_cases h : n ≤ most ((k : Int) - 1)
    · exact ⟨k - 1, 1, hid (by omega), by omega, hid ⟨by unfold octB; rw [if_pos h]; rfl, by rw [if_pos h]; omega⟩⟩
    · exact ⟨k, 0, hid (by omega), by omega, hid ⟨by unfold octB; rw [if_neg h]; simp, by rw [if_neg h]⟩⟩
  go_enter Try.func24, Try.ntmps24
  go_upto_if 13 with (go_at_call 18; refine (most_any _ _).mono ?_; rintro e w' ⟨rfl, rfl⟩)
  go_cut [5] (fun x w1 => w1 = w' ∧ x = .int .i64 q)
  case first =>
    by_cases h : n ≤ most ((k : Int) - 1)
    · go_wp2
      go_meet
      case rel => exact ⟨rfl, by rw [hE.out.2, if_pos h]⟩
    · go_wp2
      go_meet
      case rel => exact ⟨rfl, by rw [hE.out.2, if_neg (by omega)]⟩
  case rest =>
    obtain ⟨rfl, rfl⟩ := hcut
    have hqk : q ≤ k := by have := hqr.out; omega
    go_wp2_with (refine wpList_make_full _ rfl (.tmp 16) (.tmp 16) 22 rfl wc.heap.size 5 i0 (.int .u8 0) 1 Try.underlying22 hi hz0 hz1 _ _ _ _ k rfl rfl rfl rfl (by rw [hz2]; omega) (by unfold maxLen; omega) (Nat.le_refl _) ?_; intro w1 hown hgrow; try rw [Nat.mul_one] at hown)
    have hown1 := hid hown
    clear hown
    have hbel := (Below.refl wc.heap.size wc).grown hgrow (Nat.le_refl _) (by simp)
    go_loopw [0, 7] (fun x i wr => ∃ (j : Nat) (m : Int) (d : List Int), j ≤ q ∧ 0 ≤ m ∧ m ≤ 9223372036854775807 ∧ i = .int .i64 ((j : Int) - 1) ∧ x = .int .i64 m ∧
       wr.ownsRow wc.heap.size 5 1 (.slice (some ⟨wc.heap.size, 0, none⟩) k k) k (u8s (List.replicate j 0 ++ (d ++ List.replicate r 0))) ∧ Below wc.heap.size wc wr ∧ Hid (lets n q = lets m j ++ d)) (fun _ i _ => (intOf i + 1).toNat)
    case atStart =>
      refine ⟨q, n, [], by omega, hn, hn2, rfl, rfl, ?_, hbel, hid (by simp)⟩
      rw [List.nil_append, List.replicate_append_replicate, hqr.out, ← madeBytes]; exact hown1.out
    case round =>
      obtain ⟨j, m, d, hjq, hm0, hm1, rfl, rfl, hown, hbe, hdg⟩ := hrel
      clear hown1 hgrow hbel
      by_cases hlt : j = 0
      · subst hlt
        have hown1 := hid hown
        clear hown
        go_wp2
        all_goals go_ret
        all_goals exact ⟨_, rfl, by rw [hE.out.1, hdg.out]; exact hown1.out, hbe⟩
      · obtain ⟨j, rfl⟩ : ∃ j', j = j' + 1 := ⟨j - 1, by omega⟩
        have hidx : ((j + 1 : Nat) : Int) - 1 = (j : Int) := by omega
        rw [hidx]
        obtain ⟨hc, hf, hst⟩ := row_step (v := 48 + m % 8) hown
        have hst' := hid hst
        have h7 := and7 m
        clear hst hown
        go_wp2
        go_roundw
        case rel => exact ⟨j, m / 8, (48 + m % 8) :: d, by omega, by omega, by omega, by go_num, by go_num, hst'.out, hbe.setCell (Nat.le_refl _) _, hid (by rw [hdg.out, lets_succ]; simp)⟩
        case measure => simp [intOf]

/-- the bytes of a wide field -/
def wideB (n : Int) (k : Nat) : List Int := (if n < 0 then 255 else 128) :: digs 256 n (k - 1)

/-- one step of a row of bytes that is filled from its end on, behind its first one -/
theorem row_step1 {w : World} {B g k j : Nat} {c v : Int} {d : List Int} (h : w.ownsRow B 5 1 (.slice (some ⟨g, 0, none⟩) k k) k (u8s (c :: (List.replicate (j + 1) 0 ++ d)))) :
    w.cell? ⟨g, j + 1, none⟩ = some (.int .u8 0) ∧ w.frozen? ⟨g, j + 1, none⟩ = false ∧
    (w.setCell ⟨g, j + 1, none⟩ (.int .u8 v)).ownsRow B 5 1 (.slice (some ⟨g, 0, none⟩) k k) k (u8s (c :: (List.replicate j 0 ++ (v :: d)))) := by
  have hl : k = j + 2 + d.length := by have := h.1; simp [u8s] at this; omega
  refine ⟨?_, h.frozenAt (j + 1), ?_⟩
  · rw [h.cellAt (j + 1) (by omega), u8s_get _ _ (by simp; omega)]
    simp [List.getElem?_append]
  · have e : u8s (c :: (List.replicate j 0 ++ (v :: d))) = (u8s (c :: (List.replicate (j + 1) 0 ++ d))).set (j + 1) (.int .u8 v) := by
      have := u8s_set 0 v j d
      unfold u8s at this ⊢
      rw [List.map_cons, List.map_cons, List.set_cons_succ, this]
    rw [e]; exact (h.stored (j + 1) _).1

theorem row_first {w : World} {B g k : Nat} {c v : Int} {d : List Int} (h : w.ownsRow B 5 1 (.slice (some ⟨g, 0, none⟩) k k) k (u8s (c :: d))) :
    w.cell? ⟨g, 0, none⟩ = some (.int .u8 c) ∧ w.frozen? ⟨g, 0, none⟩ = false ∧
    (w.setCell ⟨g, 0, none⟩ (.int .u8 v)).ownsRow B 5 1 (.slice (some ⟨g, 0, none⟩) k k) k (u8s (v :: d)) := by
  have hl : k = 1 + d.length := by have := h.1; simp [u8s] at this; omega
  refine ⟨?_, h.frozenAt 0, (h.stored 0 _).1⟩
  rw [h.cellAt 0 (by omega), u8s_get _ _ (by simp)]; rfl

theorem row_first0 {w : World} {B g k q : Nat} (hk : k = q + 1) (h : w.ownsRow B 5 1 (.slice (some ⟨g, 0, none⟩) k k) k (madeCells (Value.int .u8 0).cells k).toList) :
    w.cell? ⟨g, 0, none⟩ = some (.int .u8 0) ∧ w.frozen? ⟨g, 0, none⟩ = false ∧
    (w.setCell ⟨g, 0, none⟩ (.int .u8 128)).ownsRow B 5 1 (.slice (some ⟨g, 0, none⟩) k k) k (u8s (128 :: List.replicate q 0)) := by
  have e : (madeCells (Value.int .u8 0).cells k).toList = u8s (0 :: List.replicate q 0) := by
    rw [show (Value.int .u8 0).cells = #[Value.int .u8 0] from rfl, madeBytes, hk, List.replicate_succ]
  rw [e] at h
  exact row_first h

set_option maxHeartbeats 1000000 in
theorem putWide_any (w : World) (n : Int) (k : Nat) (hk1 : 2 ≤ k) (hk : k ≤ 32) (hn : -9223372036854775808 ≤ n) (hn2 : n ≤ 9223372036854775807) :
    Calls Try.prog 26 #[.int .i64 n, .int .i64 k] w fun e w' => ∃ g, e = .returned (.slice (some ⟨g, 0, none⟩) k k) ∧
      w'.ownsRow w.heap.size 5 1 (.slice (some ⟨g, 0, none⟩) k k) k (u8s (wideB n k)) ∧ Below w.heap.size w w' := by
  obtain ⟨i0, hi, hz0, hz1, hz2⟩ := info_parts Try.info5
  obtain ⟨q, hq⟩ : ∃ q, k = q + 1 := ⟨k - 1, by omega⟩
  have hqk : (q : Int) + 1 = k := by omega
  have hq' := hid hq
  clear hq
  go_enter Try.func26, Try.ntmps26
  go_wp2_with (refine wpList_make_full _ rfl (.tmp 7) (.tmp 7) 22 rfl w.heap.size 5 i0 (.int .u8 0) 1 Try.underlying22 hi hz0 hz1 _ _ _ _ k rfl rfl rfl rfl (by rw [hz2]; omega) (by unfold maxLen; omega) (Nat.le_refl _) ?_; intro w1 hown hgrow; try rw [Nat.mul_one] at hown; have hcf := row_first0 hq'.out hown; obtain ⟨hc0, hf0, hst0⟩ := hcf; have hcs := row_first (v := 255) hst0; obtain ⟨hc1, hf1, hst1⟩ := hcs; have H0 := hid hst0; have H1 := hid hst1; have HB := hid hgrow; clear hst0 hst1 hown hgrow)
  all_goals
    have hbel := (Below.refl w.heap.size w).grown HB.out (Nat.le_refl _) (by simp)
    go_loopw [0, 6] (fun x i wr => ∃ (j : Nat) (c m : Int) (d : List Int), j ≤ q ∧ -9223372036854775808 ≤ m ∧ m ≤ 9223372036854775807 ∧ i = .int .i64 (j : Int) ∧ x = .int .i64 m ∧
       wr.ownsRow w.heap.size 5 1 (.slice (some ⟨w.heap.size, 0, none⟩) k k) k (u8s (c :: (List.replicate j 0 ++ d))) ∧ Below w.heap.size w wr ∧ Hid (digs 256 n q = digs 256 m j ++ d ∧ c = if n < 0 then 255 else 128)) (fun _ i _ => (intOf i).toNat)
    case atStart =>
      first
        | exact ⟨q, 255, n, [], Nat.le_refl _, hn, hn2, by go_num, rfl, by rw [List.append_nil]; exact H1.out, (hbel.setCell (Nat.le_refl _) _).setCell (Nat.le_refl _) _, hid ⟨by simp, by rw [if_pos (by omega)]⟩⟩
        | exact ⟨q, 128, n, [], Nat.le_refl _, hn, hn2, by go_num, rfl, by rw [List.append_nil]; exact H0.out, hbel.setCell (Nat.le_refl _) _, hid ⟨by simp, by rw [if_neg (by omega)]⟩⟩
    case round =>
      obtain ⟨j, c, m, d, hjq, hm0, hm1, rfl, rfl, hown, hbe, hdg⟩ := hrel
      clear H0 H1 HB hbel hc0 hf0 hc1 hf1
      by_cases hlt : j = 0
      · subst hlt
        have hown1 := hid hown
        clear hown
        go_wp2
        all_goals go_ret
        all_goals exact ⟨_, rfl, by rw [wideB, ← hdg.out.2, show k - 1 = q by omega, hdg.out.1]; exact hown1.out, hbe⟩
      · obtain ⟨j, rfl⟩ : ∃ j', j = j' + 1 := ⟨j - 1, by omega⟩
        obtain ⟨hc, hf, hst⟩ := row_step1 (v := m % 256) hown
        have hst' := hid hst
        have hjk : j + 1 < k := by omega
        clear hst hown
        go_wp2
        go_roundw
        case rel => exact ⟨j, c, m / 256, (m % 256) :: d, by omega, by omega, by omega, by go_num, by go_num, hst'.out, hbe.setCell (Nat.le_refl _) _, hid ⟨by rw [hdg.out.1, digs]; simp, hdg.out.2⟩⟩
        case measure => simp [intOf]
end Go.Proofs.Ytknkgahhehjikaa
