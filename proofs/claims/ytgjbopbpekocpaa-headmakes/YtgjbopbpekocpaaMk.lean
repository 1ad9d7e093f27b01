/-
  MARKS AND FLAGS: what the program and the document answer. Conditions: that a byte is one, that bytes can be read.
-/
import Derived.Test.YtgjbopbpekocpaaHd
namespace Go.Proofs.Ytgjbopbpekocpaa
open Go.ChangeShapes Go.WideShapes Go.ChangeAt Go.RowKit
set_option linter.unusedVariables false
set_option maxRecDepth 20000

/-- the bytes that a flag may be -/
def flagB (c : Int) : Bool := c == 0 || (decide (48 ≤ c) && decide (c ≤ 55)) || c == 120 || c == 103 || c == 76 || c == 75

theorem known_ok (w : World) (c : Int) (h0 : 0 ≤ c) (h1 : c ≤ 255) : Calls Try.prog 31 #[.int .u8 c] w fun e w' => w' = w ∧ e = .returned (.bool (flagB c)) := by
  by_cases a0 : c = 0
  · subst a0
    go_enter Try.func31, Try.ntmps31
    go_wp2
    all_goals go_ret
    all_goals exact ⟨rfl, rfl⟩
  by_cases a1 : 48 ≤ c
  · by_cases a2 : c ≤ 55
    · have E : flagB c = true := by unfold flagB; simp [a1, a2]
      rw [E]
      clear E
      go_enter Try.func31, Try.ntmps31
      go_wp2
      all_goals go_ret
      all_goals exact ⟨rfl, rfl⟩
    · by_cases a3 : c = 120
      · subst a3
        go_enter Try.func31, Try.ntmps31
        go_wp2
        all_goals go_ret
        all_goals exact ⟨rfl, rfl⟩
      by_cases a4 : c = 103
      · subst a4
        go_enter Try.func31, Try.ntmps31
        go_wp2
        all_goals go_ret
        all_goals exact ⟨rfl, rfl⟩
      by_cases a5 : c = 76
      · subst a5
        go_enter Try.func31, Try.ntmps31
        go_wp2
        all_goals go_ret
        all_goals exact ⟨rfl, rfl⟩
      have b0 : (c == 0) = false := by simp [a0]
      have b3 : (c == 120) = false := by simp [a3]
      have b4 : (c == 103) = false := by simp [a4]
      have b5 : (c == 76) = false := by simp [a5]
      have E : flagB c = (c == 75) := by
        unfold flagB
        rw [b0, b3, b4, b5, decide_eq_false a2]
        simp
      rw [E]
      clear E
      go_enter Try.func31, Try.ntmps31
      go_wp2
      all_goals go_ret
      all_goals exact ⟨rfl, rfl⟩
  · have b0 : (c == 0) = false := by simp [a0]
    have b3 : (c == 120) = false := by simp; omega
    have b4 : (c == 103) = false := by simp; omega
    have b5 : (c == 76) = false := by simp; omega
    have b6 : (c == 75) = false := by simp; omega
    have E : flagB c = false := by
      unfold flagB
      rw [b0, b3, b4, b5, b6, decide_eq_false a1]
      rfl
    rw [E]
    clear E
    go_enter Try.func31, Try.ntmps31
    go_wp2
    all_goals go_ret
    all_goals exact ⟨rfl, ret_bool (by simp)⟩

/-- a mark's bytes -/
def markS (m : Int) : ByteArray := if m = 0 then ⟨#[0, 0, 0, 0, 0, 0, 0, 0]⟩ else if m = 1 then ⟨#[117, 115, 116, 97, 114, 0, 48, 48]⟩ else if m = 2 then ⟨#[117, 115, 116, 97, 114, 32, 32, 0]⟩ else ⟨#[]⟩

theorem markBytes_ok (w : World) (m : Int) : Calls Try.prog 39 #[.int .i64 m] w fun e w' => w' = w ∧ e = .returned (.tuple #[.string (markS m), .bool (decide (0 ≤ m ∧ m ≤ 2))]) := by
  by_cases h0 : m = 0
  · subst h0
    go_enter Try.func39, Try.ntmps39
    go_wp2
    all_goals go_ret2
    all_goals exact ⟨rfl, rfl⟩
  by_cases h1 : m = 1
  · subst h1
    go_enter Try.func39, Try.ntmps39
    go_wp2
    all_goals go_ret2
    all_goals exact ⟨rfl, rfl⟩
  by_cases h2 : m = 2
  · subst h2
    go_enter Try.func39, Try.ntmps39
    go_wp2
    all_goals go_ret2
    all_goals exact ⟨rfl, rfl⟩
  have E : markS m = ⟨#[]⟩ := by unfold markS; rw [if_neg h0, if_neg h1, if_neg h2]
  have E2 : decide (0 ≤ m ∧ m ≤ 2) = false := by simp; omega
  rw [E, E2]
  clear E E2
  go_enter Try.func39, Try.ntmps39
  go_wp2
  all_goals go_ret2
  all_goals exact ⟨rfl, rfl⟩

/-- which mark eight bytes are -/
def markL (l : List Int) : Int := if l = [117, 115, 116, 97, 114, 0, 48, 48] then 1 else if l = [117, 115, 116, 97, 114, 32, 32, 0] then 2 else 0

theorem str_is (l m : List Int) (hr : ∀ x ∈ l, 0 ≤ x ∧ x ≤ 255) (hm : ∀ x ∈ m, 0 ≤ x ∧ x ≤ 255) : ((strOfNums l).toList == (strOfNums m).toList) = decide (l = m) := by
  rw [Bool.eq_iff_iff, str_beq, decide_eq_true_iff]
  constructor
  · intro h
    have := congrArg nums h
    rwa [nums_str l hr, nums_str m hm] at this
  · rintro rfl; rfl

theorem markOf_ok {w : World} {a : Option Addr} {n c : Nat} {l : List Int} (h : Bys w a n c l) : Calls Try.prog 24 #[.slice a n c] w fun e w' => w' = w ∧ e = .returned (.int .i64 (markL l)) := by
  have hcv := bys_string (P := Try.prog) Try.underlying22 Try.underlying5 Try.underlying9 h
  have h1 := str_is l [117, 115, 116, 97, 114, 0, 48, 48] h.2.2.2.1 (by decide)
  have h2 := str_is l [117, 115, 116, 97, 114, 32, 32, 0] h.2.2.2.1 (by decide)
  have e1 : (strOfNums [117, 115, 116, 97, 114, 0, 48, 48]).toList = [117, 115, 116, 97, 114, 0, 48, 48] := by rw [Lib.toList_data]; rfl
  have e2 : (strOfNums [117, 115, 116, 97, 114, 32, 32, 0]).toList = [117, 115, 116, 97, 114, 32, 32, 0] := by rw [Lib.toList_data]; rfl
  rw [e1] at h1
  rw [e2] at h2
  clear e1 e2
  by_cases g1 : l = [117, 115, 116, 97, 114, 0, 48, 48]
  · have E : markL l = 1 := by unfold markL; rw [if_pos g1]
    rw [E]
    rw [decide_eq_true g1] at h1
    clear E g1 h2 h
    go_enter Try.func24, Try.ntmps24
    go_wp2
    all_goals go_ret
    all_goals exact ⟨rfl, rfl⟩
  · by_cases g2 : l = [117, 115, 116, 97, 114, 32, 32, 0]
    · have E : markL l = 2 := by unfold markL; rw [if_neg g1, if_pos g2]
      rw [E]
      rw [decide_eq_false g1] at h1
      rw [decide_eq_true g2] at h2
      clear E g1 g2 h
      go_enter Try.func24, Try.ntmps24
      go_wp2
      all_goals go_ret
      all_goals exact ⟨rfl, rfl⟩
    · have E : markL l = 0 := by unfold markL; rw [if_neg g1, if_neg g2]
      rw [E]
      rw [decide_eq_false g1] at h1
      rw [decide_eq_false g2] at h2
      clear E g1 g2 h
      go_enter Try.func24, Try.ntmps24
      go_wp2
      all_goals go_ret
      all_goals exact ⟨rfl, rfl⟩

theorem rmark_ok {w : World} {b off n c : Nat} {l : List Int} (h : Bys w (some ⟨b, off, none⟩) n c l) (h512 : n = 512) : Calls Try.prog 30 #[.slice (some ⟨b, off, none⟩) n c] w fun e w' => w' = w ∧ e = .returned (.int .i64 (markL ((l.drop 257).take 8))) := by
  have hF := (h.drop 257 rfl (by omega)).take 8 (by omega)
  have hcv := bys_string (P := Try.prog) Try.underlying22 Try.underlying5 Try.underlying9 hF
  have hr := hF.2.2.2.1
  have hn : 265 ≤ n := by omega
  have hc1 := h.2.1
  have hc2 := h.2.2.1
  clear h hF h512
  generalize (l.drop 257).take 8 = l at *
  have h1 := str_is l [117, 115, 116, 97, 114, 0, 48, 48] hr (by decide)
  have h2 := str_is l [117, 115, 116, 97, 114, 32, 32, 0] hr (by decide)
  have e1 : (strOfNums [117, 115, 116, 97, 114, 0, 48, 48]).toList = [117, 115, 116, 97, 114, 0, 48, 48] := by rw [Lib.toList_data]; rfl
  have e2 : (strOfNums [117, 115, 116, 97, 114, 32, 32, 0]).toList = [117, 115, 116, 97, 114, 32, 32, 0] := by rw [Lib.toList_data]; rfl
  rw [e1] at h1
  rw [e2] at h2
  clear e1 e2 hr
  by_cases g1 : l = [117, 115, 116, 97, 114, 0, 48, 48]
  · have E : markL l = 1 := by unfold markL; rw [if_pos g1]
    rw [E]
    rw [decide_eq_true g1] at h1
    clear E g1 h2
    go_enter Try.func30, Try.ntmps30
    go_wp2
    all_goals go_ret
    all_goals exact ⟨rfl, rfl⟩
  · by_cases g2 : l = [117, 115, 116, 97, 114, 32, 32, 0]
    · have E : markL l = 2 := by unfold markL; rw [if_neg g1, if_pos g2]
      rw [E]
      rw [decide_eq_false g1] at h1
      rw [decide_eq_true g2] at h2
      clear E g1 g2
      go_enter Try.func30, Try.ntmps30
      go_wp2
      all_goals go_ret
      all_goals exact ⟨rfl, rfl⟩
    · have E : markL l = 0 := by unfold markL; rw [if_neg g1, if_neg g2]
      rw [E]
      rw [decide_eq_false g1] at h1
      rw [decide_eq_false g2] at h2
      clear E g1 g2
      go_enter Try.func30, Try.ntmps30
      go_wp2
      all_goals go_ret
      all_goals exact ⟨rfl, rfl⟩

theorem flag_idx : ∀ k : Fin 256, decide (0 ≤ Lib.indexByte [0, 48, 49, 50, 51, 52, 53, 54, 55, 120, 103, 76, 75] (UInt8.ofNat k.val)) = flagB (k.val : Int) := by decide +kernel

set_option maxHeartbeats 1000000 in
theorem isFlag_ok (c : Int) (h0 : 0 ≤ c) (h1 : c ≤ 255) (w : World) : Calls Try.prog 23 #[.int .u8 c] w fun e w' => w' = w ∧ e = .returned (.bool (flagB c)) := by
  have hrun := Lib.run_indexByteString (P := Try.prog) ⟨#[0, 48, 49, 50, 51, 52, 53, 54, 55, 120, 103, 76, 75]⟩ c w
  have hE := flag_idx ⟨c.toNat, by omega⟩
  rw [show ((c.toNat : Nat) : Int) = c by omega] at hE
  have hl : (⟨#[0, 48, 49, 50, 51, 52, 53, 54, 55, 120, 103, 76, 75]⟩ : ByteArray).data.toList = [0, 48, 49, 50, 51, 52, 53, 54, 55, 120, 103, 76, 75] := rfl
  rw [hl] at hrun
  change (Extern.BytealgIndexByte.indexByte _).run Try.prog w = .ok (.int .i64 (Lib.indexByte [0, 48, 49, 50, 51, 52, 53, 54, 55, 120, 103, 76, 75] (UInt8.ofNat c.toNat))) w at hrun
  generalize Lib.indexByte [0, 48, 49, 50, 51, 52, 53, 54, 55, 120, 103, 76, 75] (UInt8.ofNat c.toNat) = k at *
  rw [← hE]
  clear hE hl
  have h63 : Calls Try.prog 63 #[.string ⟨#[0, 48, 49, 50, 51, 52, 53, 54, 55, 120, 103, 76, 75]⟩, .int .u8 c] w fun e w' => w' = w ∧ e = .returned (.int .i64 k) := by
    go_enter Try.func63, Try.ntmps63
    go_wp2
    rw [run_callFunc_extern Try.func73 (by kernel_rfl) (by kernel_rfl) (by kernel_rfl) (e := Extern.BytealgIndexByte.indexByte) (by kernel_rfl), hrun]
    simp only [Result.andThen]
    rw [Oper.upon_value]
    go_wp2
    go_ret
    exact ⟨rfl, rfl⟩
  have h47 : Calls Try.prog 47 #[.string ⟨#[0, 48, 49, 50, 51, 52, 53, 54, 55, 120, 103, 76, 75]⟩, .int .u8 c] w fun e w' => w' = w ∧ e = .returned (.int .i64 k) := by
    go_enter Try.func47, Try.ntmps47
    go_wp2_with (go_at_call 63; refine h63.mono ?_; rintro e w' ⟨hw, rfl⟩; obtain rfl := hw.symm)
    go_ret
    exact ⟨rfl, rfl⟩
  clear h63
  go_enter Try.func23, Try.ntmps23
  go_wp2_with (go_at_call 47; refine h47.mono ?_; rintro e w' ⟨hw, rfl⟩; obtain rfl := hw.symm)
  all_goals go_ret
  all_goals exact ⟨rfl, rfl⟩

end Go.Proofs.Ytgjbopbpekocpaa
