/-
  WHAT THE DOCUMENT's size GIVES AT A PLACE OF A TEXT: how many bytes the code point's are that stand there, or 0. No conditions but the length.
-/
import Derived.Test.YthnaanjhmehgcaaGreatDoorN08
namespace Go.Proofs.YthnaanjhmehgcaaGreatDoor
open Go.ChangeShapes Go.WideShapes Go.ChangeAt Go.RowKit
set_option linter.unusedVariables false

def sizeL (l : List UInt8) : Nat := if ok l then wd l else 0

/-- the loop over the bytes behind the first one -/
def runP (l : List UInt8) (n : Nat) : Nat → Nat → Int → Option Int
  | 0, _, p => some p
  | f + 1, i, p => if i < n then (if (l.getD i 0).toNat < 128 ∨ 192 ≤ (l.getD i 0).toNat then none else runP l n f (i + 1) (64 * p + ((l.getD i 0).toNat : Int) - 128)) else some p
def sizeN (n : Nat) (least : Int) : Option Int → Nat
  | none => 0
  | some p => if p < least ∨ 1114111 < p ∨ (55296 ≤ p ∧ p ≤ 57343) then 0 else n

def sizeD (n b0 b1 b2 b3 : Nat) : Nat := if (Lib.decodeN n b0 b1 b2 b3).1 = 65533 ∧ (Lib.decodeN n b0 b1 b2 b3).2 = 1 then 0 else (Lib.decodeN n b0 b1 b2 b3).2
theorem size_dec (l : List UInt8) : sizeL l = sizeD l.length (l.getD 0 0).toNat (l.getD 1 0).toNat (l.getD 2 0).toNat (l.getD 3 0).toNat := by
  unfold sizeL sizeD ok wd
  rw [Lib.decodeL_N]
  simp only [Bool.not_eq_true', Bool.and_eq_false_iff, decide_eq_false_iff_not]
  repeat' split
  all_goals first | rfl | omega

theorem size_one (l : List UInt8) (h : (l.getD 0 0).toNat < 128) : sizeL l = 1 := by
  rw [size_dec]; unfold sizeD; rw [Lib.decodeN_ascii _ _ _ _ _ h]; dsimp only; split <;> omega

set_option maxRecDepth 100000 in
set_option maxHeartbeats 2000000 in
theorem size_none (l : List UInt8) (h0 : 128 ≤ (l.getD 0 0).toNat) (h : (l.getD 0 0).toNat < 192 ∨ 248 ≤ (l.getD 0 0).toNat) : sizeL l = 0 := by
  rw [size_dec]
  generalize (l.getD 0 0).toNat = b0 at *
  have : Lib.decodeN l.length b0 (l.getD 1 0).toNat (l.getD 2 0).toNat (l.getD 3 0).toNat = (65533, 1) := by
    unfold Lib.decodeN
    repeat' split
    all_goals first | rfl | (exfalso; omega)
  unfold sizeD; rw [this]; rfl

set_option maxRecDepth 100000 in
set_option maxHeartbeats 2000000 in
theorem size_short (l : List UInt8) (h0 : 192 ≤ (l.getD 0 0).toNat) (h : (l.getD 0 0).toNat < 224 ∧ l.length < 2 ∨ 224 ≤ (l.getD 0 0).toNat ∧ (l.getD 0 0).toNat < 240 ∧ l.length < 3 ∨ 240 ≤ (l.getD 0 0).toNat ∧ l.length < 4) : sizeL l = 0 := by
  rw [size_dec]
  generalize (l.getD 0 0).toNat = b0 at *
  have : Lib.decodeN l.length b0 (l.getD 1 0).toNat (l.getD 2 0).toNat (l.getD 3 0).toNat = (65533, 1) := by
    unfold Lib.decodeN
    repeat' split
    all_goals first | rfl | (exfalso; omega)
  unfold sizeD; rw [this]; rfl

set_option maxRecDepth 100000 in
set_option maxHeartbeats 4000000 in
theorem dec_two (n b0 b1 b2 b3 : Nat) (h : 192 ≤ b0 ∧ b0 < 224) (hn : 2 ≤ n) (k1 : b1 < 256) : sizeD n b0 b1 b2 b3 = if b1 < 128 ∨ 192 ≤ b1 then 0 else if 64 * (b0 - 192) + b1 - 128 < 128 then 0 else 2 := by
  have : Lib.decodeN n b0 b1 b2 b3 = if b1 < 128 ∨ 192 ≤ b1 then (65533, 1) else if 64 * (b0 - 192) + b1 - 128 < 128 then (65533, 1) else (64 * (b0 - 192) + b1 - 128, 2) := by
    unfold Lib.decodeN
    repeat' split
    all_goals first | (exfalso; omega) | rfl | (rw [Prod.mk.injEq]; omega)
  unfold sizeD
  rw [this]
  repeat' split
  all_goals first | rfl | (simp at *; done) | (simp at *; omega)

set_option maxRecDepth 100000 in
set_option maxHeartbeats 4000000 in
theorem dec_three (n b0 b1 b2 b3 : Nat) (h : 224 ≤ b0 ∧ b0 < 240) (hn : 3 ≤ n) (k1 : b1 < 256) (k2 : b2 < 256) : sizeD n b0 b1 b2 b3 = if b1 < 128 ∨ 192 ≤ b1 then 0 else if b2 < 128 ∨ 192 ≤ b2 then 0 else if 64 * (64 * (b0 - 224) + b1 - 128) + b2 - 128 < 2048 ∨ (55296 ≤ 64 * (64 * (b0 - 224) + b1 - 128) + b2 - 128 ∧ 64 * (64 * (b0 - 224) + b1 - 128) + b2 - 128 ≤ 57343) then 0 else 3 := by
  have : Lib.decodeN n b0 b1 b2 b3 = if b1 < 128 ∨ 192 ≤ b1 then (65533, 1) else if b2 < 128 ∨ 192 ≤ b2 then (65533, 1) else if 64 * (64 * (b0 - 224) + b1 - 128) + b2 - 128 < 2048 ∨ (55296 ≤ 64 * (64 * (b0 - 224) + b1 - 128) + b2 - 128 ∧ 64 * (64 * (b0 - 224) + b1 - 128) + b2 - 128 ≤ 57343) then (65533, 1) else (64 * (64 * (b0 - 224) + b1 - 128) + b2 - 128, 3) := by
    unfold Lib.decodeN
    repeat' split
    all_goals first | (exfalso; omega) | rfl | (rw [Prod.mk.injEq]; omega)
  unfold sizeD
  rw [this]
  repeat' split
  all_goals first | rfl | (simp at *; done) | (simp at *; omega)

set_option maxRecDepth 100000 in
set_option maxHeartbeats 4000000 in
theorem dec_four (n b0 b1 b2 b3 : Nat) (h : 240 ≤ b0 ∧ b0 < 248) (hn : 4 ≤ n) (k1 : b1 < 256) (k2 : b2 < 256) (k3 : b3 < 256) : sizeD n b0 b1 b2 b3 = if b1 < 128 ∨ 192 ≤ b1 then 0 else if b2 < 128 ∨ 192 ≤ b2 then 0 else if b3 < 128 ∨ 192 ≤ b3 then 0 else if 64 * (64 * (64 * (b0 - 240) + b1 - 128) + b2 - 128) + b3 - 128 < 65536 ∨ 1114111 < 64 * (64 * (64 * (b0 - 240) + b1 - 128) + b2 - 128) + b3 - 128 then 0 else 4 := by
  have : Lib.decodeN n b0 b1 b2 b3 = if b1 < 128 ∨ 192 ≤ b1 then (65533, 1) else if b2 < 128 ∨ 192 ≤ b2 then (65533, 1) else if b3 < 128 ∨ 192 ≤ b3 then (65533, 1) else if 64 * (64 * (64 * (b0 - 240) + b1 - 128) + b2 - 128) + b3 - 128 < 65536 ∨ 1114111 < 64 * (64 * (64 * (b0 - 240) + b1 - 128) + b2 - 128) + b3 - 128 then (65533, 1) else (64 * (64 * (64 * (b0 - 240) + b1 - 128) + b2 - 128) + b3 - 128, 4) := by
    unfold Lib.decodeN
    repeat' split
    all_goals first | (exfalso; omega) | rfl | (rw [Prod.mk.injEq]; omega)
  unfold sizeD
  rw [this]
  repeat' split
  all_goals first | rfl | (simp at *; done) | (simp at *; omega)

theorem run_two (l : List UInt8) (h : 192 ≤ (l.getD 0 0).toNat ∧ (l.getD 0 0).toNat < 224) (hn : 2 ≤ l.length) : sizeN 2 128 (runP l 2 4 1 (((l.getD 0 0).toNat : Int) - 192)) = sizeL l := by
  have k1 := (l.getD 1 0).toNat_lt
  rw [size_dec, dec_two _ _ _ _ _ h hn k1]
  simp only [runP]
  rw [if_pos (by omega), if_neg (by omega : ¬ (1 + 1 < 2))]
  by_cases c1 : (l.getD 1 0).toNat < 128 ∨ 192 ≤ (l.getD 1 0).toNat
  · rw [if_pos c1, if_pos c1]; rfl
  · rw [if_neg c1, if_neg c1]; unfold sizeN; dsimp only; split <;> split <;> first | rfl | (exfalso; omega)

theorem run_three (l : List UInt8) (h : 224 ≤ (l.getD 0 0).toNat ∧ (l.getD 0 0).toNat < 240) (hn : 3 ≤ l.length) : sizeN 3 2048 (runP l 3 4 1 (((l.getD 0 0).toNat : Int) - 224)) = sizeL l := by
  have k1 := (l.getD 1 0).toNat_lt
  have k2 := (l.getD 2 0).toNat_lt
  rw [size_dec, dec_three _ _ _ _ _ h hn k1 k2]
  simp only [runP]
  rw [if_pos (by omega), if_pos (by omega : 1 + 1 < 3), if_neg (by omega : ¬ (1 + 1 + 1 < 3))]
  by_cases c1 : (l.getD 1 0).toNat < 128 ∨ 192 ≤ (l.getD 1 0).toNat
  · rw [if_pos c1, if_pos c1]; rfl
  · rw [if_neg c1, if_neg c1]
    show sizeN 3 2048 (if (l.getD 2 0).toNat < 128 ∨ 192 ≤ (l.getD 2 0).toNat then none else some (64 * (64 * (((l.getD 0 0).toNat : Int) - 224) + ((l.getD 1 0).toNat : Int) - 128) + ((l.getD 2 0).toNat : Int) - 128)) = _
    by_cases c2 : (l.getD 2 0).toNat < 128 ∨ 192 ≤ (l.getD 2 0).toNat
    · rw [if_pos c2, if_pos c2]; rfl
    · rw [if_neg c2, if_neg c2]; unfold sizeN; dsimp only; split <;> split <;> first | rfl | (exfalso; omega)

theorem run_four (l : List UInt8) (h : 240 ≤ (l.getD 0 0).toNat ∧ (l.getD 0 0).toNat < 248) (hn : 4 ≤ l.length) : sizeN 4 65536 (runP l 4 4 1 (((l.getD 0 0).toNat : Int) - 240)) = sizeL l := by
  have k1 := (l.getD 1 0).toNat_lt
  have k2 := (l.getD 2 0).toNat_lt
  have k3 := (l.getD 3 0).toNat_lt
  rw [size_dec, dec_four _ _ _ _ _ h hn k1 k2 k3]
  simp only [runP]
  rw [if_pos (by omega), if_pos (by omega : 1 + 1 < 4), if_pos (by omega : 1 + 1 + 1 < 4), if_neg (by omega : ¬ (1 + 1 + 1 + 1 < 4))]
  by_cases c1 : (l.getD 1 0).toNat < 128 ∨ 192 ≤ (l.getD 1 0).toNat
  · rw [if_pos c1, if_pos c1]; rfl
  · rw [if_neg c1, if_neg c1]
    show sizeN 4 65536 (if (l.getD 2 0).toNat < 128 ∨ 192 ≤ (l.getD 2 0).toNat then none else if (l.getD 3 0).toNat < 128 ∨ 192 ≤ (l.getD 3 0).toNat then none else some (64 * (64 * (64 * (((l.getD 0 0).toNat : Int) - 240) + ((l.getD 1 0).toNat : Int) - 128) + ((l.getD 2 0).toNat : Int) - 128) + ((l.getD 3 0).toNat : Int) - 128)) = _
    by_cases c2 : (l.getD 2 0).toNat < 128 ∨ 192 ≤ (l.getD 2 0).toNat
    · rw [if_pos c2, if_pos c2]; rfl
    · rw [if_neg c2, if_neg c2]
      by_cases c3 : (l.getD 3 0).toNat < 128 ∨ 192 ≤ (l.getD 3 0).toNat
      · rw [if_pos c3, if_pos c3]; rfl
      · rw [if_neg c3, if_neg c3]; unfold sizeN; dsimp only; split <;> split <;> first | rfl | (exfalso; omega)

end Go.Proofs.YthnaanjhmehgcaaGreatDoor
