/-
  WHAT IS MENDED IS RIGHT AND STAYS, WHAT IS CUT IS A BEGINNING, in texts, as the statement asks for it. No conditions but the length.
-/
import Derived.Test.YtlepgfkhgmgobaaEnd
namespace Go.Proofs.Ytlepgfkhgmgobaa
open Go.ChangeShapes Go.WideShapes Go.ChangeAt Go.RowKit
set_option linter.unusedVariables false

def mnB (s : ByteArray) : ByteArray := ⟨(mendL s.data.toList).toArray⟩
def rtB (s : ByteArray) : Bool := decide (firstL s.data.toList < 0)
def ctN (s : ByteArray) : Nat := countL s.data.toList
def cuB (s : ByteArray) (n : Int) : ByteArray := s.extract 0 (cutL s.data.toList n)

theorem mn_walk (s : ByteArray) (hs : s.size ≤ 4000) (w : World) : Calls Try.prog 12 #[.string s] w fun e w' => e = .returned (.string (mnB s)) ∧ Below w.heap.size w w' := mend_walk s (by omega) w
theorem rt_walk (s : ByteArray) (hs : s.size ≤ 4000) (w : World) : Calls Try.prog 9 #[.string s] w fun e w' => e = .returned (.bool (rtB s)) ∧ Below w.heap.size w w' := right_walk s (by omega) w
theorem ct_walk (s : ByteArray) (hs : s.size ≤ 4000) (w : World) : Calls Try.prog 10 #[.string s] w fun e w' => e = .returned (.int .i64 (ctN s)) ∧ Below w.heap.size w w' := count_walk s (by omega) w
theorem cu_walk (s : ByteArray) (n : Int) (hs : s.size ≤ 4000) (w : World) : Calls Try.prog 14 #[.string s, .int .i64 n] w fun e w' => e = .returned (.string (cuB s n)) ∧ Below w.heap.size w w' := cut_walk s n (by omega) w

theorem mn_data (s : ByteArray) : (mnB s).data.toList = mendL s.data.toList := by simp [mnB]
theorem mn_size (s : ByteArray) : (mnB s).size ≤ 3 * s.size := by
  have := mend_len s.data.toList
  rw [bytes_len] at this
  rwa [← bytes_len, mn_data]
theorem mn_right (s : ByteArray) : rtB (mnB s) = true := by unfold rtB; rw [mn_data]; exact decide_eq_true (right_mend _)
theorem mn_mn (s : ByteArray) : mnB (mnB s) = mnB s := by
  show (⟨(mendL (mnB s).data.toList).toArray⟩ : ByteArray) = mnB s
  rw [mn_data, mend_mend]; rfl
theorem mn_count (s : ByteArray) : ctN (mnB s) = ctN s := by unfold ctN; rw [mn_data, count_mend]
theorem rt_same (s : ByteArray) : ((mnB s).toList == s.toList) = rtB s := by
  cases h : rtB s with
  | true =>
    have h1 := right_iff.1 (of_decide_eq_true h)
    rw [str_beq]
    apply ByteArray.ext
    apply Array.toList_inj.1
    rw [mn_data, h1]
  | false =>
    have h1 := of_decide_eq_false h
    cases hh : ((mnB s).toList == s.toList) with
    | false => rfl
    | true =>
      exfalso
      apply h1
      rw [right_iff, ← mn_data, str_beq.1 hh]
theorem cu_data (s : ByteArray) (n : Int) : (cuB s n).data.toList = s.data.toList.take (cutL s.data.toList n) := by unfold cuB; rw [head_str]
theorem cu_size (s : ByteArray) (n : Int) : (cuB s n).size = cutL s.data.toList n := by
  have := (cut_facts s.data.toList n).1
  rw [← bytes_len, cu_data, List.length_take]; omega
theorem cu_le (s : ByteArray) (n : Int) : (cuB s n).size ≤ s.size := by
  have := (cut_facts s.data.toList n).1
  rw [cu_size, ← bytes_len s]; exact this
theorem cu_head (s : ByteArray) (n : Int) : s.extract 0 (cuB s n).size = cuB s n := by rw [cu_size]; rfl
theorem cu_few (s : ByteArray) (n : Int) : n < 0 ∨ ((cuB s n).size : Int) ≤ n := by rw [cu_size]; exact (cut_facts s.data.toList n).2.1
theorem cu_right (s : ByteArray) (n : Int) (h : rtB s = true) : rtB (cuB s n) = true := by
  unfold rtB; rw [cu_data]; exact decide_eq_true (cut_right _ _ (of_decide_eq_true h))
theorem tail_data (s : ByteArray) (k : Nat) : (s.extract k s.size).data.toList = s.data.toList.drop k := by
  rw [Lib.extract_data, List.take_of_length_le]; rw [List.length_drop, bytes_len]; exact Nat.le_refl _
theorem cu_count (s : ByteArray) (n : Int) : ctN (cuB s n) + ctN (s.extract (cuB s n).size s.size) = ctN s := by
  unfold ctN; rw [tail_data, cu_data, cu_size]; exact cut_count _ _
theorem ct_le (s : ByteArray) : ctN s ≤ s.size := by have := count_le s.data.toList; rwa [bytes_len] at this
theorem tail_size (s : ByteArray) (k : Nat) : (s.extract k s.size).size ≤ s.size := by rw [← bytes_len, tail_data, List.length_drop, bytes_len]; omega

end Go.Proofs.Ytlepgfkhgmgobaa
