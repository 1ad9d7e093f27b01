/-
  WHAT First, Right, Count AND Cut GIVE, AS FUNCTIONS OF THE TEXT's BYTES. No conditions but the length.
-/
import Derived.Test.YtlepgfkhgmgobaaProg
import Derived.Test.YtlepgfkhgmgobaaPlain
import Derived.Test.YtlepgfkhgmgobaaStrs
import Derived.Laws.RangeAny
namespace Go.Proofs.Ytlepgfkhgmgobaa
open Go.ChangeShapes Go.WideShapes Go.ChangeAt Go.RowKit
set_option linter.unusedVariables false

theorem iter_below (w : World) (s : ByteArray) (pos : Nat) : Below w.heap.size w (w.iter s pos) := (Below.refl _ w).alloc (Nat.le_refl _) _

theorem bytes_len (s : ByteArray) : s.data.toList.length = s.size := by rw [Array.length_toList]; rfl

theorem drop_ne (s : ByteArray) (pos : Nat) (h : pos < s.size) : s.data.toList.drop pos ≠ [] := by
  intro e
  have := congrArg List.length e
  rw [List.length_drop, bytes_len, List.length_nil] at this
  omega

def preB (s p : ByteArray) : Bool := decide (p.size ≤ s.size) && ((s.extract 0 p.size).toList == p.toList)

set_option maxHeartbeats 1000000 in
theorem pre_lite (s p : ByteArray) (w : World) : Calls Try.prog 20 #[.string s, .string p] w fun e w' => w' = w ∧ e = .returned (.bool (preB s p)) := by
  go_enter Try.func20, Try.ntmps20
  go_wp2
  all_goals go_ret
  all_goals exact ⟨rfl, ret_bool (by unfold preB; first | (simp_all; done) | (simp_all; omega))⟩

set_option maxHeartbeats 1000000 in
theorem pre_walk (s p : ByteArray) (w : World) : Calls Try.prog 16 #[.string s, .string p] w fun e w' => w' = w ∧ e = .returned (.bool (preB s p)) := by
  go_enter Try.func16, Try.ntmps16
  go_wp2_with (go_at_call 20; refine (pre_lite _ _ _).mono ?_; rintro e w' ⟨hw, rfl⟩; obtain rfl := hw.symm)
  go_ret
  exact ⟨rfl, rfl⟩

theorem preB_stop (s : ByteArray) (pos : Nat) (h : pos < s.size) : preB (s.extract pos s.size) ⟨#[239, 191, 189]⟩ = decide ((s.data.toList.drop pos).take 3 = [239, 191, 189]) := by
  have e1 : (s.extract pos s.size).data.toList = s.data.toList.drop pos := by
    rw [Lib.extract_data, List.take_of_length_le]; rw [List.length_drop, bytes_len]; exact Nat.le_refl _
  have e2 : ((s.extract pos s.size).extract 0 3).toList = (s.data.toList.drop pos).take 3 := by
    rw [Lib.toList_data, Lib.extract_data, e1]; simp
  have e3 : (s.extract pos s.size).size = s.size - pos := by rw [← bytes_len, e1, List.length_drop, bytes_len]
  have e4 : (⟨#[239, 191, 189]⟩ : ByteArray).toList = [239, 191, 189] := by rw [Lib.toList_data]
  have e5 : (⟨#[239, 191, 189]⟩ : ByteArray).size = 3 := rfl
  unfold preB
  rw [e5, e4, e2, e3]
  by_cases hh : (s.data.toList.drop pos).take 3 = [239, 191, 189]
  · have := congrArg List.length hh
    rw [List.length_take, List.length_drop, bytes_len] at this
    simp at this
    simp [hh]; omega
  · simp [hh]

set_option maxHeartbeats 2000000 in
set_option maxRecDepth 10000 in
theorem first_walk (s : ByteArray) (hs : s.size ≤ 9000000000000000000) (w : World) :
    Calls Try.prog 8 #[.string s] w fun e w' => e = .returned (.int .i64 (firstL s.data.toList)) ∧ Below w.heap.size w w' := by
  obtain ⟨q, hq⟩ : ∃ q, q = firstL s.data.toList := ⟨_, rfl⟩
  rw [← hq]
  go_enter Try.func8, Try.ntmps8
  go_wp2
  go_loopw [3] (fun x wr => ∃ pos : Nat, wr = w.iter s pos ∧ pos ≤ s.size ∧ Hid (firstP (pcs (s.data.toList.drop pos)) pos = q)) (fun _ wr => s.size - wr.iterPos w.heap.size)
  case atStart => exact ⟨0, rfl, Nat.zero_le _, hid (by rw [hq]; rfl)⟩
  case round =>
    obtain ⟨pos, rfl, hpos, hp⟩ := hrel
    by_cases hlt : pos < s.size
    · have hnx : ∀ ty, (Instr.next (.pointer (some ⟨w.heap.size, 0, none⟩)) true ty).run Try.prog (w.iter s pos) = _ := fun ty => run_next_any w s pos ty hlt
      have hne := drop_ne s pos hlt
      have hst := pcs_step _ hne
      have hpi : (pos : Int) ≤ (s.size : Int) := by omega
      have hle := wd_le _ hne
      have hwp := wd_pos (s.data.toList.drop pos)
      rw [List.length_drop, bytes_len] at hle
      have hd := Lib.decodeL_drop s pos
      have hpre := preB_stop s pos hlt
      have hmiss := stop_miss (s.data.toList.drop pos)
      have hhit := stop_hit (s.data.toList.drop pos) hne
      cases hok : ok (s.data.toList.drop pos) with
      | false =>
        rw [bad_dec hok] at hd
        rw [← hd] at hnx
        rw [decide_eq_false (hmiss hok)] at hpre
        have hq' : Hid (q = pos) := hid (by rw [← hp.out, hst, firstP, hok]; rfl)
        clear hst hhit hmiss hq hp
        go_wp2_with (go_at_call 16; refine (pre_walk _ _ _).mono ?_; rintro e w' ⟨hw, rfl⟩; obtain rfl := hw.symm)
        go_ret
        exact ⟨ret_int hq'.out.symm, iter_below _ _ _⟩
      | true =>
        have hw2 : (Utf8.decode s pos).2 = wd (s.data.toList.drop pos) := by rw [← hd]; rfl
        have hp' : Hid (firstP (pcs (s.data.toList.drop (pos + wd (s.data.toList.drop pos)))) (pos + wd (s.data.toList.drop pos)) = q) := hid (by rw [← hp.out, hst, firstP, hok, List.drop_drop]; rfl)
        by_cases hr : (Lib.decodeL (s.data.toList.drop pos)).1 = 65533
        · rw [decide_eq_true (hhit hok hr)] at hpre
          rw [hw2, ← hd, hr] at hnx
          clear hst hhit hmiss hq hp hd hr hok hne
          go_wp2_with (go_at_call 16; refine (pre_walk _ _ _).mono ?_; rintro e w' ⟨hw, rfl⟩; obtain rfl := hw.symm)
          go_roundw
          case rel => exact ⟨_, rfl, by omega, hp'⟩
          case measure => simp; omega
        · have hr' : (((Utf8.decode s pos).1 : Int) == 65533) = false := by rw [← hd]; simp; omega
          rw [hw2] at hnx
          clear hst hhit hmiss hq hp hd hr hok hne hpre
          go_wp2
          go_roundw
          case rel => exact ⟨_, rfl, by omega, hp'⟩
          case measure => simp; omega
    · have hnx : ∀ ty, (Instr.next (.pointer (some ⟨w.heap.size, 0, none⟩)) true ty).run Try.prog (w.iter s pos) = _ := fun ty => run_next_end w s pos ty hlt
      have hq' : Hid (q = -1) := hid (by rw [← hp.out, List.drop_eq_nil_iff.2 (by rw [bytes_len]; omega)]; rfl)
      clear hq hp
      go_wp2
      go_ret
      exact ⟨ret_int hq'.out.symm, iter_below _ _ _⟩

set_option maxHeartbeats 1000000 in
theorem right_walk (s : ByteArray) (hs : s.size ≤ 9000000000000000000) (w : World) :
    Calls Try.prog 9 #[.string s] w fun e w' => e = .returned (.bool (decide (firstL s.data.toList < 0))) ∧ Below w.heap.size w w' := by
  go_enter Try.func9, Try.ntmps9
  go_wp2_with (go_at_call 8; refine (first_walk s hs _).mono ?_; rintro e w' ⟨rfl, hb⟩)
  go_ret
  exact ⟨rfl, hb⟩

set_option maxHeartbeats 2000000 in
set_option maxRecDepth 10000 in
theorem count_walk (s : ByteArray) (hs : s.size ≤ 9000000000000000000) (w : World) :
    Calls Try.prog 10 #[.string s] w fun e w' => e = .returned (.int .i64 (countL s.data.toList)) ∧ Below w.heap.size w w' := by
  have hcl := count_le s.data.toList
  rw [bytes_len] at hcl
  obtain ⟨q, hq⟩ : ∃ q, q = countL s.data.toList := ⟨_, rfl⟩
  rw [← hq]
  rw [← hq] at hcl
  go_enter Try.func10, Try.ntmps10
  go_wp2
  go_loopw [3] (fun x wr => ∃ pos k : Nat, wr = w.iter s pos ∧ x = .int .i64 k ∧ pos ≤ s.size ∧ k ≤ pos ∧ Hid (k + countL (s.data.toList.drop pos) = q)) (fun _ wr => s.size - wr.iterPos w.heap.size)
  case atStart => exact ⟨0, 0, rfl, by go_num, Nat.zero_le _, Nat.le_refl _, hid (by rw [hq, List.drop_zero, Nat.zero_add])⟩
  case round =>
    obtain ⟨pos, k, rfl, rfl, hpos, hkp, hp⟩ := hrel
    by_cases hlt : pos < s.size
    · have hnx : ∀ ty, (Instr.next (.pointer (some ⟨w.heap.size, 0, none⟩)) true ty).run Try.prog (w.iter s pos) = _ := fun ty => run_next_any w s pos ty hlt
      have hne := drop_ne s pos hlt
      have hst := pcs_step _ hne
      have hle := wd_le _ hne
      have hwp := wd_pos (s.data.toList.drop pos)
      rw [List.length_drop, bytes_len] at hle
      have hd := Lib.decodeL_drop s pos
      have hw2 : (Utf8.decode s pos).2 = wd (s.data.toList.drop pos) := by rw [← hd]; rfl
      have hp' : Hid ((k + 1) + countL (s.data.toList.drop (pos + wd (s.data.toList.drop pos))) = q) := hid (by rw [← hp.out]; unfold countL; rw [hst, List.drop_drop, List.length_cons]; omega)
      rw [hw2] at hnx
      clear hst hq hp hd hne
      go_wp2
      go_roundw
      case rel => exact ⟨_, k + 1, rfl, by go_num, by omega, by omega, hp'⟩
      case measure => simp; omega
    · have hnx : ∀ ty, (Instr.next (.pointer (some ⟨w.heap.size, 0, none⟩)) true ty).run Try.prog (w.iter s pos) = _ := fun ty => run_next_end w s pos ty hlt
      have hq' : Hid (q = k) := hid (by rw [← hp.out, List.drop_eq_nil_iff.2 (by rw [bytes_len]; omega)]; rfl)
      clear hq hp
      go_wp2
      go_ret
      exact ⟨ret_int (by rw [hq'.out]), iter_below _ _ _⟩

/-- the text's first bytes -/
theorem head_str (s : ByteArray) (k : Nat) : s.extract 0 k = ⟨(s.data.toList.take k).toArray⟩ := by
  apply ByteArray.ext
  apply Array.toList_inj.1
  rw [Lib.extract_data]; simp

set_option maxHeartbeats 2000000 in
set_option maxRecDepth 10000 in
theorem cut_walk (s : ByteArray) (n : Int) (hs : s.size ≤ 9000000000000000000) (w : World) :
    Calls Try.prog 14 #[.string s, .int .i64 n] w fun e w' => e = .returned (.string (s.extract 0 (cutL s.data.toList n))) ∧ Below w.heap.size w w' := by
  by_cases hbig : (s.size : Int) ≤ n
  · have hc := cut_whole s.data.toList n (by rw [bytes_len]; exact hbig)
    rw [bytes_len] at hc
    have hw : s.extract 0 s.size = s := by rw [head_str, List.take_of_length_le (by rw [bytes_len]; exact Nat.le_refl _)]
    rw [hc, hw]
    go_enter Try.func14, Try.ntmps14
    go_wp2
    go_ret
    exact ⟨rfl, Below.refl _ _⟩
  · obtain ⟨q, hq⟩ : ∃ q, q = cutL s.data.toList n := ⟨_, rfl⟩
    rw [← hq]
    go_enter Try.func14, Try.ntmps14
    go_wp2
    go_loopw [5] (fun x wr => ∃ pos k : Nat, wr = w.iter s pos ∧ x = .int .i64 k ∧ pos ≤ s.size ∧ k ≤ pos ∧ Hid (cutP n (pcs (s.data.toList.drop pos)) pos (if (pos : Int) ≤ n then pos else k) = q)) (fun _ wr => s.size - wr.iterPos w.heap.size)
    case atStart => exact ⟨0, 0, rfl, by go_num, Nat.zero_le _, Nat.le_refl _, hid (by rw [hq, List.drop_zero, ite_self]; rfl)⟩
    case round =>
      obtain ⟨pos, k, rfl, rfl, hpos, hkp, hp⟩ := hrel
      have hki : (k : Int) ≤ (s.size : Int) := by omega
      by_cases hlt : pos < s.size
      · have hnx : ∀ ty, (Instr.next (.pointer (some ⟨w.heap.size, 0, none⟩)) true ty).run Try.prog (w.iter s pos) = _ := fun ty => run_next_any w s pos ty hlt
        have hne := drop_ne s pos hlt
        have hst := pcs_step _ hne
        have hle := wd_le _ hne
        have hwp := wd_pos (s.data.toList.drop pos)
        rw [List.length_drop, bytes_len] at hle
        have hd := Lib.decodeL_drop s pos
        have hw2 : (Utf8.decode s pos).2 = wd (s.data.toList.drop pos) := by rw [← hd]; rfl
        rw [hw2] at hnx
        by_cases hn : n < (pos : Int)
        · have hq' : Hid (q = k) := hid (by rw [← hp.out, if_neg (by omega), cut_stop n _ _ _ hn])
          clear hst hq hp hd hne
          go_wp2
          go_ret
          exact ⟨ret_string (by rw [hq'.out]), iter_below _ _ _⟩
        · have hp' : Hid (cutP n (pcs (s.data.toList.drop (pos + wd (s.data.toList.drop pos)))) (pos + wd (s.data.toList.drop pos)) (if ((pos + wd (s.data.toList.drop pos) : Nat) : Int) ≤ n then pos + wd (s.data.toList.drop pos) else pos) = q) := hid (by rw [← hp.out, if_pos (show (pos : Int) ≤ n by omega), hst, cutP, List.drop_drop])
          clear hst hq hp hd hne
          go_wp2
          go_roundw
          case rel => exact ⟨_, pos, rfl, by go_num, by omega, by omega, hp'⟩
          case measure => simp; omega
      · have hnx : ∀ ty, (Instr.next (.pointer (some ⟨w.heap.size, 0, none⟩)) true ty).run Try.prog (w.iter s pos) = _ := fun ty => run_next_end w s pos ty hlt
        have hq' : Hid (q = k) := hid (by rw [← hp.out, List.drop_eq_nil_iff.2 (by rw [bytes_len]; omega), pcs_nil, cutP, if_neg (by omega)])
        clear hq hp
        go_wp2
        go_ret
        exact ⟨ret_string (by rw [hq'.out]), iter_below _ _ _⟩

end Go.Proofs.Ytlepgfkhgmgobaa
