/-
  WHAT First, Right, Count AND Cut GIVE, AS FUNCTIONS OF THE TEXT's BYTES. No conditions but the length.
-/
import Derived.Test.YthnaanjhmehgcaaGreatDoorProg
import Derived.Test.YthnaanjhmehgcaaGreatDoorN07
import Derived.Test.YthnaanjhmehgcaaGreatDoorN03
import Derived.Laws.RangeAny
namespace Go.Proofs.YthnaanjhmehgcaaGreatDoor
open Go.ChangeShapes Go.WideShapes Go.ChangeAt Go.RowKit
set_option linter.unusedVariables false

theorem iter_below (w : World) (s : ByteArray) (pos : Nat) : Below w.heap.size w (w.iter s pos) := (Below.refl _ w).alloc (Nat.le_refl _) _

theorem bytes_len (s : ByteArray) : s.data.toList.length = s.size := by rw [Array.length_toList]; rfl

theorem drop_ne (s : ByteArray) (pos : Nat) (h : pos < s.size) : s.data.toList.drop pos ≠ [] := by
  intro e
  have := congrArg List.length e
  rw [List.length_drop, bytes_len, List.length_nil] at this
  omega

def preB (s p : ByteArray) : Bool := decide (p.size ≤ s.size) && ((s.extract 0 p.size).toList == p.toList)

set_option maxHeartbeats 1000000 in
theorem pre_lite (s p : ByteArray) (w : World) : Calls Tryz.prog 168 #[.string s, .string p] w fun e w' => w' = w ∧ e = .returned (.bool (preB s p)) := by
  go_enter Tryz.func168, Tryz.ntmps168
  go_wp2
  all_goals go_ret
  all_goals exact ⟨rfl, ret_bool (by unfold preB; first | (simp_all; done) | (simp_all; omega))⟩

set_option maxHeartbeats 1000000 in
theorem pre_walk (s p : ByteArray) (w : World) : Calls Tryz.prog 145 #[.string s, .string p] w fun e w' => w' = w ∧ e = .returned (.bool (preB s p)) := by
  go_enter Tryz.func145, Tryz.ntmps145
  go_wp2_with (go_at_call 168; refine (pre_lite _ _ _).mono ?_; rintro e w' ⟨hw, rfl⟩; obtain rfl := hw.symm)
  go_ret
  exact ⟨rfl, rfl⟩

theorem preB_stop (s : ByteArray) (pos : Nat) (h : pos < s.size) : preB (s.extract pos s.size) ⟨#[239, 191, 189]⟩ = decide ((s.data.toList.drop pos).take 3 = [239, 191, 189]) := by
  have e1 : (s.extract pos s.size).data.toList = s.data.toList.drop pos := by
    rw [Lib.extract_data, List.take_of_length_le]; rw [List.length_drop, bytes_len]; exact Nat.le_refl _
  have e2 : ((s.extract pos s.size).extract 0 3).toList = (s.data.toList.drop pos).take 3 := by
    rw [Lib.toList_data, Lib.extract_data, e1]; simp
  have e3 : (s.extract pos s.size).size = s.size - pos := by rw [← bytes_len, e1, List.length_drop, bytes_len]
  have e4 : (⟨#[239, 191, 189]⟩ : ByteArray).toList = [239, 191, 189] := by rw [Lib.toList_data]
  have e5 : (⟨#[239, 191, 189]⟩ : ByteArray).size = 3 := rfl
  unfold preB
  rw [e5, e4, e2, e3]
  by_cases hh : (s.data.toList.drop pos).take 3 = [239, 191, 189]
  · have := congrArg List.length hh
    rw [List.length_take, List.length_drop, bytes_len] at this
    simp at this
    simp [hh]; omega
  · simp [hh]

set_option maxHeartbeats 2000000 in
set_option maxRecDepth 10000 in
theorem first_walk (s : ByteArray) (hs : s.size ≤ 9000000000000000000) (w : World) :
    Calls Tryz.prog 112 #[.string s] w fun e w' => e = .returned (.int .i64 (firstL s.data.toList)) ∧ Below w.heap.size w w' := by
  obtain ⟨q, hq⟩ : ∃ q, q = firstL s.data.toList := ⟨_, rfl⟩
  rw [← hq]
  go_enter Tryz.func112, Tryz.ntmps112
  go_wp2
  go_loopw [3] (fun x wr => ∃ pos : Nat, wr = w.iter s pos ∧ pos ≤ s.size ∧ Hid (firstP (pcs (s.data.toList.drop pos)) pos = q)) (fun _ wr => s.size - wr.iterPos w.heap.size)
  case atStart => exact ⟨0, rfl, Nat.zero_le _, hid (by rw [hq]; rfl)⟩
  case round =>
    obtain ⟨pos, rfl, hpos, hp⟩ := hrel
    by_cases hlt : pos < s.size
    · have hnx : ∀ ty, (Instr.next (.pointer (some ⟨w.heap.size, 0, none⟩)) true ty).run Tryz.prog (w.iter s pos) = _ := fun ty => run_next_any w s pos ty hlt
      have hne := drop_ne s pos hlt
      have hst := pcs_step _ hne
      have hpi : (pos : Int) ≤ (s.size : Int) := by omega
      have hle := wd_le _ hne
      have hwp := wd_pos (s.data.toList.drop pos)
      rw [List.length_drop, bytes_len] at hle
      have hd := Lib.decodeL_drop s pos
      have hpre := preB_stop s pos hlt
      have hmiss := stop_miss (s.data.toList.drop pos)
      have hhit := stop_hit (s.data.toList.drop pos) hne
      cases hok : ok (s.data.toList.drop pos) with
      | false =>
        rw [bad_dec hok] at hd
        rw [← hd] at hnx
        rw [decide_eq_false (hmiss hok)] at hpre
        have hq' : Hid (q = pos) := hid (by rw [← hp.out, hst, firstP, hok]; rfl)
        clear hst hhit hmiss hq hp
        go_wp2_with (go_at_call 145; refine (pre_walk _ _ _).mono ?_; rintro e w' ⟨hw, rfl⟩; obtain rfl := hw.symm)
        go_ret
        exact ⟨ret_int hq'.out.symm, iter_below _ _ _⟩
      | true =>
        have hw2 : (Utf8.decode s pos).2 = wd (s.data.toList.drop pos) := by rw [← hd]; rfl
        have hp' : Hid (firstP (pcs (s.data.toList.drop (pos + wd (s.data.toList.drop pos)))) (pos + wd (s.data.toList.drop pos)) = q) := hid (by rw [← hp.out, hst, firstP, hok, List.drop_drop]; rfl)
        by_cases hr : (Lib.decodeL (s.data.toList.drop pos)).1 = 65533
        · rw [decide_eq_true (hhit hok hr)] at hpre
          rw [hw2, ← hd, hr] at hnx
          clear hst hhit hmiss hq hp hd hr hok hne
          go_wp2_with (go_at_call 145; refine (pre_walk _ _ _).mono ?_; rintro e w' ⟨hw, rfl⟩; obtain rfl := hw.symm)
          go_roundw
          case rel => exact ⟨_, rfl, by omega, hp'⟩
          case measure => simp; omega
        · have hr' : (((Utf8.decode s pos).1 : Int) == 65533) = false := by rw [← hd]; simp; omega
          rw [hw2] at hnx
          clear hst hhit hmiss hq hp hd hr hok hne hpre
          go_wp2
          go_roundw
          case rel => exact ⟨_, rfl, by omega, hp'⟩
          case measure => simp; omega
    · have hnx : ∀ ty, (Instr.next (.pointer (some ⟨w.heap.size, 0, none⟩)) true ty).run Tryz.prog (w.iter s pos) = _ := fun ty => run_next_end w s pos ty hlt
      have hq' : Hid (q = -1) := hid (by rw [← hp.out, List.drop_eq_nil_iff.2 (by rw [bytes_len]; omega)]; rfl)
      clear hq hp
      go_wp2
      go_ret
      exact ⟨ret_int hq'.out.symm, iter_below _ _ _⟩

set_option maxHeartbeats 1000000 in
theorem right_walk (s : ByteArray) (hs : s.size ≤ 9000000000000000000) (w : World) :
    Calls Tryz.prog 80 #[.string s] w fun e w' => e = .returned (.bool (decide (firstL s.data.toList < 0))) ∧ Below w.heap.size w w' := by
  go_enter Tryz.func80, Tryz.ntmps80
  go_wp2_with (go_at_call 112; refine (first_walk s hs _).mono ?_; rintro e w' ⟨rfl, hb⟩)
  go_ret
  exact ⟨rfl, hb⟩

end Go.Proofs.YthnaanjhmehgcaaGreatDoor
