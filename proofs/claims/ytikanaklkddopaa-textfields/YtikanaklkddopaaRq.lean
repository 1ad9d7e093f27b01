/-
  WHAT THE DOCUMENT's OWN Quote AND Unquote GIVE, AS FUNCTIONS OF THE TEXT's BYTES. No conditions but the length.
-/
import Derived.Test.YtikanaklkddopaaLive
namespace Go.Proofs.Ytikanaklkddopaa
open Go.Shelf Go.ChangeShapes Go.WideShapes Go.ChangeAt Go.RowKit
set_option linter.unusedVariables false

set_option maxHeartbeats 1000000 in
theorem code_walk (c : Int) (h0 : 0 ≤ c) (h1 : c ≤ 255) (w : World) : Calls Try.prog 36 #[.int .u8 c] w fun e w' => e = .returned (.string (strOfNums (codeL c))) ∧ Below w.heap.size w w' := by
  have hcv : (convert 22 9 (.slice (some ⟨w.heap.size, 0, none⟩) 4 4)).run Try.prog (w.alloc (.cells #[.int .u8 92, .int .u8 (48 + c / 64), .int .u8 (48 + c / 8 % 8), .int .u8 (48 + c % 8)] 5)) = .ok (.string (strOfNums (codeL c))) (w.alloc (.cells #[.int .u8 92, .int .u8 (48 + c / 64), .int .u8 (48 + c / 8 % 8), .int .u8 (48 + c % 8)] 5)) :=
    bys_string (P := Try.prog) Try.underlying22 Try.underlying5 Try.underlying9 (bys_lit (w := w) 5 (codeL c) (by simp [codeL]) (codeL_range c h0 h1))
  go_enter Try.func36, Try.ntmps36
  go_wp2
  go_ret
  exact ⟨rfl, (Below.refl _ w).alloc (Nat.le_refl _) _⟩

theorem str_app (a b : List Int) : strOfNums a ++ strOfNums b = strOfNums (a ++ b) := by
  apply ByteArray.ext
  simp [strOfNums]

theorem str_size (l : List Int) : (strOfNums l).size = l.length := by
  show (l.map _).toArray.size = l.length
  simp

set_option maxHeartbeats 4000000 in
set_option maxRecDepth 10000 in
theorem rquote_walk (s : ByteArray) (hs : s.size ≤ 1000000) (w : World) :
    Calls Try.prog 26 #[.string s] w fun e w' => e = .returned (.string (strOfNums (quoteL (nums s)))) ∧ Below w.heap.size w w' := by
  have hlen := nums_length s
  go_enter Try.func26, Try.ntmps26
  go_wp2
  go_loopw [3, 4] (fun y x wr => ∃ k : Nat, k ≤ s.size ∧ x = .int .i64 k ∧ y = .string (strOfNums (quoteL ((nums s).take k))) ∧ Below w.heap.size w wr) (fun _ x _ => s.size - (intOf x).toNat)
  case atStart => exact ⟨0, by omega, by go_num, rfl, Below.refl _ w⟩
  case round =>
    obtain ⟨k, hk, rfl, rfl, hb⟩ := hrel
    have hBsz := hb.size
    rcases Nat.lt_or_ge k s.size with hk2 | hk2
    · obtain ⟨c, hc⟩ : ∃ c : Int, c = ((s[k]'hk2).toNat : Int) := ⟨_, rfl⟩
      have hcl : Hid (c = (nums s).getD k 0) := hid (by rw [hc, nums_at])
      have hcr : 0 ≤ c ∧ c ≤ 255 := by rw [show c = (nums s).getD k 0 from hcl]; exact nums_at_range s k
      obtain ⟨hc0, hc1⟩ := hcr
      have hq : Hid (quoteL ((nums s).take (k + 1)) = quoteL ((nums s).take k) ++ qOne c) := hid (by rw [quoteL_take _ _ (by omega), show c = (nums s).getD k 0 from hcl])
      have hql : (quoteL ((nums s).take k)).length ≤ 4 * s.size := Nat.le_trans (quoteL_len _) (by rw [List.length_take]; omega)
      have hone : s.extract k (k + 1) = strOfNums [c] := nums_inj (by
        rw [nums_extract, nums_str _ (by intro x hx; simp at hx; omega), show c = (nums s).getD k 0 from hcl, show k + 1 - k = 1 by omega, List.getD_eq_getElem?_getD, List.getElem?_eq_getElem (by omega : k < (nums s).length), List.drop_eq_getElem_cons (by omega : k < (nums s).length)]
        rfl)
      clear hcl
      replace hc := hc.symm
      cases hm : mayB c with
      | true =>
        have hq1 : Hid (qOne c = [c]) := hid (by unfold qOne; rw [hm]; rfl)
        have hsum : ¬ 9223372036854775807 < (strOfNums (quoteL ((nums s).take k))).size + (strOfNums [c]).size := by rw [str_size, str_size]; simp; omega
        go_wp2_with (go_at_call 35; refine (open_walk _ hc0 hc1 _).mono ?_; rintro e w' ⟨hw, rfl⟩; obtain rfl := hw.symm)
        go_roundw
        case rel => exact ⟨k + 1, by omega, by go_num, by rw [str_app, show _ = _ from hq, show _ = _ from hq1], hb⟩
        case measure => simp [intOf]; omega
      | false =>
        have hq1 : Hid (qOne c = codeL c) := hid (by unfold qOne; rw [hm]; rfl)
        have hsum : ¬ 9223372036854775807 < (strOfNums (quoteL ((nums s).take k))).size + (strOfNums (codeL c)).size := by rw [str_size, str_size]; simp [codeL]; omega
        go_wp2_with (first | (go_at_call 35; refine (open_walk _ hc0 hc1 _).mono ?_; rintro e w' ⟨hw, rfl⟩; obtain rfl := hw.symm) | (go_at_call 36; refine (code_walk _ hc0 hc1 _).mono ?_; rintro e w1 ⟨rfl, hb1⟩))
        go_roundw
        case rel => exact ⟨k + 1, by omega, by go_num, by rw [str_app, show _ = _ from hq, show _ = _ from hq1], hb.trans (hb1.mono hBsz)⟩
        case measure => simp [intOf]; omega
    · obtain rfl : k = s.size := by omega
      rw [List.take_of_length_le (by omega)]
      go_wp2
      go_ret
      exact ⟨rfl, hb⟩

end Go.Proofs.Ytikanaklkddopaa
