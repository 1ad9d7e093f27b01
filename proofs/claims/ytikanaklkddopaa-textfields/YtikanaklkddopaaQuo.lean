/-
  WHAT Quote GIVES, AS A FUNCTION OF THE TEXT's BYTES. No conditions but the length.
-/
import Derived.Test.YtikanaklkddopaaBld
namespace Go.Proofs.Ytikanaklkddopaa
open Go.Shelf Go.ChangeShapes Go.WideShapes Go.ChangeAt Go.RowKit
set_option linter.unusedVariables false

/-- may a byte stand as it is -/
def mayB (c : Int) : Bool := decide (33 ≤ c) && decide (c ≤ 126) && c != 92
def codeL (c : Int) : List Int := [92, 48 + c / 64, 48 + c / 8 % 8, 48 + c % 8]
def qOne (c : Int) : List Int := if mayB c then [c] else codeL c
def quoteL (l : List Int) : List Int := l.flatMap qOne

theorem nums_at (s : ByteArray) (k : Nat) (hk : k < s.size) : ((s[k]'hk).toNat : Int) = (nums s).getD k 0 := by
  have h' : k < s.data.toList.length := by rw [Array.length_toList]; exact hk
  unfold nums
  rw [List.getD_eq_getElem?_getD, List.getElem?_map, List.getElem?_eq_getElem h']
  rfl

theorem nums_at_range (s : ByteArray) (k : Nat) : 0 ≤ (nums s).getD k 0 ∧ (nums s).getD k 0 ≤ 255 := by
  rw [List.getD_eq_getElem?_getD]
  cases h : (nums s)[k]? with
  | none => simp
  | some x => exact nums_range s x (List.mem_of_getElem? h)

theorem quoteL_take (l : List Int) (k : Nat) (h : k < l.length) : quoteL (l.take (k + 1)) = quoteL (l.take k) ++ qOne (l.getD k 0) := by
  unfold quoteL
  rw [List.take_add_one, List.flatMap_append, List.getElem?_eq_getElem h, List.getD_eq_getElem?_getD, List.getElem?_eq_getElem h]
  simp

theorem codeL_range (c : Int) (h0 : 0 ≤ c) (h1 : c ≤ 255) : ∀ x ∈ codeL c, 0 ≤ x ∧ x ≤ 255 := by
  intro x hx
  simp [codeL] at hx
  omega

theorem qOne_range (c : Int) (h0 : 0 ≤ c) (h1 : c ≤ 255) : ∀ x ∈ qOne c, 0 ≤ x ∧ x ≤ 255 := by
  unfold qOne
  split
  · intro x hx; simp at hx; omega
  · exact codeL_range c h0 h1

theorem quoteL_range (l : List Int) (h : ∀ x ∈ l, 0 ≤ x ∧ x ≤ 255) : ∀ x ∈ quoteL l, 0 ≤ x ∧ x ≤ 255 := by
  intro x hx
  simp only [quoteL, List.mem_flatMap] at hx
  obtain ⟨c, hc, hx⟩ := hx
  exact qOne_range c (h c hc).1 (h c hc).2 x hx

theorem qOne_len (c : Int) : 1 ≤ (qOne c).length ∧ (qOne c).length ≤ 4 := by unfold qOne; split <;> simp [codeL]

theorem quoteL_len (l : List Int) : (quoteL l).length ≤ 4 * l.length := by
  induction l with
  | nil => simp [quoteL]
  | cons c r ih =>
    have := qOne_len c
    simp only [quoteL, List.flatMap_cons, List.length_append, List.length_cons] at ih ⊢
    omega

set_option maxHeartbeats 1000000 in
theorem may_walk (c : Int) (h0 : 0 ≤ c) (h1 : c ≤ 255) (w : World) : Calls Try.prog 37 #[.int .u8 c] w fun e w' => w' = w ∧ e = .returned (.bool (mayB c)) := by
  go_enter Try.func37, Try.ntmps37
  go_wp2
  all_goals go_ret
  all_goals exact ⟨rfl, ret_bool (by unfold mayB; first | (simp_all; done) | (simp_all; omega))⟩

set_option maxHeartbeats 1000000 in
theorem open_walk (c : Int) (h0 : 0 ≤ c) (h1 : c ≤ 255) (w : World) : Calls Try.prog 35 #[.int .u8 c] w fun e w' => w' = w ∧ e = .returned (.bool (mayB c)) := by
  go_enter Try.func35, Try.ntmps35
  go_wp2
  all_goals go_ret
  all_goals exact ⟨rfl, ret_bool (by unfold mayB; first | (simp_all; done) | (simp_all; omega))⟩

set_option maxHeartbeats 4000000 in
set_option maxRecDepth 10000 in
theorem quote_walk (s : ByteArray) (hs : s.size ≤ 17592186044416) (w : World) :
    Calls Try.prog 25 #[.string s] w fun e w' => e = .returned (.string (strOfNums (quoteL (nums s)))) ∧ Below w.heap.size w w' := by
  obtain ⟨B, hBw⟩ : ∃ B, B = w.heap.size := ⟨_, rfl⟩
  have hlen := nums_length s
  have hr := nums_range s
  go_enter Try.func25, Try.ntmps25
  go_wp2
  go_loopw [8] (fun x wr => ∃ k : Nat, k ≤ s.size ∧ x = .int .i64 k ∧ Bld w.heap.size w.heap.size (quoteL ((nums s).take k)) wr ∧ Below w.heap.size w wr) (fun x _ => s.size - (intOf x).toNat)
  case atStart => exact ⟨0, by omega, by go_num, Bld.fresh w _ (Nat.le_refl _), (Below.refl _ w).alloc (Nat.le_refl _) _⟩
  case round =>
    obtain ⟨k, hk, rfl, hB, hb⟩ := hrel
    have hBsz := hb.size
    rcases Nat.lt_or_ge k s.size with hk2 | hk2
    · obtain ⟨c, hc⟩ : ∃ c : Int, c = ((s[k]'hk2).toNat : Int) := ⟨_, rfl⟩
      have hcl : Hid (c = (nums s).getD k 0) := hid (by rw [hc, nums_at])
      have hcr : 0 ≤ c ∧ c ≤ 255 := by rw [show c = (nums s).getD k 0 from hcl]; exact nums_at_range s k
      obtain ⟨hc0, hc1⟩ := hcr
      have hq : Hid (quoteL ((nums s).take (k + 1)) = quoteL ((nums s).take k) ++ qOne c) := hid (by rw [quoteL_take _ _ (by omega), show c = (nums s).getD k 0 from hcl])
      have hql : (quoteL ((nums s).take k)).length ≤ 4 * s.size := Nat.le_trans (quoteL_len _) (by rw [List.length_take]; omega)
      clear hcl
      replace hc := hc.symm
      cases hm : mayB c with
      | true =>
        have hq1 : Hid (qOne c = [c]) := hid (by unfold qOne; rw [hm]; rfl)
        go_wp2_with (first | (go_at_call 37; refine (may_walk _ hc0 hc1 _).mono ?_; rintro e w' ⟨hw, rfl⟩; obtain rfl := hw.symm) | (go_at_call 33; refine (wbyte _ hB (by omega) hBsz).mono ?_; rintro e w1 ⟨rfl, hB1, hb1⟩))
        go_roundw
        case rel => exact ⟨k + 1, by omega, by go_num, by rw [show _ = _ from hq, show _ = _ from hq1]; exact hB1, hb.trans hb1⟩
        case measure => simp [intOf]; omega
      | false =>
        have hq1 : Hid (qOne c = codeL c) := hid (by unfold qOne; rw [hm]; rfl)
        have hsrc := bys_lit (w := wr) 5 (codeL c) (by simp [codeL]) (codeL_range c hc0 hc1)
        have hBa := hB.alloc (.cells (u8s (codeL c)).toArray 5)
        have hlt := hB.lt
        go_wp2_with (first | (go_at_call 37; refine (may_walk _ hc0 hc1 _).mono ?_; rintro e w' ⟨hw, rfl⟩; obtain rfl := hw.symm) | (go_at_call 38; refine (wbytes hBa hsrc (Nat.succ_pos 3) (Nat.ne_of_gt hlt) (by simp [codeL]; omega) (by simp; omega)).mono ?_; rintro e w1 ⟨rfl, hB1, hb1⟩))
        go_roundw
        case rel => exact ⟨k + 1, by omega, by go_num, by rw [show _ = _ from hq, show _ = _ from hq1]; exact hB1, (hb.alloc hBsz _).trans hb1⟩
        case measure => simp [intOf]; omega
    · obtain rfl : k = s.size := by omega
      rw [List.take_of_length_le (by omega)] at hB
      go_wp2_with (go_at_call 34; refine (bstring hB (quoteL_range _ hr)).mono ?_; rintro e w1 ⟨rfl, hb1⟩)
      go_ret
      exact ⟨rfl, hb.trans hb1⟩

end Go.Proofs.Ytikanaklkddopaa
