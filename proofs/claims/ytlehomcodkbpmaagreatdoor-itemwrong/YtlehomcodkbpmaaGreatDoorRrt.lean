/-
  THE DOCUMENT's WORD ON PAIRS: whether a pair is right. Conditions: how many bytes its texts may have.
-/
import Derived.Test.YtlehomcodkbpmaaGreatDoorWhi
import Derived.Test.YtlehomcodkbpmaaGreatDoorEnds
import Derived.Test.YtlehomcodkbpmaaGreatDoorRtm
namespace Go.Proofs.YtlehomcodkbpmaaGreatDoor
open Go.ChangeShapes Go.WideShapes Go.ChangeAt Go.RowKit Go.Lib
set_option linter.unusedVariables false
set_option maxRecDepth 20000

theorem time_res (l : List UInt8) : timeOf l = resOf (decide (l.head? = some 45)) (valueOf (if l.head? = some 45 then l.tail else l)) := by
  unfold timeOf resOf
  cases valueOf (if l.head? = some 45 then l.tail else l) with
  | none => rfl
  | some q => obtain ⟨u, p⟩ := q; simp only [decide_eq_true_eq]
theorem rtime_any (s : ByteArray) (hs : s.size ≤ 281474976710656) (w : World) (a b : Int) (ok : Bool)
    (h : timeOf (bs s) = some (a, b) ∧ ok = true ∨ timeOf (bs s) = none ∧ a = 0 ∧ b = 0 ∧ ok = false) :
    Calls Tryz.prog 62 #[.string s] w fun e w' => e = .returned (.tuple #[.agg #[.int .i64 a, .int .i64 b], .bool ok]) ∧ Below w.heap.size w w' := by
  rw [time_res] at h
  by_cases hm : (bs s).head? = some 45
  · rw [if_pos hm, decide_eq_true hm] at h
    exact rtime_m s hs hm w a b ok (hid h)
  · rw [if_neg hm, decide_eq_false hm] at h
    exact rtime_p s hs hm w a b ok (hid h)

/-- the document's test at the first calls: what makes it false -/
theorem right_false (k v : List UInt8) (h : k = [] ∨ ¬ firstL k < 0 ∨ ¬ firstL v < 0 ∨ has 0 k = true ∨ has 61 k = true) : rightP k v = false := by
  unfold rightP keyR
  rcases h with rfl | h | h | h | h
  · rfl
  · simp [h]
  · simp [h]
  · simp [h]
  · simp [h]
theorem right_rest (k v : List UInt8) (h1 : k ≠ []) (h2 : firstL k < 0) (h3 : firstL v < 0) (h4 : has 0 k = false) (h5 : has 61 k = false) : rightP k v = (decide (v = []) || holdK (kindK k) v) := by
  unfold rightP keyR
  simp [h1, h2, h3, h4, h5]

set_option maxHeartbeats 4000000 in
theorem rr_false (k v : ByteArray) (hk : k.size ≤ 1000000) (hv : v.size ≤ 1000000) (w : World) (h : bs k = [] ∨ ¬ firstL (bs k) < 0 ∨ ¬ firstL (bs v) < 0 ∨ has 0 (bs k) = true) :
    Calls Tryz.prog 50 #[.agg #[.string k, .string v]] w fun e w' => e = .returned (.bool false) ∧ Below w.heap.size w w' := by
  have hb0 := (Below.refl w.heap.size w).alloc (Nat.le_refl _) (.cells #[.string k, .string v] 39)
  have hf1 := rfirst_walk k hk
  have hf2 := rfirst_walk v hv
  have hcl := rclean_walk k hk
  rw [clean_has] at hcl
  have hz : k.toList.isEmpty = decide (bs k = []) := is_nil k
  change _ ∨ ¬ firstL k.data.toList < 0 ∨ ¬ firstL v.data.toList < 0 ∨ _ at h
  generalize firstL k.data.toList = f1 at *
  generalize firstL v.data.toList = f2 at *
  generalize has 0 (bs k) = h0 at *
  by_cases a1 : bs k = []
  · rw [decide_eq_true a1] at hz
    obtain rfl : k = ⟨#[]⟩ := by rw [← txt_bs k, a1]; rfl
    clear a1 h hz
    go_enter Tryz.func50, Tryz.ntmps50
    go_wp2
    all_goals go_ret
    all_goals exact ⟨rfl, hb0⟩
  rw [decide_eq_false a1] at hz
  by_cases a2 : f1 < 0
  · have a2' : ¬ 0 ≤ f1 := by omega
    by_cases a3 : f2 < 0
    · have a3' : ¬ 0 ≤ f2 := by omega
      obtain rfl : h0 = true := by
        rcases h with h | h | h | h
        · exact absurd h a1
        · exact absurd a2 h
        · exact absurd a3 h
        · exact h
      clear h a1 a2 a3
      go_enter Tryz.func50, Tryz.ntmps50
      go_wp2_with (first
        | (go_at_call 60; refine (hf1 _).mono ?_; rintro e w1 ⟨rfl, hb1⟩; obtain ⟨c0, c1⟩ := two_cells hb1; have hacc := hb0.trans (hb1.mono hb0.size); clear hf1)
        | (go_at_call 60; refine (hf2 _).mono ?_; rintro e w2 ⟨rfl, hb2⟩; replace hacc := hacc.trans (hb2.mono hacc.size); replace c0 := cell_later hb2 c0; replace c1 := cell_later hb2 c1; clear hf2)
        | (go_at_call 49; refine (hcl _).mono ?_; rintro e w3 ⟨rfl, hb3⟩; replace hacc := hacc.trans (hb3.mono hacc.size)))
      all_goals go_ret
      all_goals exact ⟨rfl, hacc⟩
    · have a3' : 0 ≤ f2 := by omega
      clear h a1 a2 a3
      go_enter Tryz.func50, Tryz.ntmps50
      go_wp2_with (first
        | (go_at_call 60; refine (hf1 _).mono ?_; rintro e w1 ⟨rfl, hb1⟩; obtain ⟨c0, c1⟩ := two_cells hb1; have hacc := hb0.trans (hb1.mono hb0.size); clear hf1)
        | (go_at_call 60; refine (hf2 _).mono ?_; rintro e w2 ⟨rfl, hb2⟩; replace hacc := hacc.trans (hb2.mono hacc.size); clear hf2))
      all_goals go_ret
      all_goals exact ⟨rfl, hacc⟩
  · have a2' : 0 ≤ f1 := by omega
    clear h a1 a2
    go_enter Tryz.func50, Tryz.ntmps50
    go_wp2_with (go_at_call 60; refine (hf1 _).mono ?_; rintro e w1 ⟨rfl, hb1⟩; have hacc := hb0.trans (hb1.mono hb0.size); clear hf1)
    all_goals go_ret
    all_goals exact ⟨rfl, hacc⟩

end Go.Proofs.YtlehomcodkbpmaaGreatDoor
