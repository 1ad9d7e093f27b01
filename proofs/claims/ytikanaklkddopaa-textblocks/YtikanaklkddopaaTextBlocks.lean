/-
  TextBlocks RETURNS TRUE FOR EVERY n: how many blocks n bytes take and how many noughts stand behind. No conditions.
-/
import Derived.Test.YtikanaklkddopaaRows
import Derived.Test.YtikanaklkddopaaLive
import Derived.WalkKit
import Derived.ProofKit
import Derived.OpenShut
import Derived.Below
import Derived.ShutString
namespace Go.Proofs.Ytikanaklkddopaa.textBlocks
open Go.ChangeShapes Go.WideShapes Go.ChangeAt Go.RowKit
open Go.ChangeMaps (open_string shut_string)
set_option linter.unusedVariables false

theorem own : ownKnob Try.prog.godebug = none := by kernel_rfl

def blk (n : Int) : Int := if n < 0 then 0 else n / 512 + (if 0 < n % 512 then 1 else 0)
def rst (n : Int) : Int := if n < 0 ∨ n % 512 = 0 then 0 else 512 - n % 512

theorem blk_neg {n : Int} (h : n < 0) : blk n = 0 := by unfold blk; rw [if_pos h]
theorem blk_up {n : Int} (h : 0 ≤ n) (h' : 0 < n % 512) : blk n = n / 512 + 1 := by unfold blk; rw [if_neg (by omega), if_pos h']
theorem blk_even {n : Int} (h : 0 ≤ n) (h' : n % 512 = 0) : blk n = n / 512 := by unfold blk; rw [if_neg (by omega), if_neg (by omega)]; omega
theorem rst_zero {n : Int} (h : n < 0 ∨ n % 512 = 0) : rst n = 0 := by unfold rst; rw [if_pos h]
theorem rst_more {n : Int} (h : 0 ≤ n) (h' : ¬ n % 512 = 0) : rst n = 512 - n % 512 := by unfold rst; rw [if_neg (by omega)]

set_option maxHeartbeats 1000000 in
theorem blocks_walk (n : Int) (h0 : -9223372036854775808 ≤ n) (h1 : n ≤ 9223372036854775807) (w : World) : Calls Try.prog 19 #[.int .i64 n] w fun e w' => w' = w ∧ e = .returned (.int .i64 (blk n)) := by
  by_cases hn : n < 0
  · have hm : max n 0 = 0 := by omega
    rw [blk_neg hn]
    go_enter Try.func19, Try.ntmps19
    go_wp2
    all_goals go_ret
    all_goals exact ⟨rfl, rfl⟩
  · have hm : max n 0 = n := by omega
    by_cases hr : n % 512 = 0
    · rw [blk_even (by omega) hr]
      go_enter Try.func19, Try.ntmps19
      go_wp2
      all_goals go_ret
      all_goals exact ⟨rfl, rfl⟩
    · have hr' : 0 < n % 512 := by omega
      rw [blk_up (by omega) hr']
      go_enter Try.func19, Try.ntmps19
      go_wp2
      all_goals go_ret
      all_goals exact ⟨rfl, rfl⟩

set_option maxHeartbeats 1000000 in
theorem rest_walk (n : Int) (h0 : -9223372036854775808 ≤ n) (h1 : n ≤ 9223372036854775807) (w : World) : Calls Try.prog 20 #[.int .i64 n] w fun e w' => w' = w ∧ e = .returned (.int .i64 (rst n)) := by
  by_cases hn : n < 0
  · have hm : max n 0 = 0 := by omega
    rw [rst_zero (.inl hn)]
    go_enter Try.func20, Try.ntmps20
    go_wp2
    all_goals go_ret
    all_goals exact ⟨rfl, rfl⟩
  · have hm : max n 0 = n := by omega
    by_cases hr : n % 512 = 0
    · rw [rst_zero (.inr hr)]
      go_enter Try.func20, Try.ntmps20
      go_wp2
      all_goals go_ret
      all_goals exact ⟨rfl, rfl⟩
    · rw [rst_more (by omega) hr]
      go_enter Try.func20, Try.ntmps20
      go_wp2
      all_goals go_ret
      all_goals exact ⟨rfl, rfl⟩

set_option maxHeartbeats 1000000 in
theorem rblocks_walk (n : Int) (h0 : -9223372036854775808 ≤ n) (h1 : n ≤ 9223372036854775807) (w : World) : Calls Try.prog 21 #[.int .i64 n] w fun e w' => w' = w ∧ e = .returned (.int .i64 (blk n)) := by
  by_cases hn : n < 0
  · rw [blk_neg hn]
    go_enter Try.func21, Try.ntmps21
    go_wp2
    all_goals go_ret
    all_goals exact ⟨rfl, rfl⟩
  · by_cases hr : n % 512 = 0
    · rw [blk_even (by omega) hr]
      go_enter Try.func21, Try.ntmps21
      go_wp2
      all_goals go_ret
      all_goals exact ⟨rfl, rfl⟩
    · have hr' : 0 < n % 512 := by omega
      rw [blk_up (by omega) hr']
      go_enter Try.func21, Try.ntmps21
      go_wp2
      all_goals go_ret
      all_goals exact ⟨rfl, rfl⟩

set_option maxHeartbeats 1000000 in
theorem rrest_walk (n : Int) (h0 : -9223372036854775808 ≤ n) (h1 : n ≤ 9223372036854775807) (w : World) : Calls Try.prog 22 #[.int .i64 n] w fun e w' => w' = w ∧ e = .returned (.int .i64 (rst n)) := by
  by_cases hn : n < 0
  · rw [rst_zero (.inl hn)]
    go_enter Try.func22, Try.ntmps22
    go_wp2
    all_goals go_ret
    all_goals exact ⟨rfl, rfl⟩
  · by_cases hr : n % 512 = 0
    · rw [rst_zero (.inr hr)]
      go_enter Try.func22, Try.ntmps22
      go_wp2
      all_goals go_ret
      all_goals exact ⟨rfl, rfl⟩
    · rw [rst_more (by omega) hr]
      go_enter Try.func22, Try.ntmps22
      go_wp2
      all_goals go_ret
      all_goals exact ⟨rfl, rfl⟩

set_option maxHeartbeats 2000000 in
set_option maxRecDepth 10000 in

theorem walk (a0 : Int) (w0 : (Lit.int .i64 a0).wf = true) (w : World) :
    Calls Try.prog 4 #[.int .i64 a0] w fun e w' => e = .returned (.bool true) ∧ Below w.heap.size w w' := by
  obtain ⟨h0, h1⟩ : -9223372036854775808 ≤ a0 ∧ a0 ≤ 9223372036854775807 := by have := w0; simp [Lit.wf] at this; exact this
  have hk : 0 ≤ blk a0 ∧ blk a0 ≤ 18014398509481984 := by unfold blk; split <;> (try split) <;> omega
  have hr : 0 ≤ rst a0 ∧ rst a0 < 512 := by unfold rst; split <;> omega
  have hsum : ¬ a0 < 0 → a0 + rst a0 = 512 * blk a0 := by
    intro hn
    unfold rst blk
    rw [if_neg hn]
    split <;> split <;> omega
  have hb := fun w => blocks_walk a0 h0 h1 w
  have hre := fun w => rest_walk a0 h0 h1 w
  have hrb := fun w => rblocks_walk a0 h0 h1 w
  have hrr := fun w => rrest_walk a0 h0 h1 w
  generalize blk a0 = k at *
  generalize rst a0 = r at *
  by_cases hn : a0 < 0
  · go_enter Try.func4, Try.ntmps4
    go_wp2_with (first | (go_at_call 7; refine (alive_walk _).mono ?_; rintro e w1 ⟨rfl, hb1⟩) | (go_at_call 19; refine (hb _).mono ?_; rintro e w' ⟨hw, rfl⟩; obtain rfl := hw.symm) | (go_at_call 20; refine (hre _).mono ?_; rintro e w' ⟨hw, rfl⟩; obtain rfl := hw.symm) | (go_at_call 21; refine (hrb _).mono ?_; rintro e w' ⟨hw, rfl⟩; obtain rfl := hw.symm) | (go_at_call 22; refine (hrr _).mono ?_; rintro e w' ⟨hw, rfl⟩; obtain rfl := hw.symm))
    all_goals go_ret
    all_goals exact ⟨rfl, hb1⟩
  · have hs := hsum hn
    by_cases hbig : a0 ≤ 1152921504606846976
    · go_enter Try.func4, Try.ntmps4
      go_wp2_with (first | (go_at_call 7; refine (alive_walk _).mono ?_; rintro e w1 ⟨rfl, hb1⟩) | (go_at_call 19; refine (hb _).mono ?_; rintro e w' ⟨hw, rfl⟩; obtain rfl := hw.symm) | (go_at_call 20; refine (hre _).mono ?_; rintro e w' ⟨hw, rfl⟩; obtain rfl := hw.symm) | (go_at_call 21; refine (hrb _).mono ?_; rintro e w' ⟨hw, rfl⟩; obtain rfl := hw.symm) | (go_at_call 22; refine (hrr _).mono ?_; rintro e w' ⟨hw, rfl⟩; obtain rfl := hw.symm))
      all_goals go_ret
      all_goals exact ⟨rfl, hb1⟩
    · go_enter Try.func4, Try.ntmps4
      go_wp2_with (first | (go_at_call 7; refine (alive_walk _).mono ?_; rintro e w1 ⟨rfl, hb1⟩) | (go_at_call 19; refine (hb _).mono ?_; rintro e w' ⟨hw, rfl⟩; obtain rfl := hw.symm) | (go_at_call 20; refine (hre _).mono ?_; rintro e w' ⟨hw, rfl⟩; obtain rfl := hw.symm) | (go_at_call 21; refine (hrb _).mono ?_; rintro e w' ⟨hw, rfl⟩; obtain rfl := hw.symm) | (go_at_call 22; refine (hrr _).mono ?_; rintro e w' ⟨hw, rfl⟩; obtain rfl := hw.symm))
      all_goals go_ret
      all_goals exact ⟨rfl, hb1⟩

set_option maxRecDepth 100000 in
theorem lifted (os : Os) (started : os.Started) (H : Type) (enc : TypeId × Value → H) :
    ReturnsInHanded {} Try.checked os 4 .any (Rows.textBlocksSpec.pre6 enc Try.prog Try.f4 Rows.textBlocksRow.domain false) (Rows.textBlocksSpec.post enc Try.prog Try.f4 false true false false) := by
  refine returnsInHanded_of_change (C := Try.checked) own started (by kernel_rfl) Try.func4
    (ChangeSpec.witness6 (enc := enc) (C := Try.checked) false ⟨#[], #[.int .i64 0], []⟩ 8 (by kernel_rfl) (by kernel_rfl) (by kernel_rfl) (by kernel_rfl)) ?_
  intro W base args ds gs before hval0 hW hcnd _
  have hval : ∀ (j : Nat) t v, Try.f4.params[j]? = some t → args[j]? = some v → Value.okWide Try.prog W .any base t v := hval0
  have hW' := hW
  obtain ⟨p, q, hA0, hV, rfl, hfz, hnd⟩ := hW
  have hA : DataW.TrodAll enc Try.prog W 0 (fun _ => true) true Try.f4.params.toList args.toList ds p := hA0
  rw [Try.params4] at hA hval
  obtain ⟨v0, vs0, d0, ds0, p0, q0, hargs, rfl, rfl, h0, r0⟩ := trodAll_cons hA
  obtain ⟨rfl, rfl, rfl⟩ := trodAll_nil r0
  obtain rfl : args = #[v0] := by cases args; simp_all
  obtain ⟨rfl, rfl⟩ := trodVars_none hV
  obtain ⟨a0, rfl, rfl, rfl, w0⟩ := open_int Try.underlying2 (hval 0 2 v0 rfl rfl) h0
  clear hA0 hval0
  simp only [List.append_nil] at hW'
  refine (walk a0 w0 W).mono fun e W' ⟨he, hg⟩ => ?_
  subst he
  exact ⟨_, rfl, _, _, _, [], _, [], hW', (trodAll_cons_mk (shut_bool Try.underlying4 _) trodAll_mk0), (trodAll_cons_mk (shut_int Try.underlying2 w0) trodAll_mk0), rfl, hg.frame _, fun h => by cases h⟩

theorem over : Rows.textBlocksRow.holds Try.pinned (OpenSpec.ofChange Rows.textBlocksSpec) :=
  OpenClaim.holds_of_wide 4 Try.f4 rfl rfl rfl rfl rfl rfl rfl ⟨rfl, rfl, rfl, rfl, rfl⟩ rfl rfl rfl rfl rfl (by kernel_rfl) Try.func4 (by kernel_rfl)
    (of_decide_eq_true (by kernel_rfl)) (by unfold Func.isWrapper; first | (rw [if_pos (by decide +kernel)]; kernel_rfl) | (rw [if_neg (by decide +kernel)]; exact ⟨rfl, rfl⟩))
    (fun os started H enc _ => lifted os started H enc)

theorem proved : Rows.TextBlocksSaid :=
  over
end Go.Proofs.Ytikanaklkddopaa.textBlocks
