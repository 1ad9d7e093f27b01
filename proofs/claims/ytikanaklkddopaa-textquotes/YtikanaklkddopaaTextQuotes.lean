/-
  TextQuotes RETURNS TRUE FOR EVERY s AND t: how a text is quoted, and what a text is, unquoted, or that it is none. No conditions.
-/
import Derived.Test.YtikanaklkddopaaRows
import Derived.Test.YtikanaklkddopaaRu
import Derived.WalkKit
import Derived.ProofKit
import Derived.OpenShut
import Derived.Below
import Derived.ShutString
namespace Go.Proofs.Ytikanaklkddopaa.textQuotes
open Go.ChangeShapes Go.WideShapes Go.ChangeAt Go.RowKit
open Go.ChangeMaps (open_string shut_string)
set_option linter.unusedVariables false

theorem own : ownKnob Try.prog.godebug = none := by kernel_rfl

set_option maxHeartbeats 4000000 in
set_option maxRecDepth 10000 in

theorem walk (a0 : ByteArray) (a1 : ByteArray) (w0 : a0.size ≤ maxLen) (w1 : a1.size ≤ maxLen) (w : World) :
    Calls Try.prog 5 #[.string a0, .string a1] w fun e w' => e = .returned (.bool true) ∧ Below w.heap.size w w' := by
  by_cases hbig : a0.size ≤ 1000 ∧ a1.size ≤ 1000
  · obtain ⟨hb0, hb1⟩ := hbig
    have hq := fun w => quote_walk a0 (by omega) w
    have hrq := fun w => rquote_walk a0 (by omega) w
    have hu := fun w => unquote_walk a1 (by omega) w
    have hru := fun w => runquote_walk a1 (by omega) w
    generalize strOfNums (quoteL (nums a0)) = x at *
    have hxx : (x.toList == x.toList) = true := by simp
    cases hun : unquoteL (nums a1) with
    | none =>
      rw [hun] at hu hru
      have hc : unqC none = 15 := rfl
      rw [hc] at hu
      go_enter Try.func5, Try.ntmps5
      go_wp2_with (first | (go_at_call 7; refine (alive_walk _).mono ?_; rintro e w1 ⟨rfl, hw1⟩) | (go_at_call 23; refine (hu _).mono ?_; rintro e w2 ⟨rfl, hw2⟩) | (go_at_call 24; refine (hru _).mono ?_; rintro e w3 ⟨rfl, hw3⟩) | (go_at_call 25; refine (hq _).mono ?_; rintro e w4 ⟨rfl, hw4⟩) | (go_at_call 26; refine (hrq _).mono ?_; rintro e w5 ⟨rfl, hw5⟩))
      all_goals go_ret
      have b2 := hw1.trans (hw2.mono hw1.size)
      have b3 := b2.trans (hw3.mono b2.size)
      have b4 := b3.trans (hw4.mono b3.size)
      exact ⟨rfl, b4.trans (hw5.mono b4.size)⟩
    | some l =>
      rw [hun] at hu hru
      have hc : unqC (some l) = 0 := rfl
      rw [hc] at hu
      generalize unqS (some l) = y at *
      go_enter Try.func5, Try.ntmps5
      go_wp2_with (first | (go_at_call 7; refine (alive_walk _).mono ?_; rintro e w1 ⟨rfl, hw1⟩) | (go_at_call 23; refine (hu _).mono ?_; rintro e w2 ⟨rfl, hw2⟩) | (go_at_call 24; refine (hru _).mono ?_; rintro e w3 ⟨rfl, hw3⟩) | (go_at_call 25; refine (hq _).mono ?_; rintro e w4 ⟨rfl, hw4⟩) | (go_at_call 26; refine (hrq _).mono ?_; rintro e w5 ⟨rfl, hw5⟩))
      all_goals go_ret
      have b2 := hw1.trans (hw2.mono hw1.size)
      have b3 := b2.trans (hw3.mono b2.size)
      have b4 := b3.trans (hw4.mono b3.size)
      exact ⟨rfl, b4.trans (hw5.mono b4.size)⟩
  · go_enter Try.func5, Try.ntmps5
    go_wp2_with (go_at_call 7; refine (alive_walk _).mono ?_; rintro e w1 ⟨rfl, hw1⟩)
    all_goals go_ret
    all_goals exact ⟨rfl, hw1⟩

set_option maxRecDepth 100000 in
theorem lifted (os : Os) (started : os.Started) (H : Type) (enc : TypeId × Value → H) :
    ReturnsInHanded {} Try.checked os 5 .any (Rows.textQuotesSpec.pre6 enc Try.prog Try.f5 Rows.textQuotesRow.domain false) (Rows.textQuotesSpec.post enc Try.prog Try.f5 false true false false) := by
  refine returnsInHanded_of_change (C := Try.checked) own started (by kernel_rfl) Try.func5
    (ChangeSpec.witness6 (enc := enc) (C := Try.checked) false ⟨#[], #[.string ByteArray.empty, .string ByteArray.empty], []⟩ 8 (by kernel_rfl) (by kernel_rfl) (by kernel_rfl) (by kernel_rfl)) ?_
  intro W base args ds gs before hval0 hW hcnd _
  have hval : ∀ (j : Nat) t v, Try.f5.params[j]? = some t → args[j]? = some v → Value.okWide Try.prog W .any base t v := hval0
  have hW' := hW
  obtain ⟨p, q, hA0, hV, rfl, hfz, hnd⟩ := hW
  have hA : DataW.TrodAll enc Try.prog W 0 (fun _ => true) true Try.f5.params.toList args.toList ds p := hA0
  rw [Try.params5] at hA hval
  obtain ⟨v0, vs0, d0, ds0, p0, q0, hargs, rfl, rfl, h0, r0⟩ := trodAll_cons hA
  obtain ⟨v1, vs1, d1, ds1, p1, q1, rfl, rfl, rfl, h1, r1⟩ := trodAll_cons r0
  obtain ⟨rfl, rfl, rfl⟩ := trodAll_nil r1
  obtain rfl : args = #[v0, v1] := by cases args; simp_all
  obtain ⟨rfl, rfl⟩ := trodVars_none hV
  obtain ⟨a0, rfl, rfl, rfl, w0⟩ := open_string Try.underlying9 (hval 0 9 v0 rfl rfl) h0
  obtain ⟨a1, rfl, rfl, rfl, w1⟩ := open_string Try.underlying9 (hval 1 9 v1 rfl rfl) h1
  clear hA0 hval0
  simp only [List.append_nil] at hW'
  refine (walk a0 a1 w0 w1 W).mono fun e W' ⟨he, hg⟩ => ?_
  subst he
  exact ⟨_, rfl, _, _, _, [], _, [], hW', (trodAll_cons_mk (shut_bool Try.underlying4 _) trodAll_mk0), (trodAll_cons_mk (shut_string Try.underlying9 w0) (trodAll_cons_mk (shut_string Try.underlying9 w1) trodAll_mk0)), rfl, hg.frame _, fun h => by cases h⟩

theorem over : Rows.textQuotesRow.holds Try.pinned (OpenSpec.ofChange Rows.textQuotesSpec) :=
  OpenClaim.holds_of_wide 5 Try.f5 rfl rfl rfl rfl rfl rfl rfl ⟨rfl, rfl, rfl, rfl, rfl⟩ rfl rfl rfl rfl rfl (by kernel_rfl) Try.func5 (by kernel_rfl)
    (of_decide_eq_true (by kernel_rfl)) (by unfold Func.isWrapper; first | (rw [if_pos (by decide +kernel)]; kernel_rfl) | (rw [if_neg (by decide +kernel)]; exact ⟨rfl, rfl⟩))
    (fun os started H enc _ => lifted os started H enc)

theorem proved : Rows.TextQuotesSaid :=
  over
end Go.Proofs.Ytikanaklkddopaa.textQuotes
