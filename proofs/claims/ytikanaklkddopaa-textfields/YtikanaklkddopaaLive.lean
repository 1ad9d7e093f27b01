/-
  THE CHAPTER's EXAMPLE: what is quoted is unquoted, in lists of bytes; the statements' own 'alive' answers true. No conditions.
-/
import Derived.Test.YtikanaklkddopaaUnq
namespace Go.Proofs.Ytikanaklkddopaa
open Go.Shelf Go.ChangeShapes Go.WideShapes Go.ChangeAt Go.RowKit
set_option linter.unusedVariables false

theorem codedL_code (c : Int) (h0 : 0 ≤ c) (h1 : c ≤ 255) (r : List Int) : codedL (codeL c ++ r) = (c, true) := by
  have hv : valL (48 + c / 64) (48 + c / 8 % 8) (48 + c % 8) = c := by unfold valL; omega
  simp only [codeL, List.cons_append, List.nil_append, codedL, hv]
  have ha : digB (48 + c / 64) = true := by simp only [digB, Bool.and_eq_true, decide_eq_true_eq]; omega
  have hb : digB (48 + c / 8 % 8) = true := by simp only [digB, Bool.and_eq_true, decide_eq_true_eq]; omega
  have hd : digB (48 + c % 8) = true := by simp only [digB, Bool.and_eq_true, decide_eq_true_eq]; omega
  rw [if_pos ⟨trivial, ha, hb, hd, h1⟩]

theorem firstL_one (c : Int) (h0 : 0 ≤ c) (h1 : c ≤ 255) (r : List Int) : firstL (qOne c ++ r) = (c, (qOne c).length) := by
  cases hm : mayB c with
  | true => simp [firstL, qOne, hm]
  | false =>
    have hq : qOne c = codeL c := by simp [qOne, hm]
    have h92 : mayB ((codeL c ++ r).getD 0 0) = false := by simp [codeL, mayB]
    rw [hq]
    unfold firstL
    rw [h92, codedL_code c h0 h1 r]
    simp [hm, codeL]

theorem unquote_quote (l : List Int) (h : ∀ x ∈ l, 0 ≤ x ∧ x ≤ 255) : unquoteL (quoteL l) = some l := by
  induction l with
  | nil => exact unquoteL_nil
  | cons c r ih =>
    have hc := h c (by simp)
    have hf := firstL_one c hc.1 hc.2 (quoteL r)
    have hq : quoteL (c :: r) = qOne c ++ quoteL r := by simp [quoteL]
    have hl := qOne_len c
    rw [hq, unquoteL_some (by intro e; rw [(List.append_eq_nil_iff.1 e).1] at hl; simp at hl) (by rw [hf]; show (qOne c).length ≠ 0; omega), hf]
    simp only [List.drop_left]
    rw [ih (fun x hx => h x (by simp [hx]))]
    rfl

theorem quote_inj {l k : List Int} (hl : ∀ x ∈ l, 0 ≤ x ∧ x ≤ 255) (hk : ∀ x ∈ k, 0 ≤ x ∧ x ≤ 255) (h : quoteL l = quoteL k) : l = k := by
  have h1 := unquote_quote l hl
  rw [h, unquote_quote k hk] at h1
  exact (Option.some.inj h1).symm

theorem plain_nums : nums ⟨#[32, 92, 97]⟩ = [32, 92, 97] := by decide
theorem quoted_nums : nums ⟨#[92, 48, 52, 48, 92, 49, 51, 52, 97]⟩ = quoteL [32, 92, 97] := by decide
theorem live_quote : strOfNums (quoteL (nums ⟨#[32, 92, 97]⟩)) = ⟨#[92, 48, 52, 48, 92, 49, 51, 52, 97]⟩ := by decide
theorem live_unquote : unquoteL (nums ⟨#[92, 48, 52, 48, 92, 49, 51, 52, 97]⟩) = some [32, 92, 97] := by
  rw [quoted_nums]; exact unquote_quote _ (by intro x hx; simp at hx; omega)
theorem live_str : unqS (some [32, 92, 97]) = ⟨#[32, 92, 97]⟩ := by decide

set_option maxHeartbeats 4000000 in
theorem alive_walk (w : World) : Calls Try.prog 7 #[] w fun e w' => e = .returned (.bool true) ∧ Below w.heap.size w w' := by
  have hu := unquote_walk ⟨#[92, 48, 52, 48, 92, 49, 51, 52, 97]⟩ (by decide) w
  rw [live_unquote, live_str, show unqC (some [32, 92, 97]) = 0 from rfl] at hu
  have hqq := fun w => quote_walk ⟨#[32, 92, 97]⟩ (by decide) w
  rw [live_quote] at hqq
  go_enter Try.func7, Try.ntmps7
  go_wp2_with (first | (go_at_call 23; refine hu.mono ?_; rintro e w1 ⟨rfl, hb1⟩) | (go_at_call 25; refine (hqq _).mono ?_; rintro e w2 ⟨rfl, hb2⟩))
  go_ret
  exact ⟨rfl, hb1.trans (hb2.mono hb1.size)⟩

end Go.Proofs.Ytikanaklkddopaa
