/-
  TextBack RETURNS TRUE FOR EVERY s, t AND w: what is put is got, what is quoted is unquoted, unlike texts are quoted unlike. No conditions.
-/
import Derived.Test.YtikanaklkddopaaRows
import Derived.Test.YtikanaklkddopaaRu
import Derived.Test.YtikanaklkddopaaFld
import Derived.WalkKit
import Derived.ProofKit
import Derived.OpenShut
import Derived.Below
import Derived.ShutString
namespace Go.Proofs.Ytikanaklkddopaa.textBack
open Go.ChangeShapes Go.WideShapes Go.ChangeAt Go.RowKit
open Go.ChangeMaps (open_string shut_string)
set_option linter.unusedVariables false

theorem own : ownKnob Try.prog.godebug = none := by kernel_rfl

theorem upto_clean {l : List Int} (h : cleanB l = true) : upto l = l := by
  have h1 : (upto l).length = l.length := by simpa [cleanB] using h
  have h2 := upto_take l
  rw [h1, List.take_length] at h2
  exact h2.symm

theorem upto_noughts (l : List Int) (k : Nat) (h : upto l = l) : upto (l ++ List.replicate k 0) = l := by
  induction l with
  | nil => cases k <;> simp [upto, List.replicate_succ]
  | cons c r ih =>
    by_cases hc : c = 0
    · subst hc; simp [upto] at h
    · have hu : ∀ x, upto (c :: x) = c :: upto x := by intro x; simp [upto, hc]
      rw [hu] at h
      rw [List.cons_append, hu, ih (List.cons.inj h).2]

theorem upto_fill (l : List Int) (n : Nat) (h : cleanB l = true) (hn : l.length ≤ n) : upto (fillL l n) = l := by
  unfold fillL
  rw [List.take_of_length_le hn]
  exact upto_noughts l _ (upto_clean h)

set_option maxHeartbeats 4000000 in
set_option maxRecDepth 10000 in

theorem walk (a0 : ByteArray) (a1 : ByteArray) (a2 : Int) (w0 : a0.size ≤ maxLen) (w1 : a1.size ≤ maxLen) (w2 : (Lit.int .i64 a2).wf = true) (w : World) :
    Calls Try.prog 6 #[.string a0, .string a1, .int .i64 a2] w fun e w' => e = .returned (.bool true) ∧ Below w.heap.size w w' := by
  by_cases hbig : a0.size ≤ 1000 ∧ a1.size ≤ 1000
  · obtain ⟨hs0, hs1⟩ := hbig
    obtain ⟨x, hx⟩ : ∃ x, x = strOfNums (quoteL (nums a0)) := ⟨_, rfl⟩
    obtain ⟨y, hy⟩ : ∃ y, y = strOfNums (quoteL (nums a1)) := ⟨_, rfl⟩
    have hqx := fun w => quote_walk a0 (by omega) w
    have hqy := fun w => quote_walk a1 (by omega) w
    rw [← hx] at hqx
    rw [← hy] at hqy
    have hnx : nums x = quoteL (nums a0) := by rw [hx, nums_str _ (quoteL_range _ (nums_range a0))]
    have hny : nums y = quoteL (nums a1) := by rw [hy, nums_str _ (quoteL_range _ (nums_range a1))]
    have hxs : x.size ≤ 4000 := by rw [← nums_length, hnx]; exact Nat.le_trans (quoteL_len _) (by rw [nums_length]; omega)
    have hux := fun w => unquote_walk x (by omega) w
    rw [hnx, unquote_quote _ (nums_range a0), show unqC (some (nums a0)) = 0 from rfl, show unqS (some (nums a0)) = a0 from str_nums a0] at hux
    have hxx : (x.toList == x.toList) = true := by simp
    have haa : (a0.toList == a0.toList) = true := by simp
    have hiff : (a0.toList == a1.toList) = (x.toList == y.toList) := by
      rw [Bool.eq_iff_iff, str_beq, str_beq]
      constructor
      · rintro rfl; rw [hx, hy]
      · intro e
        apply nums_inj
        apply quote_inj (nums_range a0) (nums_range a1)
        rw [← hnx, ← hny, e]
    clear hx hy hnx hny
    by_cases hp : putC a0 a2 = 0
    · obtain ⟨h1, h1', h2, h3⟩ := putC_good hp
      obtain ⟨n, rfl⟩ := Int.eq_ofNat_of_zero_le h1
      have hup := upto_fill (nums a0) n h2 (by rw [nums_length]; omega)
      have hg := fun w => put_good a0 (by omega) n w hp
      clear hp h2
      cases hxy : (x.toList == y.toList) with
      | true =>
        rw [hxy] at hiff
        go_enter Try.func6, Try.ntmps6
        go_wp2_with (first | (go_at_call 7; refine (alive_walk _).mono ?_; rintro e w1 ⟨rfl, hacc⟩) | (go_at_call 8; refine (hg _).mono ?_; rintro e w2 ⟨v, rfl, hown, ⟨g, c, rfl⟩, hw2⟩; replace hacc := hacc.trans (hw2.mono hacc.size); obtain ⟨aa, cc, hv, hby⟩ := own_bys hown (fillL_length _ _) (fillL_range _ _ (nums_range a0)); simp only [Value.slice.injEq] at hv; obtain ⟨rfl, -, rfl⟩ := hv; have hgw := get_walk hby; rw [hup, str_nums] at hgw; clear hby hown) | (go_at_call 10; refine hgw.mono ?_; rintro e w' ⟨hw', rfl⟩; obtain rfl := hw'.symm) | (go_at_call_of 25 (Value.string a1); refine (hqy _).mono ?_; rintro e w3 ⟨rfl, hw3⟩; replace hacc := hacc.trans (hw3.mono hacc.size)) | (go_at_call 25; refine (hqx _).mono ?_; rintro e w4 ⟨rfl, hw4⟩; replace hacc := hacc.trans (hw4.mono hacc.size)) | (go_at_call 23; refine (hux _).mono ?_; rintro e w5 ⟨rfl, hw5⟩; replace hacc := hacc.trans (hw5.mono hacc.size)))
        all_goals go_ret
        all_goals exact ⟨rfl, hacc⟩
      | false =>
        rw [hxy] at hiff
        go_enter Try.func6, Try.ntmps6
        go_wp2_with (first | (go_at_call 7; refine (alive_walk _).mono ?_; rintro e w1 ⟨rfl, hacc⟩) | (go_at_call 8; refine (hg _).mono ?_; rintro e w2 ⟨v, rfl, hown, ⟨g, c, rfl⟩, hw2⟩; replace hacc := hacc.trans (hw2.mono hacc.size); obtain ⟨aa, cc, hv, hby⟩ := own_bys hown (fillL_length _ _) (fillL_range _ _ (nums_range a0)); simp only [Value.slice.injEq] at hv; obtain ⟨rfl, -, rfl⟩ := hv; have hgw := get_walk hby; rw [hup, str_nums] at hgw; clear hby hown) | (go_at_call 10; refine hgw.mono ?_; rintro e w' ⟨hw', rfl⟩; obtain rfl := hw'.symm) | (go_at_call_of 25 (Value.string a1); refine (hqy _).mono ?_; rintro e w3 ⟨rfl, hw3⟩; replace hacc := hacc.trans (hw3.mono hacc.size)) | (go_at_call 25; refine (hqx _).mono ?_; rintro e w4 ⟨rfl, hw4⟩; replace hacc := hacc.trans (hw4.mono hacc.size)) | (go_at_call 23; refine (hux _).mono ?_; rintro e w5 ⟨rfl, hw5⟩; replace hacc := hacc.trans (hw5.mono hacc.size)))
        all_goals go_ret
        all_goals exact ⟨rfl, hacc⟩
    · have hbad := fun w => put_bad a0 (by omega) a2 w hp
      have hc255 : 1 ≤ putC a0 a2 ∧ putC a0 a2 ≤ 255 := by
        have : ¬ putC a0 a2 = 0 := hp
        revert this
        unfold putC
        split
        · simp
        · split
          · simp
          · split <;> simp
      generalize putC a0 a2 = cd at *
      cases hxy : (x.toList == y.toList) with
      | true =>
        rw [hxy] at hiff
        go_enter Try.func6, Try.ntmps6
        go_wp2_with (first | (go_at_call 7; refine (alive_walk _).mono ?_; rintro e w1 ⟨rfl, hacc⟩) | (go_at_call 8; refine (hbad _).mono ?_; rintro e w' ⟨hw', rfl⟩; obtain rfl := hw'.symm) | (go_at_call_of 25 (Value.string a1); refine (hqy _).mono ?_; rintro e w3 ⟨rfl, hw3⟩; replace hacc := hacc.trans (hw3.mono hacc.size)) | (go_at_call 25; refine (hqx _).mono ?_; rintro e w4 ⟨rfl, hw4⟩; replace hacc := hacc.trans (hw4.mono hacc.size)) | (go_at_call 23; refine (hux _).mono ?_; rintro e w5 ⟨rfl, hw5⟩; replace hacc := hacc.trans (hw5.mono hacc.size)))
        all_goals go_ret
        all_goals exact ⟨rfl, hacc⟩
      | false =>
        rw [hxy] at hiff
        go_enter Try.func6, Try.ntmps6
        go_wp2_with (first | (go_at_call 7; refine (alive_walk _).mono ?_; rintro e w1 ⟨rfl, hacc⟩) | (go_at_call 8; refine (hbad _).mono ?_; rintro e w' ⟨hw', rfl⟩; obtain rfl := hw'.symm) | (go_at_call_of 25 (Value.string a1); refine (hqy _).mono ?_; rintro e w3 ⟨rfl, hw3⟩; replace hacc := hacc.trans (hw3.mono hacc.size)) | (go_at_call 25; refine (hqx _).mono ?_; rintro e w4 ⟨rfl, hw4⟩; replace hacc := hacc.trans (hw4.mono hacc.size)) | (go_at_call 23; refine (hux _).mono ?_; rintro e w5 ⟨rfl, hw5⟩; replace hacc := hacc.trans (hw5.mono hacc.size)))
        all_goals go_ret
        all_goals exact ⟨rfl, hacc⟩
  · go_enter Try.func6, Try.ntmps6
    go_wp2_with (go_at_call 7; refine (alive_walk _).mono ?_; rintro e w1 ⟨rfl, hw1⟩)
    all_goals go_ret
    all_goals exact ⟨rfl, hw1⟩

set_option maxRecDepth 100000 in
theorem lifted (os : Os) (started : os.Started) (H : Type) (enc : TypeId × Value → H) :
    ReturnsInHanded {} Try.checked os 6 .any (Rows.textBackSpec.pre6 enc Try.prog Try.f6 Rows.textBackRow.domain false) (Rows.textBackSpec.post enc Try.prog Try.f6 false true false false) := by
  refine returnsInHanded_of_change (C := Try.checked) own started (by kernel_rfl) Try.func6
    (ChangeSpec.witness6 (enc := enc) (C := Try.checked) false ⟨#[], #[.string ByteArray.empty, .string ByteArray.empty, .int .i64 0], []⟩ 8 (by kernel_rfl) (by kernel_rfl) (by kernel_rfl) (by kernel_rfl)) ?_
  intro W base args ds gs before hval0 hW hcnd _
  have hval : ∀ (j : Nat) t v, Try.f6.params[j]? = some t → args[j]? = some v → Value.okWide Try.prog W .any base t v := hval0
  have hW' := hW
  obtain ⟨p, q, hA0, hV, rfl, hfz, hnd⟩ := hW
  have hA : DataW.TrodAll enc Try.prog W 0 (fun _ => true) true Try.f6.params.toList args.toList ds p := hA0
  rw [Try.params6] at hA hval
  obtain ⟨v0, vs0, d0, ds0, p0, q0, hargs, rfl, rfl, h0, r0⟩ := trodAll_cons hA
  obtain ⟨v1, vs1, d1, ds1, p1, q1, rfl, rfl, rfl, h1, r1⟩ := trodAll_cons r0
  obtain ⟨v2, vs2, d2, ds2, p2, q2, rfl, rfl, rfl, h2, r2⟩ := trodAll_cons r1
  obtain ⟨rfl, rfl, rfl⟩ := trodAll_nil r2
  obtain rfl : args = #[v0, v1, v2] := by cases args; simp_all
  obtain ⟨rfl, rfl⟩ := trodVars_none hV
  obtain ⟨a0, rfl, rfl, rfl, w0⟩ := open_string Try.underlying9 (hval 0 9 v0 rfl rfl) h0
  obtain ⟨a1, rfl, rfl, rfl, w1⟩ := open_string Try.underlying9 (hval 1 9 v1 rfl rfl) h1
  obtain ⟨a2, rfl, rfl, rfl, w2⟩ := open_int Try.underlying3 (hval 2 3 v2 rfl rfl) h2
  clear hA0 hval0
  simp only [List.append_nil] at hW'
  refine (walk a0 a1 a2 w0 w1 w2 W).mono fun e W' ⟨he, hg⟩ => ?_
  subst he
  exact ⟨_, rfl, _, _, _, [], _, [], hW', (trodAll_cons_mk (shut_bool Try.underlying4 _) trodAll_mk0), (trodAll_cons_mk (shut_string Try.underlying9 w0) (trodAll_cons_mk (shut_string Try.underlying9 w1) (trodAll_cons_mk (shut_int Try.underlying3 w2) trodAll_mk0))), rfl, hg.frame _, fun h => by cases h⟩

theorem over : Rows.textBackRow.holds Try.pinned (OpenSpec.ofChange Rows.textBackSpec) :=
  OpenClaim.holds_of_wide 6 Try.f6 rfl rfl rfl rfl rfl rfl rfl ⟨rfl, rfl, rfl, rfl, rfl⟩ rfl rfl rfl rfl rfl (by kernel_rfl) Try.func6 (by kernel_rfl)
    (of_decide_eq_true (by kernel_rfl)) (by unfold Func.isWrapper; first | (rw [if_pos (by decide +kernel)]; kernel_rfl) | (rw [if_neg (by decide +kernel)]; exact ⟨rfl, rfl⟩))
    (fun os started H enc _ => lifted os started H enc)

theorem proved : Rows.TextBackSaid :=
  over
end Go.Proofs.Ytikanaklkddopaa.textBack
