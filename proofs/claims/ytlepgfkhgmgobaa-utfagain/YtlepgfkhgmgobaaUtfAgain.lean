/-
  UtfAgain RETURNS TRUE FOR EVERY b AND n: what is mended is right and stays, and has as many code points; what is cut is a beginning, and of a right text right. No conditions.
-/
import Derived.Test.YtlepgfkhgmgobaaRows
import Derived.Test.YtlepgfkhgmgobaaBack
import Derived.WalkKit
import Derived.ProofKit
import Derived.OpenShut
import Derived.ShutString
import Derived.ChangeOld
import Derived.Below
namespace Go.Proofs.Ytlepgfkhgmgobaa.utfAgain
open Go.ChangeShapes Go.WideShapes Go.ChangeAt Go.RowKit
open Go.ChangeMaps (open_string shut_string)
set_option linter.unusedVariables false

theorem own : ownKnob Try.prog.godebug = none := by kernel_rfl
theorem laidOut : laidOutB Try.prog = true := by kernel_rfl



set_option maxHeartbeats 8000000 in
set_option maxRecDepth 20000 in

theorem walk (a0 : Option Addr) (len0 cap0 : Nat) (z0 : List Int) (a1 : Int) (w : World) (w0 : IsRow .u8 w a0 len0 cap0 z0) (w1 : (Lit.int .i64 a1).wf = true) :
    Calls Try.prog 5 #[.slice a0 len0 cap0, .int .i64 a1] w fun e w' => e = .returned (.bool true) ∧ Below w.heap.size w w' := by
  obtain ⟨s, hsz, hcv⟩ := text_in w0
  have hcap : len0 ≤ 9223372036854775807 := by have := row_bys w0; exact Nat.le_trans this.2.1 this.2.2.1
  clear w0
  by_cases hbig : len0 ≤ 1000
  · have zs : s.size ≤ 4000 := by omega
    have zm : (mnB s).size ≤ 4000 := by have := mn_size s; omega
    have zc : (cuB s a1).size ≤ 4000 := by have := cu_le s a1; omega
    have zt : (s.extract (cuB s a1).size s.size).size ≤ 4000 := by have := tail_size s (cuB s a1).size; omega
    have e1 := mn_right s
    have e2 := mn_mn s
    have e3 := mn_count s
    have e4 := rt_same s
    have hmm : ((mnB s).toList == (mnB s).toList) = true := by simp
    have hrr : (rtB s == rtB s) = true := by simp
    have c1 : ((cuB s a1).size : Int) ≤ (s.size : Int) := by have := cu_le s a1; omega
    have c2 : ((s.extract 0 (cuB s a1).size).toList == (cuB s a1).toList) = true := by rw [cu_head]; simp
    have c3 := cu_few s a1
    have c4 := cu_right s a1
    have c5 : (ctN (cuB s a1) : Int) + (ctN (s.extract (cuB s a1).size s.size) : Int) = (ctN s : Int) := by have := cu_count s a1; omega
    have hct : (ctN s : Int) ≤ 4000 := by have := ct_le s; omega
    generalize hmg : mnB s = m at *
    generalize hcg : cuB s a1 = c at *
    clear hsz
    go_enter Try.func5, Try.ntmps5
    go_wp2_with (first
      | (go_at_call 6; refine (alive_walk _).mono ?_; rintro e w1 ⟨rfl, hacc⟩; have hconv := hcv _ hacc; clear hcv)
      | (go_at_call 12; refine (mn_walk _ ?_ _).mono ?_; (first | exact zs | exact zm); rintro e w2 ⟨rfl, hw⟩; replace hacc := hacc.trans (hw.mono hacc.size); clear hw)
      | (go_at_call 9; refine (rt_walk _ ?_ _).mono ?_; (first | exact zs | exact zm); rintro e w3 ⟨rfl, hw⟩; replace hacc := hacc.trans (hw.mono hacc.size); clear hw)
      | (go_at_call 10; refine (ct_walk _ ?_ _).mono ?_; (first | exact zs | exact zm); rintro e w4 ⟨rfl, hw⟩; replace hacc := hacc.trans (hw.mono hacc.size); clear hw)
      | (go_at_call 14; refine (cu_walk _ _ ?_ _).mono ?_; exact zs; rintro e w5 ⟨rfl, hw⟩; replace hacc := hacc.trans (hw.mono hacc.size); clear hw))
    clear e1 e2 e3 e4 hmm hrr hconv hmg hcg zm hbig
    have hne : Nonempty (After w5) := ⟨⟨w5, Below.refl _ _⟩⟩
    have hcc : (decide ((c.size : Int) ≤ (s.size : Int))) = true := by simpa using c1
    cases hR : rtB s with
    | true =>
      have hRc := c4 hR
      clear c4
      by_cases hn : a1 < 0
      · have hn' : decide (a1 < 0) = true := by simpa using hn
        clear c3
        refine wp_region_after (by kernel_rfl) (by kernel_rfl) ?_
        repeat (go_big_quiet_step ((first
          | (go_at_call 9; refine after_below _ (rt_walk _ ?_ _); (first | exact zs | exact zc))
          | (go_at_call 10; refine after_below _ (ct_walk _ ?_ _); (first | exact zs | exact zc | exact zt)))))
        refine wpQuiet_nil ?_
        intro wq hw'
        obtain ⟨⟨x, hwq⟩, hx⟩ := hw'
        simp only at hx
        subst hx
        go_wp2
        go_ret
        exact ⟨rfl, hacc.trans (hwq.mono hacc.size)⟩
      · have hn' : decide (a1 < 0) = false := by simpa using hn
        have hc3 : (c.size : Int) ≤ a1 := by rcases c3 with h | h
                                             · exact absurd h hn
                                             · exact h
        have hc3' : decide ((c.size : Int) ≤ a1) = true := by simpa using hc3
        clear c3
        refine wp_region_after (by kernel_rfl) (by kernel_rfl) ?_
        repeat (go_big_quiet_step ((first
          | (go_at_call 9; refine after_below _ (rt_walk _ ?_ _); (first | exact zs | exact zc))
          | (go_at_call 10; refine after_below _ (ct_walk _ ?_ _); (first | exact zs | exact zc | exact zt)))))
        refine wpQuiet_nil ?_
        intro wq hw'
        obtain ⟨⟨x, hwq⟩, hx⟩ := hw'
        simp only at hx
        subst hx
        go_wp2
        go_ret
        exact ⟨rfl, hacc.trans (hwq.mono hacc.size)⟩
    | false =>
      clear c4
      by_cases hn : a1 < 0
      · have hn' : decide (a1 < 0) = true := by simpa using hn
        clear c3
        refine wp_region_after (by kernel_rfl) (by kernel_rfl) ?_
        repeat (go_big_quiet_step ((first
          | (go_at_call 9; refine after_below _ (rt_walk _ ?_ _); (first | exact zs | exact zc))
          | (go_at_call 10; refine after_below _ (ct_walk _ ?_ _); (first | exact zs | exact zc | exact zt)))))
        refine wpQuiet_nil ?_
        intro wq hw'
        obtain ⟨⟨x, hwq⟩, hx⟩ := hw'
        simp only at hx
        subst hx
        go_wp2
        go_ret
        exact ⟨rfl, hacc.trans (hwq.mono hacc.size)⟩
      · have hn' : decide (a1 < 0) = false := by simpa using hn
        have hc3 : (c.size : Int) ≤ a1 := by rcases c3 with h | h
                                             · exact absurd h hn
                                             · exact h
        have hc3' : decide ((c.size : Int) ≤ a1) = true := by simpa using hc3
        clear c3
        refine wp_region_after (by kernel_rfl) (by kernel_rfl) ?_
        repeat (go_big_quiet_step ((first
          | (go_at_call 9; refine after_below _ (rt_walk _ ?_ _); (first | exact zs | exact zc))
          | (go_at_call 10; refine after_below _ (ct_walk _ ?_ _); (first | exact zs | exact zc | exact zt)))))
        refine wpQuiet_nil ?_
        intro wq hw'
        obtain ⟨⟨x, hwq⟩, hx⟩ := hw'
        simp only at hx
        subst hx
        go_wp2
        go_ret
        exact ⟨rfl, hacc.trans (hwq.mono hacc.size)⟩
  · have hgt : (1000 : Int) < (len0 : Int) := by omega
    clear hcv hsz
    go_enter Try.func5, Try.ntmps5
    go_wp2_with (go_at_call 6; refine (alive_walk _).mono ?_; rintro e w1 ⟨rfl, hacc⟩)
    all_goals go_ret
    all_goals exact ⟨rfl, hacc⟩

set_option maxRecDepth 100000 in
theorem lifted (os : Os) (started : os.Started) (H : Type) (enc : TypeId × Value → H) :
    ReturnsInHanded {} Try.checked os 5 .any (Rows.utfAgainSpec.pre6 enc Try.prog Try.f5 Rows.utfAgainRow.domain false) (Rows.utfAgainSpec.post enc Try.prog Try.f5 false true false false) := by
  refine returnsInHanded_of_change (C := Try.checked) own started (by kernel_rfl) Try.func5
    (ChangeSpec.witness6 (enc := enc) (C := Try.checked) false ⟨#[], #[.slice none 0 0, .int .i64 0], []⟩ 8 (by kernel_rfl) (by kernel_rfl) (by kernel_rfl) (by kernel_rfl)) ?_
  intro W base args ds gs before hval0 hW hcnd _
  have hval : ∀ (j : Nat) t v, Try.f5.params[j]? = some t → args[j]? = some v → Value.okWide Try.prog W .any base t v := hval0
  have hW' := hW
  obtain ⟨p, q, hA0, hV, rfl, hfz, hnd⟩ := hW
  have hA : DataW.TrodAll enc Try.prog W 0 (fun _ => true) true Try.f5.params.toList args.toList ds p := hA0
  rw [Try.params5] at hA hval
  obtain ⟨v0, vs0, d0, ds0, p0, q0, hargs, rfl, rfl, h0, r0⟩ := trodAll_cons hA
  obtain ⟨v1, vs1, d1, ds1, p1, q1, rfl, rfl, rfl, h1, r1⟩ := trodAll_cons r0
  obtain ⟨rfl, rfl, rfl⟩ := trodAll_nil r1
  obtain rfl : args = #[v0, v1] := by cases args; simp_all
  obtain ⟨rfl, rfl⟩ := trodVars_none hV
  obtain ⟨a0, len0, cap0, rfl⟩ := okWide_slice Try.underlying22 (hval 0 22 v0 rfl rfl)
  have k0 := h0
  have lt0 : ∀ x ∈ p0, x.block < W.heap.size := by obtain ⟨m, hm⟩ := k0; exact DataW.trod_lt m _ _ _ hm
  obtain ⟨z0, w0⟩ : ∃ zs, IsRow .u8 W a0 len0 cap0 zs := by
    obtain ⟨fuel, hf⟩ := h0
    rcases open_ints Try.underlying22 Try.underlying5 (by kernel_rfl) hf with ⟨hcs, _⟩ | ⟨x, l, c, zs, hcs, _, hl, hm, hz, _, hcell, hwz⟩
    · simp [Value.cells] at hcs
      obtain ⟨rfl, rfl, rfl⟩ := hcs
      exact ⟨[], .inl ⟨rfl, rfl, rfl, rfl⟩⟩
    · simp [Value.cells] at hcs
      obtain ⟨rfl, rfl, rfl⟩ := hcs
      exact ⟨zs, .inr ⟨_, rfl, hl, hm, by simpa using hz, hcell, hwz⟩⟩
  obtain ⟨a1, rfl, rfl, rfl, w1⟩ := open_int Try.underlying3 (hval 1 3 v1 rfl rfl) h1
  clear hA0 hval0
  refine (walk a0 len0 cap0 z0 a1 W w0 w1).mono fun e W' ⟨he, bel⟩ => ?_
  subst he
  exact ⟨_, rfl, _, _, _, [], _, [], hW', trodAll_mk1 (shut_bool Try.underlying4 _), (trodAll_cons_mk (Below.trod laidOut (by kernel_rfl) (of_decide_eq_true (by kernel_rfl)) k0 bel lt0) (trodAll_cons_mk (shut_int Try.underlying3 w1) trodAll_mk0)), rfl, bel.frame _, fun h => by cases h⟩

theorem over : Rows.utfAgainRow.holds Try.pinned (OpenSpec.ofChange Rows.utfAgainSpec) :=
  OpenClaim.holds_of_wide 5 Try.f5 rfl rfl rfl rfl rfl rfl rfl ⟨rfl, rfl, rfl, rfl, rfl⟩ rfl rfl rfl rfl rfl (by kernel_rfl) Try.func5 (by kernel_rfl)
    (of_decide_eq_true (by kernel_rfl)) (by unfold Func.isWrapper; first | (rw [if_pos (by decide +kernel)]; kernel_rfl) | (rw [if_neg (by decide +kernel)]; exact ⟨rfl, rfl⟩))
    (fun os started H enc _ => lifted os started H enc)

theorem proved : Rows.UtfAgainSaid := over
end Go.Proofs.Ytlepgfkhgmgobaa.utfAgain
