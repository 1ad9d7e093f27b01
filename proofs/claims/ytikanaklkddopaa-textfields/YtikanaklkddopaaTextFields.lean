/-
  TextFields RETURNS TRUE FOR EVERY b, s AND w: the text of any bytes, and the bytes of any text in a field of any width, cut or whole, or why it has none. No conditions.
-/
import Derived.Test.YtikanaklkddopaaRows
import Derived.Test.YtikanaklkddopaaFlr
import Derived.WalkKit
import Derived.ProofKit
import Derived.OpenShut
import Derived.ShutString
import Derived.ChangeOld
import Derived.Below
namespace Go.Proofs.Ytikanaklkddopaa.textFields
open Go.ChangeShapes Go.WideShapes Go.ChangeAt Go.RowKit
open Go.ChangeMaps (open_string shut_string)
set_option linter.unusedVariables false

theorem own : ownKnob Try.prog.godebug = none := by kernel_rfl
theorem laidOut : laidOutB Try.prog = true := by kernel_rfl



theorem putC_range (s : ByteArray) (n : Int) : 0 ≤ putC s n ∧ putC s n ≤ 255 := by
  unfold putC
  split
  · simp
  · split
    · simp
    · split <;> simp

set_option maxHeartbeats 8000000 in
set_option maxRecDepth 20000 in

theorem walk (a0 : Option Addr) (len0 cap0 : Nat) (z0 : List Int) (a1 : ByteArray) (a2 : Int) (w : World) (w0 : IsRow .u8 w a0 len0 cap0 z0) (w1 : a1.size ≤ maxLen) (w2 : (Lit.int .i64 a2).wf = true) :
    Calls Try.prog 3 #[.slice a0 len0 cap0, .string a1, .int .i64 a2] w fun e w' => e = .returned (.bool true) ∧ Below w.heap.size w w' := by
  have hby := row_bys w0
  obtain ⟨l, hl⟩ : ∃ l, l = z0.take len0 := ⟨_, rfl⟩
  rw [← hl] at hby
  clear hl w0
  by_cases hbig : len0 ≤ 2000 ∧ a1.size ≤ 2000 ∧ a2 ≤ 70000
  · obtain ⟨hb0, hb1, hb2⟩ := hbig
    have hur : ∀ x ∈ upto (nums a1), 0 ≤ x ∧ x ≤ 255 := fun x hx => nums_range a1 x ((List.takeWhile_sublist _).subset hx)
    by_cases hwd : 0 ≤ a2 ∧ a2 ≤ 65536
    · obtain ⟨n, rfl⟩ := Int.eq_ofNat_of_zero_le hwd.1
      have hn : n ≤ 65536 := by omega
      have hcut := fun w => cut_good a1 n hn w
      have hrcut := fun w => rcut_good a1 (by omega) n hn w
      by_cases hp : putC a1 n = 0
      · have hput := fun w => put_good a1 (by omega) n w hp
        have hrput := fun w => rput_good a1 (by omega) n w hp
        clear hp hwd
        go_enter Try.func3, Try.ntmps3
        go_wp2_with (first | (go_at_call 7; refine (alive_walk _).mono ?_; rintro e w1 ⟨rfl, hacc⟩) | (go_at_call 8; refine (hput _).mono ?_; rintro e w2 ⟨v, rfl, hown, -, hw⟩; replace hacc := hacc.trans (hw.mono hacc.size); (try replace hbp := hbp.below hw); (try replace hbq := hbq.below hw); (try replace hbc := hbc.below hw); (try replace hbd := hbd.below hw); obtain ⟨aa, cc, rfl, hbp⟩ := own_bys hown (fillL_length _ _) (fillL_range _ _ (nums_range a1)); clear hown) | (go_at_call 9; refine (hrput _).mono ?_; rintro e w3 ⟨v, rfl, hown, hw⟩; replace hacc := hacc.trans (hw.mono hacc.size); (try replace hbp := hbp.below hw); (try replace hbq := hbq.below hw); (try replace hbc := hbc.below hw); (try replace hbd := hbd.below hw); obtain ⟨aa', cc', rfl, hbq⟩ := hown.bys (fillL_length _ _) (fillL_range _ _ (nums_range a1)); clear hown) | (go_at_call 10; refine (get_walk (hby.below hacc)).mono ?_; rintro e w' ⟨hw', rfl⟩; obtain rfl := hw'.symm) | (go_at_call 11; refine (rget_walk (hby.below hacc) (by omega)).mono ?_; rintro e w4 ⟨rfl, hw⟩; replace hacc := hacc.trans (hw.mono hacc.size); (try replace hbp := hbp.below hw); (try replace hbq := hbq.below hw); (try replace hbc := hbc.below hw); (try replace hbd := hbd.below hw)) | (go_at_call 12; refine (same_walk hbc hbd).mono ?_; rintro e w' ⟨hw', rfl⟩; obtain rfl := hw'.symm) | (go_at_call 12; refine (same_walk hbp hbq).mono ?_; rintro e w' ⟨hw', rfl⟩; obtain rfl := hw'.symm; clear hbp hbq) | (go_at_call 13; refine (hcut _).mono ?_; rintro e w5 ⟨v, rfl, hown, hw⟩; replace hacc := hacc.trans (hw.mono hacc.size); (try replace hbp := hbp.below hw); (try replace hbq := hbq.below hw); (try replace hbc := hbc.below hw); (try replace hbd := hbd.below hw); obtain ⟨ac, kc, rfl, hbc⟩ := own_bys hown (fillL_length _ _) (fillL_range _ _ hur); clear hown) | (go_at_call 14; refine (hrcut _).mono ?_; rintro e w6 ⟨v, rfl, hown, hw⟩; replace hacc := hacc.trans (hw.mono hacc.size); (try replace hbp := hbp.below hw); (try replace hbq := hbq.below hw); (try replace hbc := hbc.below hw); (try replace hbd := hbd.below hw); obtain ⟨ad, kd, rfl, hbd⟩ := hown.bys (fillL_length _ _) (fillL_range _ _ hur); clear hown) | (go_at_call 15; refine (clean_walk a1 _).mono ?_; rintro e w' ⟨hw', rfl⟩; obtain rfl := hw'.symm) | (go_at_call 16; refine (rclean_walk a1 (by omega) _).mono ?_; rintro e w7 ⟨rfl, hw⟩; replace hacc := hacc.trans (hw.mono hacc.size); (try replace hbp := hbp.below hw); (try replace hbq := hbq.below hw); (try replace hbc := hbc.below hw); (try replace hbd := hbd.below hw)) | (go_at_call 17; refine (blank_walk (hby.below hacc)).mono ?_; rintro e w' ⟨hw', rfl⟩; obtain rfl := hw'.symm) | (go_at_call 18; refine (rblank_walk (hby.below hacc)).mono ?_; rintro e w' ⟨hw', rfl⟩; obtain rfl := hw'.symm))
        all_goals go_ret
        all_goals exact ⟨rfl, hacc⟩
      · have hput := fun w => put_bad a1 (by omega) n w hp
        have hrput := fun w => rput_bad a1 (by omega) n w hp
        have hc255 := putC_range a1 n
        generalize putC a1 n = cd at *
        clear hp hwd
        go_enter Try.func3, Try.ntmps3
        go_wp2_with (first | (go_at_call 7; refine (alive_walk _).mono ?_; rintro e w1 ⟨rfl, hacc⟩) | (go_at_call 8; refine (hput _).mono ?_; rintro e w' ⟨hw', rfl⟩; obtain rfl := hw'.symm) | (go_at_call 9; refine (hrput _).mono ?_; rintro e w3 ⟨rfl, hw⟩; replace hacc := hacc.trans (hw.mono hacc.size); (try replace hbp := hbp.below hw); (try replace hbq := hbq.below hw); (try replace hbc := hbc.below hw); (try replace hbd := hbd.below hw); have hbp : Bys w3 none 0 0 [] := Bys.mk0 (by omega); have hbq : Bys w3 none 0 0 [] := Bys.mk0 (by omega)) | (go_at_call 10; refine (get_walk (hby.below hacc)).mono ?_; rintro e w' ⟨hw', rfl⟩; obtain rfl := hw'.symm) | (go_at_call 11; refine (rget_walk (hby.below hacc) (by omega)).mono ?_; rintro e w4 ⟨rfl, hw⟩; replace hacc := hacc.trans (hw.mono hacc.size); (try replace hbp := hbp.below hw); (try replace hbq := hbq.below hw); (try replace hbc := hbc.below hw); (try replace hbd := hbd.below hw)) | (go_at_call 12; refine (same_walk hbc hbd).mono ?_; rintro e w' ⟨hw', rfl⟩; obtain rfl := hw'.symm) | (go_at_call 12; refine (same_walk hbp hbq).mono ?_; rintro e w' ⟨hw', rfl⟩; obtain rfl := hw'.symm; clear hbp hbq) | (go_at_call 13; refine (hcut _).mono ?_; rintro e w5 ⟨v, rfl, hown, hw⟩; replace hacc := hacc.trans (hw.mono hacc.size); (try replace hbp := hbp.below hw); (try replace hbq := hbq.below hw); (try replace hbc := hbc.below hw); (try replace hbd := hbd.below hw); obtain ⟨ac, kc, rfl, hbc⟩ := own_bys hown (fillL_length _ _) (fillL_range _ _ hur); clear hown) | (go_at_call 14; refine (hrcut _).mono ?_; rintro e w6 ⟨v, rfl, hown, hw⟩; replace hacc := hacc.trans (hw.mono hacc.size); (try replace hbp := hbp.below hw); (try replace hbq := hbq.below hw); (try replace hbc := hbc.below hw); (try replace hbd := hbd.below hw); obtain ⟨ad, kd, rfl, hbd⟩ := hown.bys (fillL_length _ _) (fillL_range _ _ hur); clear hown) | (go_at_call 15; refine (clean_walk a1 _).mono ?_; rintro e w' ⟨hw', rfl⟩; obtain rfl := hw'.symm) | (go_at_call 16; refine (rclean_walk a1 (by omega) _).mono ?_; rintro e w7 ⟨rfl, hw⟩; replace hacc := hacc.trans (hw.mono hacc.size); (try replace hbp := hbp.below hw); (try replace hbq := hbq.below hw); (try replace hbc := hbc.below hw); (try replace hbd := hbd.below hw)) | (go_at_call 17; refine (blank_walk (hby.below hacc)).mono ?_; rintro e w' ⟨hw', rfl⟩; obtain rfl := hw'.symm) | (go_at_call 18; refine (rblank_walk (hby.below hacc)).mono ?_; rintro e w' ⟨hw', rfl⟩; obtain rfl := hw'.symm))
        all_goals go_ret
        all_goals exact ⟨rfl, hacc⟩
    · have hp : putC a1 a2 ≠ 0 := by unfold putC; rw [if_pos hwd]; decide
      have hput := fun w => put_bad a1 (by omega) a2 w hp
      have hrput := fun w => rput_bad a1 (by omega) a2 w hp
      have hcut := fun w => cut_bad a1 a2 w hwd
      have hrcut := fun w => rcut_bad a1 a2 w hwd
      have hc255 := putC_range a1 a2
      generalize putC a1 a2 = cd at *
      clear hp hwd
      go_enter Try.func3, Try.ntmps3
      go_wp2_with (first | (go_at_call 7; refine (alive_walk _).mono ?_; rintro e w1 ⟨rfl, hacc⟩) | (go_at_call 8; refine (hput _).mono ?_; rintro e w' ⟨hw', rfl⟩; obtain rfl := hw'.symm) | (go_at_call 9; refine (hrput _).mono ?_; rintro e w3 ⟨rfl, hw⟩; replace hacc := hacc.trans (hw.mono hacc.size); (try replace hbp := hbp.below hw); (try replace hbq := hbq.below hw); (try replace hbc := hbc.below hw); (try replace hbd := hbd.below hw); have hbp : Bys w3 none 0 0 [] := Bys.mk0 (by omega); have hbq : Bys w3 none 0 0 [] := Bys.mk0 (by omega)) | (go_at_call 10; refine (get_walk (hby.below hacc)).mono ?_; rintro e w' ⟨hw', rfl⟩; obtain rfl := hw'.symm) | (go_at_call 11; refine (rget_walk (hby.below hacc) (by omega)).mono ?_; rintro e w4 ⟨rfl, hw⟩; replace hacc := hacc.trans (hw.mono hacc.size); (try replace hbp := hbp.below hw); (try replace hbq := hbq.below hw); (try replace hbc := hbc.below hw); (try replace hbd := hbd.below hw)) | (go_at_call 12; refine (same_walk hbc hbd).mono ?_; rintro e w' ⟨hw', rfl⟩; obtain rfl := hw'.symm) | (go_at_call 12; refine (same_walk hbp hbq).mono ?_; rintro e w' ⟨hw', rfl⟩; obtain rfl := hw'.symm; clear hbp hbq) | (go_at_call 13; refine (hcut _).mono ?_; rintro e w' ⟨hw', rfl⟩; obtain rfl := hw'.symm) | (go_at_call 14; refine (hrcut _).mono ?_; rintro e w' ⟨hw', rfl⟩; obtain rfl := hw'.symm; have hbc : Bys w4 none 0 0 [] := Bys.mk0 (by omega); have hbd : Bys w4 none 0 0 [] := Bys.mk0 (by omega)) | (go_at_call 15; refine (clean_walk a1 _).mono ?_; rintro e w' ⟨hw', rfl⟩; obtain rfl := hw'.symm) | (go_at_call 16; refine (rclean_walk a1 (by omega) _).mono ?_; rintro e w7 ⟨rfl, hw⟩; replace hacc := hacc.trans (hw.mono hacc.size); (try replace hbp := hbp.below hw); (try replace hbq := hbq.below hw); (try replace hbc := hbc.below hw); (try replace hbd := hbd.below hw)) | (go_at_call 17; refine (blank_walk (hby.below hacc)).mono ?_; rintro e w' ⟨hw', rfl⟩; obtain rfl := hw'.symm) | (go_at_call 18; refine (rblank_walk (hby.below hacc)).mono ?_; rintro e w' ⟨hw', rfl⟩; obtain rfl := hw'.symm))
      all_goals go_ret
      all_goals exact ⟨rfl, hacc⟩
  · go_enter Try.func3, Try.ntmps3
    go_wp2_with (go_at_call 7; refine (alive_walk _).mono ?_; rintro e w1 ⟨rfl, hw1⟩)
    all_goals go_ret
    all_goals exact ⟨rfl, hw1⟩

set_option maxRecDepth 100000 in
theorem lifted (os : Os) (started : os.Started) (H : Type) (enc : TypeId × Value → H) :
    ReturnsInHanded {} Try.checked os 3 .any (Rows.textFieldsSpec.pre6 enc Try.prog Try.f3 Rows.textFieldsRow.domain false) (Rows.textFieldsSpec.post enc Try.prog Try.f3 false true false false) := by
  refine returnsInHanded_of_change (C := Try.checked) own started (by kernel_rfl) Try.func3
    (ChangeSpec.witness6 (enc := enc) (C := Try.checked) false ⟨#[], #[.slice none 0 0, .string ByteArray.empty, .int .i64 0], []⟩ 8 (by kernel_rfl) (by kernel_rfl) (by kernel_rfl) (by kernel_rfl)) ?_
  intro W base args ds gs before hval0 hW hcnd _
  have hval : ∀ (j : Nat) t v, Try.f3.params[j]? = some t → args[j]? = some v → Value.okWide Try.prog W .any base t v := hval0
  have hW' := hW
  obtain ⟨p, q, hA0, hV, rfl, hfz, hnd⟩ := hW
  have hA : DataW.TrodAll enc Try.prog W 0 (fun _ => true) true Try.f3.params.toList args.toList ds p := hA0
  rw [Try.params3] at hA hval
  obtain ⟨v0, vs0, d0, ds0, p0, q0, hargs, rfl, rfl, h0, r0⟩ := trodAll_cons hA
  obtain ⟨v1, vs1, d1, ds1, p1, q1, rfl, rfl, rfl, h1, r1⟩ := trodAll_cons r0
  obtain ⟨v2, vs2, d2, ds2, p2, q2, rfl, rfl, rfl, h2, r2⟩ := trodAll_cons r1
  obtain ⟨rfl, rfl, rfl⟩ := trodAll_nil r2
  obtain rfl : args = #[v0, v1, v2] := by cases args; simp_all
  obtain ⟨rfl, rfl⟩ := trodVars_none hV
  obtain ⟨a0, len0, cap0, rfl⟩ := okWide_slice Try.underlying22 (hval 0 22 v0 rfl rfl)
  have k0 := h0
  have lt0 : ∀ x ∈ p0, x.block < W.heap.size := by obtain ⟨m, hm⟩ := k0; exact DataW.trod_lt m _ _ _ hm
  obtain ⟨z0, w0⟩ : ∃ zs, IsRow .u8 W a0 len0 cap0 zs := by
    obtain ⟨fuel, hf⟩ := h0
    rcases open_ints Try.underlying22 Try.underlying5 (by kernel_rfl) hf with ⟨hcs, _⟩ | ⟨x, l, c, zs, hcs, _, hl, hm, hz, _, hcell, hwz⟩
    · simp [Value.cells] at hcs
      obtain ⟨rfl, rfl, rfl⟩ := hcs
      exact ⟨[], .inl ⟨rfl, rfl, rfl, rfl⟩⟩
    · simp [Value.cells] at hcs
      obtain ⟨rfl, rfl, rfl⟩ := hcs
      exact ⟨zs, .inr ⟨_, rfl, hl, hm, by simpa using hz, hcell, hwz⟩⟩
  obtain ⟨a1, rfl, rfl, rfl, w1⟩ := open_string Try.underlying9 (hval 1 9 v1 rfl rfl) h1
  obtain ⟨a2, rfl, rfl, rfl, w2⟩ := open_int Try.underlying3 (hval 2 3 v2 rfl rfl) h2
  clear hA0 hval0
  refine (walk a0 len0 cap0 z0 a1 a2 W w0 w1 w2).mono fun e W' ⟨he, bel⟩ => ?_
  subst he
  exact ⟨_, rfl, _, _, _, [], _, [], hW', trodAll_mk1 (shut_bool Try.underlying4 _), (trodAll_cons_mk (Below.trod laidOut (by kernel_rfl) (of_decide_eq_true (by kernel_rfl)) k0 bel lt0) (trodAll_cons_mk (shut_string Try.underlying9 w1) (trodAll_cons_mk (shut_int Try.underlying3 w2) trodAll_mk0))), rfl, bel.frame _, fun h => by cases h⟩

theorem over : Rows.textFieldsRow.holds Try.pinned (OpenSpec.ofChange Rows.textFieldsSpec) :=
  OpenClaim.holds_of_wide 3 Try.f3 rfl rfl rfl rfl rfl rfl rfl ⟨rfl, rfl, rfl, rfl, rfl⟩ rfl rfl rfl rfl rfl (by kernel_rfl) Try.func3 (by kernel_rfl)
    (of_decide_eq_true (by kernel_rfl)) (by unfold Func.isWrapper; first | (rw [if_pos (by decide +kernel)]; kernel_rfl) | (rw [if_neg (by decide +kernel)]; exact ⟨rfl, rfl⟩))
    (fun os started H enc _ => lifted os started H enc)

theorem proved : Rows.TextFieldsSaid := over
end Go.Proofs.Ytikanaklkddopaa.textFields
