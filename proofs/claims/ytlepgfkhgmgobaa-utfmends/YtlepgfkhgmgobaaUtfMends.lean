/-
  UtfMends RETURNS TRUE FOR EVERY b AND n: what any text is, mended, and cut to any number of bytes. No conditions.
-/
import Derived.Test.YtlepgfkhgmgobaaRows
import Derived.Test.YtlepgfkhgmgobaaEnd
import Derived.WalkKit
import Derived.ProofKit
import Derived.OpenShut
import Derived.ShutString
import Derived.ChangeOld
import Derived.Below
namespace Go.Proofs.Ytlepgfkhgmgobaa.utfMends
open Go.ChangeShapes Go.WideShapes Go.ChangeAt Go.RowKit
open Go.ChangeMaps (open_string shut_string)
set_option linter.unusedVariables false

theorem own : ownKnob Try.prog.godebug = none := by kernel_rfl
theorem laidOut : laidOutB Try.prog = true := by kernel_rfl



set_option maxHeartbeats 4000000 in
set_option maxRecDepth 20000 in

theorem walk (a0 : Option Addr) (len0 cap0 : Nat) (z0 : List Int) (a1 : Int) (w : World) (w0 : IsRow .u8 w a0 len0 cap0 z0) (w1 : (Lit.int .i64 a1).wf = true) :
    Calls Try.prog 4 #[.slice a0 len0 cap0, .int .i64 a1] w fun e w' => e = .returned (.bool true) ∧ Below w.heap.size w w' := by
  obtain ⟨s, hsz, hcv⟩ := text_in w0
  have hcap : len0 ≤ 9223372036854775807 := by have := row_bys w0; exact Nat.le_trans this.2.1 this.2.2.1
  clear w0
  by_cases hbig : len0 ≤ 1000
  · have h1 := fun w => mend_walk s (by omega) w
    have h2 := fun w => rmend_walk s (by omega) w
    have h3 := fun w => cut_walk s a1 (by omega) w
    have h4 := fun w => rcut_walk s a1 (by omega) w
    generalize (⟨(mendL s.data.toList).toArray⟩ : ByteArray) = x at *
    generalize s.extract 0 (cutL s.data.toList a1) = y at *
    have hxx : (x.toList == x.toList) = true := by simp
    have hyy : (y.toList == y.toList) = true := by simp
    clear hsz
    go_enter Try.func4, Try.ntmps4
    go_wp2_with (first
      | (go_at_call 6; refine (alive_walk _).mono ?_; rintro e w1 ⟨rfl, hacc⟩; have hconv := hcv _ hacc; clear hcv)
      | (go_at_call 12; refine (h1 _).mono ?_; rintro e w2 ⟨rfl, hw⟩; replace hacc := hacc.trans (hw.mono hacc.size); clear hw)
      | (go_at_call 13; refine (h2 _).mono ?_; rintro e w3 ⟨rfl, hw⟩; replace hacc := hacc.trans (hw.mono hacc.size); clear hw)
      | (go_at_call 14; refine (h3 _).mono ?_; rintro e w4 ⟨rfl, hw⟩; replace hacc := hacc.trans (hw.mono hacc.size); clear hw)
      | (go_at_call 15; refine (h4 _).mono ?_; rintro e w5 ⟨rfl, hw⟩; replace hacc := hacc.trans (hw.mono hacc.size); clear hw))
    all_goals go_ret
    all_goals exact ⟨rfl, hacc⟩
  · have hgt : (1000 : Int) < (len0 : Int) := by omega
    clear hcv hsz
    go_enter Try.func4, Try.ntmps4
    go_wp2_with (go_at_call 6; refine (alive_walk _).mono ?_; rintro e w1 ⟨rfl, hacc⟩)
    all_goals go_ret
    all_goals exact ⟨rfl, hacc⟩

set_option maxRecDepth 100000 in
theorem lifted (os : Os) (started : os.Started) (H : Type) (enc : TypeId × Value → H) :
    ReturnsInHanded {} Try.checked os 4 .any (Rows.utfMendsSpec.pre6 enc Try.prog Try.f4 Rows.utfMendsRow.domain false) (Rows.utfMendsSpec.post enc Try.prog Try.f4 false true false false) := by
  refine returnsInHanded_of_change (C := Try.checked) own started (by kernel_rfl) Try.func4
    (ChangeSpec.witness6 (enc := enc) (C := Try.checked) false ⟨#[], #[.slice none 0 0, .int .i64 0], []⟩ 8 (by kernel_rfl) (by kernel_rfl) (by kernel_rfl) (by kernel_rfl)) ?_
  intro W base args ds gs before hval0 hW hcnd _
  have hval : ∀ (j : Nat) t v, Try.f4.params[j]? = some t → args[j]? = some v → Value.okWide Try.prog W .any base t v := hval0
  have hW' := hW
  obtain ⟨p, q, hA0, hV, rfl, hfz, hnd⟩ := hW
  have hA : DataW.TrodAll enc Try.prog W 0 (fun _ => true) true Try.f4.params.toList args.toList ds p := hA0
  rw [Try.params4] at hA hval
  obtain ⟨v0, vs0, d0, ds0, p0, q0, hargs, rfl, rfl, h0, r0⟩ := trodAll_cons hA
  obtain ⟨v1, vs1, d1, ds1, p1, q1, rfl, rfl, rfl, h1, r1⟩ := trodAll_cons r0
  obtain ⟨rfl, rfl, rfl⟩ := trodAll_nil r1
  obtain rfl : args = #[v0, v1] := by cases args; simp_all
  obtain ⟨rfl, rfl⟩ := trodVars_none hV
  obtain ⟨a0, len0, cap0, rfl⟩ := okWide_slice Try.underlying22 (hval 0 22 v0 rfl rfl)
  have k0 := h0
  have lt0 : ∀ x ∈ p0, x.block < W.heap.size := by obtain ⟨m, hm⟩ := k0; exact DataW.trod_lt m _ _ _ hm
  obtain ⟨z0, w0⟩ : ∃ zs, IsRow .u8 W a0 len0 cap0 zs := by
    obtain ⟨fuel, hf⟩ := h0
    rcases open_ints Try.underlying22 Try.underlying5 (by kernel_rfl) hf with ⟨hcs, _⟩ | ⟨x, l, c, zs, hcs, _, hl, hm, hz, _, hcell, hwz⟩
    · simp [Value.cells] at hcs
      obtain ⟨rfl, rfl, rfl⟩ := hcs
      exact ⟨[], .inl ⟨rfl, rfl, rfl, rfl⟩⟩
    · simp [Value.cells] at hcs
      obtain ⟨rfl, rfl, rfl⟩ := hcs
      exact ⟨zs, .inr ⟨_, rfl, hl, hm, by simpa using hz, hcell, hwz⟩⟩
  obtain ⟨a1, rfl, rfl, rfl, w1⟩ := open_int Try.underlying3 (hval 1 3 v1 rfl rfl) h1
  clear hA0 hval0
  refine (walk a0 len0 cap0 z0 a1 W w0 w1).mono fun e W' ⟨he, bel⟩ => ?_
  subst he
  exact ⟨_, rfl, _, _, _, [], _, [], hW', trodAll_mk1 (shut_bool Try.underlying4 _), (trodAll_cons_mk (Below.trod laidOut (by kernel_rfl) (of_decide_eq_true (by kernel_rfl)) k0 bel lt0) (trodAll_cons_mk (shut_int Try.underlying3 w1) trodAll_mk0)), rfl, bel.frame _, fun h => by cases h⟩

theorem over : Rows.utfMendsRow.holds Try.pinned (OpenSpec.ofChange Rows.utfMendsSpec) :=
  OpenClaim.holds_of_wide 4 Try.f4 rfl rfl rfl rfl rfl rfl rfl ⟨rfl, rfl, rfl, rfl, rfl⟩ rfl rfl rfl rfl rfl (by kernel_rfl) Try.func4 (by kernel_rfl)
    (of_decide_eq_true (by kernel_rfl)) (by unfold Func.isWrapper; first | (rw [if_pos (by decide +kernel)]; kernel_rfl) | (rw [if_neg (by decide +kernel)]; exact ⟨rfl, rfl⟩))
    (fun os started H enc _ => lifted os started H enc)

theorem proved : Rows.UtfMendsSaid := over
end Go.Proofs.Ytlepgfkhgmgobaa.utfMends
