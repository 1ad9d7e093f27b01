/-
  HeadNumbers: the number of any field of any bytes as a header, or why there is none. No condition.
-/
import Derived.Test.YtgjbopbpekocpaaRows
import Derived.Test.YtgjbopbpekocpaaLive
import Derived.Test.YtgjbopbpekocpaaRn
import Derived.WalkKit
import Derived.ProofKit
import Derived.OpenShut
import Derived.ShutString
import Derived.ChangeOld
import Derived.Below
namespace Go.Proofs.Ytgjbopbpekocpaa.headNumbers
open Go.ChangeShapes Go.WideShapes Go.ChangeAt Go.RowKit
open Go.ChangeMaps (open_string shut_string)
set_option linter.unusedVariables false

theorem own : ownKnob Try.prog.godebug = none := by kernel_rfl
theorem laidOut : laidOutB Try.prog = true := by kernel_rfl



theorem numE_is (id : Int) (o : Option Int) : numE id o = 0 ∨ numE id o = 5 := by
  unfold numE
  split
  · exact .inr rfl
  · split
    · exact .inl rfl
    · exact .inr rfl

set_option maxHeartbeats 4000000 in
set_option maxRecDepth 20000 in

theorem walk (a0 : Option Addr) (len0 cap0 : Nat) (z0 : List Int) (a1 : Int) (w : World) (w0 : IsRow .u8 w a0 len0 cap0 z0) (w1 : (Lit.int .i64 a1).wf = true) :
    Calls Try.prog 4 #[.slice a0 len0 cap0, .int .i64 a1] w fun e w' => e = .returned (.bool true) ∧ Below w.heap.size w w' := by
  have hby := row_bys w0
  obtain ⟨l, hl⟩ : ∃ l, l = z0.take len0 := ⟨_, rfl⟩
  rw [← hl] at hby
  clear hl w0 w1
  have hwh := fun w => which_ok w a1
  by_cases h0 : 2000 < len0
  · have hI : (2000 : Int) < len0 := by omega
    clear h0 hby hwh
    go_enter Try.func4, Try.ntmps4
    go_wp2_with (go_at_call 7; refine (alive_any _).mono ?_; rintro e w1 ⟨rfl, hacc⟩)
    all_goals go_ret
    all_goals exact ⟨rfl, hacc⟩
  · have hI : ¬ (2000 : Int) < len0 := by omega
    clear h0
    by_cases h1 : len0 = 512
    · have hI5 : (len0 : Int) = 512 := by omega
      obtain ⟨b, off, rfl⟩ := hby.some_of (by omega)
      have hnu := fun w1 (hb : Below w.heap.size w w1) => number_ok (hby.below hb) h1 a1
      by_cases h2 : whichN a1 < 0
      · rw [numR_which l a1 h2] at hnu
        clear h1 hby
        generalize whichN a1 = q at *
        go_enter Try.func4, Try.ntmps4
        go_wp2_with (first
          | (go_at_call 7; refine (alive_any _).mono ?_; rintro e w1 ⟨rfl, hacc⟩)
          | (go_at_call 15; refine (hnu _ hacc).mono ?_; rintro e w2 ⟨rfl, hb2⟩; replace hacc := hacc.trans (hb2.mono hacc.size); clear hb2)
          | (go_at_call 16; refine (hwh _).mono ?_; rintro e w3 ⟨rfl, hb3⟩; replace hacc := hacc.trans (hb3.mono hacc.size); clear hb3))
        all_goals go_ret
        all_goals exact ⟨rfl, hacc⟩
      · obtain ⟨i, st, wd, hmem, hi, hR⟩ := numR_is l a1 h2
        have hrn := fun w1 (hb : Below w.heap.size w w1) => rnumber_ok (hby.below hb) h1 i st wd a1 hmem
        rw [hR] at hnu
        rw [hi] at hwh
        clear h1 hby hR hi h2 hmem
        have hE := numE_is a1 (got (fieldL l st wd))
        generalize numV a1 (got (fieldL l st wd)) = V at *
        generalize numE a1 (got (fieldL l st wd)) = E at *
        rcases hE with rfl | rfl
        all_goals
          go_enter Try.func4, Try.ntmps4
          go_wp2_with (first
            | (go_at_call 7; refine (alive_any _).mono ?_; rintro e w1 ⟨rfl, hacc⟩)
            | (go_at_call 15; refine (hnu _ hacc).mono ?_; rintro e w2 ⟨rfl, hb2⟩; replace hacc := hacc.trans (hb2.mono hacc.size); clear hb2)
            | (go_at_call 16; refine (hwh _).mono ?_; rintro e w3 ⟨rfl, hb3⟩; replace hacc := hacc.trans (hb3.mono hacc.size); clear hb3)
            | (go_at_call 17; refine (hrn _ hacc).mono ?_; rintro e w4 ⟨rfl, hb4⟩; replace hacc := hacc.trans (hb4.mono hacc.size); clear hb4))
          all_goals go_ret
          all_goals exact ⟨ret_bool (by simp), hacc⟩
    · have hI5 : (len0 : Int) ≠ 512 := by omega
      have hI6 : ((len0 : Int) != 512) = true := by simp [hI5]
      have hnu := fun w1 (hb : Below w.heap.size w w1) => number_bad (hby.below hb) h1 a1
      clear h1 hby
      generalize whichN a1 = q at *
      by_cases hq : q < 0
      all_goals
        go_enter Try.func4, Try.ntmps4
        go_wp2_with (first
          | (go_at_call 7; refine (alive_any _).mono ?_; rintro e w1 ⟨rfl, hacc⟩)
          | (go_at_call 15; refine (hnu _ hacc).mono ?_; rintro e w2 ⟨hw2, rfl⟩; obtain rfl := hw2.symm)
          | (go_at_call 16; refine (hwh _).mono ?_; rintro e w3 ⟨rfl, hb3⟩; replace hacc := hacc.trans (hb3.mono hacc.size); clear hb3))
        all_goals go_ret
        all_goals exact ⟨rfl, hacc⟩

set_option maxRecDepth 100000 in
theorem lifted (os : Os) (started : os.Started) (H : Type) (enc : TypeId × Value → H) :
    ReturnsInHanded {} Try.checked os 4 .any (Rows.headNumbersSpec.pre6 enc Try.prog Try.f4 Rows.headNumbersRow.domain false) (Rows.headNumbersSpec.post enc Try.prog Try.f4 false true false false) := by
  refine returnsInHanded_of_change (C := Try.checked) own started (by kernel_rfl) Try.func4
    (ChangeSpec.witness6 (enc := enc) (C := Try.checked) false ⟨#[], #[.slice none 0 0, .int .i64 0], []⟩ 8 (by kernel_rfl) (by kernel_rfl) (by kernel_rfl) (by kernel_rfl)) ?_
  intro W base args ds gs before hval0 hW hcnd _
  have hval : ∀ (j : Nat) t v, Try.f4.params[j]? = some t → args[j]? = some v → Value.okWide Try.prog W .any base t v := hval0
  have hW' := hW
  obtain ⟨p, q, hA0, hV, rfl, hfz, hnd⟩ := hW
  have hA : DataW.TrodAll enc Try.prog W 0 (fun _ => true) true Try.f4.params.toList args.toList ds p := hA0
  rw [Try.params4] at hA hval
  obtain ⟨v0, vs0, d0, ds0, p0, q0, hargs, rfl, rfl, h0, r0⟩ := trodAll_cons hA
  obtain ⟨v1, vs1, d1, ds1, p1, q1, rfl, rfl, rfl, h1, r1⟩ := trodAll_cons r0
  obtain ⟨rfl, rfl, rfl⟩ := trodAll_nil r1
  obtain rfl : args = #[v0, v1] := by cases args; simp_all
  obtain ⟨rfl, rfl⟩ := trodVars_none hV
  obtain ⟨a0, len0, cap0, rfl⟩ := okWide_slice Try.underlying22 (hval 0 22 v0 rfl rfl)
  have k0 := h0
  have lt0 : ∀ x ∈ p0, x.block < W.heap.size := by obtain ⟨m, hm⟩ := k0; exact DataW.trod_lt m _ _ _ hm
  obtain ⟨z0, w0⟩ : ∃ zs, IsRow .u8 W a0 len0 cap0 zs := by
    obtain ⟨fuel, hf⟩ := h0
    rcases open_ints Try.underlying22 Try.underlying5 (by kernel_rfl) hf with ⟨hcs, _⟩ | ⟨x, l, c, zs, hcs, _, hl, hm, hz, _, hcell, hwz⟩
    · simp [Value.cells] at hcs
      obtain ⟨rfl, rfl, rfl⟩ := hcs
      exact ⟨[], .inl ⟨rfl, rfl, rfl, rfl⟩⟩
    · simp [Value.cells] at hcs
      obtain ⟨rfl, rfl, rfl⟩ := hcs
      exact ⟨zs, .inr ⟨_, rfl, hl, hm, by simpa using hz, hcell, hwz⟩⟩
  obtain ⟨a1, rfl, rfl, rfl, w1⟩ := open_int Try.underlying3 (hval 1 3 v1 rfl rfl) h1
  clear hA0 hval0
  refine (walk a0 len0 cap0 z0 a1 W w0 w1).mono fun e W' ⟨he, bel⟩ => ?_
  subst he
  exact ⟨_, rfl, _, _, _, [], _, [], hW', trodAll_mk1 (shut_bool Try.underlying4 _), (trodAll_cons_mk (Below.trod laidOut (by kernel_rfl) (of_decide_eq_true (by kernel_rfl)) k0 bel lt0) (trodAll_cons_mk (shut_int Try.underlying3 w1) trodAll_mk0)), rfl, bel.frame _, fun h => by cases h⟩

theorem over : Rows.headNumbersRow.holds Try.pinned (OpenSpec.ofChange Rows.headNumbersSpec) :=
  OpenClaim.holds_of_wide 4 Try.f4 rfl rfl rfl rfl rfl rfl rfl ⟨rfl, rfl, rfl, rfl, rfl⟩ rfl rfl rfl rfl rfl (by kernel_rfl) Try.func4 (by kernel_rfl)
    (of_decide_eq_true (by kernel_rfl)) (by unfold Func.isWrapper; first | (rw [if_pos (by decide +kernel)]; kernel_rfl) | (rw [if_neg (by decide +kernel)]; exact ⟨rfl, rfl⟩))
    (fun os started H enc _ => lifted os started H enc)

theorem proved : Rows.HeadNumbersSaid := over
end Go.Proofs.Ytgjbopbpekocpaa.headNumbers
