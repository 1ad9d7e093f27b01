/-
  SumChecks: both sums of any bytes, whether their field tells one, and what they are sealed. No condition.
-/
import Derived.Test.YtnoeijplgidoeaaRows
import Derived.Test.YtnoeijplgidoeaaLive
import Derived.WalkKit
import Derived.ProofKit
import Derived.OpenShut
import Derived.ShutString
import Derived.ChangeOld
import Derived.Below
namespace Go.Proofs.Ytnoeijplgidoeaa.sumChecks
open Go.ChangeShapes Go.WideShapes Go.ChangeAt Go.RowKit
open Go.ChangeMaps (open_string shut_string)
set_option linter.unusedVariables false

theorem own : ownKnob Try.prog.godebug = none := by kernel_rfl
theorem laidOut : laidOutB Try.prog = true := by kernel_rfl



theorem chk_range (l : List Int) : 0 ≤ chk l ∧ chk l ≤ 5 := by
  unfold chk
  split
  · simp
  · split
    · simp
    · split <;> simp

theorem seal_bys {w w1 : World} {g c len : Nat} {l : List Int} (hr : ∀ x ∈ l, 0 ≤ x ∧ x ≤ 255) (hll : l.length = 512) (hlen : len = 512) (h : w1.ownsRow w.heap.size 5 1 (.slice (some ⟨g, 0, none⟩) len c) len (u8s (sealL l))) :
    Bys w1 (some ⟨g, 0, none⟩) len c (sealL l) := by
  obtain ⟨a, c', e, hb⟩ := own_bys h (by rw [seal_length _ hll, hlen]) (seal_range _ hr)
  simp only [Value.slice.injEq, true_and] at e
  obtain ⟨rfl, rfl⟩ := e
  exact hb

set_option maxHeartbeats 8000000 in
set_option maxRecDepth 20000 in

theorem walk (a0 : Option Addr) (len0 cap0 : Nat) (z0 : List Int) (w : World) (w0 : IsRow .u8 w a0 len0 cap0 z0) :
    Calls Try.prog 3 #[.slice a0 len0 cap0] w fun e w' => e = .returned (.bool true) ∧ Below w.heap.size w w' := by
  have hby := row_bys w0
  obtain ⟨l, hl⟩ : ∃ l, l = z0.take len0 := ⟨_, rfl⟩
  rw [← hl] at hby
  clear hl w0
  by_cases hbig : 2000 < len0
  · go_enter Try.func3, Try.ntmps3
    go_wp2_with (go_at_call 5; refine (alive_any _).mono ?_; rintro e w1 ⟨rfl, hacc⟩)
    all_goals go_ret
    all_goals exact ⟨rfl, hacc⟩
  · by_cases h512 : len0 = 512
    · have hlen' := hid h512
      have hI : (len0 : Int) = 512 := by omega
      have hll := hid (hby.1.trans h512)
      have hr := hby.2.2.2.1
      have hq := chk_range l
      have hsum := fun w1 (hb : Below w.heap.size w w1) => sum_ok (hby.below hb) hlen'.out
      have hrs := fun w1 (hb : Below w.heap.size w w1) => rsums_ok (hby.below hb) hlen'.out
      have hch := fun w1 (hb : Below w.heap.size w w1) => check_ok (hby.below hb) hlen'.out
      have hrc := fun w1 (hb : Below w.heap.size w w1) => rcheck_ok (hby.below hb) hlen'.out
      generalize pl 0 l = p at *
      generalize sn 0 l = s at *
      generalize chk l = q at *
      obtain ⟨hq0, hq1⟩ := hq
      clear h512
      go_enter Try.func3, Try.ntmps3
      go_wp2_with (first
        | (go_at_call 5; refine (alive_any _).mono ?_; rintro e w1 ⟨rfl, hacc⟩)
        | (go_at_call 6; refine (hsum _ hacc).mono ?_; rintro e w' ⟨hw', rfl⟩; obtain rfl := hw'.symm)
        | (go_at_call 7; refine (seal_ok (hby.below hacc) hlen'.out).mono ?_; rintro e w2 ⟨g, c, rfl, hown, hw⟩; have hbp := seal_bys hr hll.out hlen'.out hown; clear hown; replace hacc := hacc.trans (hw.mono hacc.size))
        | (go_at_call 8; refine (hch _ hacc).mono ?_; rintro e w' ⟨hw', rfl⟩; obtain rfl := hw'.symm)
        | (go_at_call 9; refine (hrc _ hacc).mono ?_; rintro e w' ⟨hw', rfl⟩; obtain rfl := hw'.symm)
        | (go_at_call 10; refine (hrs _ hacc).mono ?_; rintro e w' ⟨hw', rfl⟩; obtain rfl := hw'.symm)
        | (go_at_call 12; refine (rseal_ok (hby.below hacc) hlen'.out).mono ?_; rintro e w3 ⟨g', c', rfl, hown, hw⟩; have hbq := seal_bys hr hll.out hlen'.out hown; clear hown; replace hbp := hbp.below hw; replace hacc := hacc.trans (hw.mono hacc.size))
        | (go_at_call 11; refine (same_any hbp hbq).mono ?_; rintro e w' ⟨hw', rfl⟩; obtain rfl := hw'.symm))
      all_goals go_ret
      all_goals exact ⟨rfl, hacc⟩
    · have hI : (len0 : Int) ≠ 512 := by omega
      have hsum := fun w1 (hb : Below w.heap.size w w1) => sum_bad (hby.below hb) h512
      have hse := fun w1 (hb : Below w.heap.size w w1) => seal_bad (hby.below hb) h512
      have hch := fun w1 (hb : Below w.heap.size w w1) => check_bad (hby.below hb) h512
      have hrc := fun w1 (hb : Below w.heap.size w w1) => rcheck_bad (hby.below hb) h512
      clear h512
      go_enter Try.func3, Try.ntmps3
      go_wp2_with (first
        | (go_at_call 5; refine (alive_any _).mono ?_; rintro e w1 ⟨rfl, hacc⟩)
        | (go_at_call 6; refine (hsum _ hacc).mono ?_; rintro e w' ⟨hw', rfl⟩; obtain rfl := hw'.symm)
        | (go_at_call 7; refine (hse _ hacc).mono ?_; rintro e w' ⟨hw', rfl⟩; obtain rfl := hw'.symm)
        | (go_at_call 8; refine (hch _ hacc).mono ?_; rintro e w' ⟨hw', rfl⟩; obtain rfl := hw'.symm)
        | (go_at_call 9; refine (hrc _ hacc).mono ?_; rintro e w' ⟨hw', rfl⟩; obtain rfl := hw'.symm))
      all_goals go_ret
      all_goals exact ⟨rfl, hacc⟩

set_option maxRecDepth 100000 in
theorem lifted (os : Os) (started : os.Started) (H : Type) (enc : TypeId × Value → H) :
    ReturnsInHanded {} Try.checked os 3 .any (Rows.sumChecksSpec.pre6 enc Try.prog Try.f3 Rows.sumChecksRow.domain false) (Rows.sumChecksSpec.post enc Try.prog Try.f3 false true false false) := by
  refine returnsInHanded_of_change (C := Try.checked) own started (by kernel_rfl) Try.func3
    (ChangeSpec.witness6 (enc := enc) (C := Try.checked) false ⟨#[], #[.slice none 0 0], []⟩ 8 (by kernel_rfl) (by kernel_rfl) (by kernel_rfl) (by kernel_rfl)) ?_
  intro W base args ds gs before hval0 hW hcnd _
  have hval : ∀ (j : Nat) t v, Try.f3.params[j]? = some t → args[j]? = some v → Value.okWide Try.prog W .any base t v := hval0
  have hW' := hW
  obtain ⟨p, q, hA0, hV, rfl, hfz, hnd⟩ := hW
  have hA : DataW.TrodAll enc Try.prog W 0 (fun _ => true) true Try.f3.params.toList args.toList ds p := hA0
  rw [Try.params3] at hA hval
  obtain ⟨v0, vs0, d0, ds0, p0, q0, hargs, rfl, rfl, h0, r0⟩ := trodAll_cons hA
  obtain ⟨rfl, rfl, rfl⟩ := trodAll_nil r0
  obtain rfl : args = #[v0] := by cases args; simp_all
  obtain ⟨rfl, rfl⟩ := trodVars_none hV
  obtain ⟨a0, len0, cap0, rfl⟩ := okWide_slice Try.underlying22 (hval 0 22 v0 rfl rfl)
  have k0 := h0
  have lt0 : ∀ x ∈ p0, x.block < W.heap.size := by obtain ⟨m, hm⟩ := k0; exact DataW.trod_lt m _ _ _ hm
  obtain ⟨z0, w0⟩ : ∃ zs, IsRow .u8 W a0 len0 cap0 zs := by
    obtain ⟨fuel, hf⟩ := h0
    rcases open_ints Try.underlying22 Try.underlying5 (by kernel_rfl) hf with ⟨hcs, _⟩ | ⟨x, l, c, zs, hcs, _, hl, hm, hz, _, hcell, hwz⟩
    · simp [Value.cells] at hcs
      obtain ⟨rfl, rfl, rfl⟩ := hcs
      exact ⟨[], .inl ⟨rfl, rfl, rfl, rfl⟩⟩
    · simp [Value.cells] at hcs
      obtain ⟨rfl, rfl, rfl⟩ := hcs
      exact ⟨zs, .inr ⟨_, rfl, hl, hm, by simpa using hz, hcell, hwz⟩⟩
  clear hA0 hval0
  refine (walk a0 len0 cap0 z0 W w0).mono fun e W' ⟨he, bel⟩ => ?_
  subst he
  exact ⟨_, rfl, _, _, _, [], _, [], hW', trodAll_mk1 (shut_bool Try.underlying4 _), (trodAll_cons_mk (Below.trod laidOut (by kernel_rfl) (of_decide_eq_true (by kernel_rfl)) k0 bel lt0) trodAll_mk0), rfl, bel.frame _, fun h => by cases h⟩

theorem over : Rows.sumChecksRow.holds Try.pinned (OpenSpec.ofChange Rows.sumChecksSpec) :=
  OpenClaim.holds_of_wide 3 Try.f3 rfl rfl rfl rfl rfl rfl rfl ⟨rfl, rfl, rfl, rfl, rfl⟩ rfl rfl rfl rfl rfl (by kernel_rfl) Try.func3 (by kernel_rfl)
    (of_decide_eq_true (by kernel_rfl)) (by unfold Func.isWrapper; first | (rw [if_pos (by decide +kernel)]; kernel_rfl) | (rw [if_neg (by decide +kernel)]; exact ⟨rfl, rfl⟩))
    (fun os started H enc _ => lifted os started H enc)

theorem proved : Rows.SumChecksSaid := over
end Go.Proofs.Ytnoeijplgidoeaa.sumChecks
