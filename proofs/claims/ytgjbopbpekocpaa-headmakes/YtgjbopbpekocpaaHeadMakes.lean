/-
  HeadMakes: the header of any texts and numbers, or why there is none. No condition.
-/
import Derived.Test.YtgjbopbpekocpaaRows
import Derived.Test.YtgjbopbpekocpaaLive
import Derived.Test.YtgjbopbpekocpaaRq
import Derived.Test.YtgjbopbpekocpaaOpn
import Derived.WalkKit
import Derived.ProofKit
import Derived.OpenShut
import Derived.ShutString
import Derived.ChangeOld
import Derived.Below
import Derived.SizedLaws
namespace Go.Proofs.Ytgjbopbpekocpaa.headMakes
open Go.ChangeShapes Go.WideShapes Go.ChangeAt Go.RowKit
open Go.ChangeMaps (open_string shut_string)
set_option linter.unusedVariables false

theorem own : ownKnob Try.prog.godebug = none := by kernel_rfl
theorem laidOut : laidOutB Try.prog = true := by kernel_rfl

theorem mk_range {R : RawV} (wide dev : Bool) (rows : List RowD) : ∀ L, 0 ≤ (mkR R wide dev rows L).1 ∧ (mkR R wide dev rows L).1 ≤ 255 := by
  induction rows with
  | nil => intro L; rw [mkR_nil]; show 0 ≤ (0 : Int) ∧ (0 : Int) ≤ 255; decide
  | cons r t ih =>
    intro L
    cases hi : isInB r.inn R.m dev
    · rw [mkR_out R wide dev r t _ hi]; exact ih L
    · by_cases hc : fldC R wide r = 0
      · rw [mkR_lay R wide dev r t _ hi hc]; exact ih _
      · rw [mkR_bad R wide dev r t _ hi hc]
        show 0 ≤ fldC R wide r ∧ fldC R wide r ≤ 255
        unfold fldC
        split
        · unfold tputC; repeat' split
          all_goals decide
        · unfold numC
          split
          · unfold putC; repeat' split
            all_goals decide
          · decide
theorem make_range {R : RawV} (wide dev : Bool) : 0 ≤ makeC R wide dev ∧ makeC R wide dev ≤ 255 := by
  unfold makeC
  split
  · decide
  · split
    · decide
    · exact mk_range wide dev _ _

/-- texts no longer than are gone through -/
theorem raw_ok {R : RawV} (hx : 0 ≤ R.x ∧ R.x ≤ 255) (hN : ∀ k, -9223372036854775808 ≤ R.N k ∧ R.N k ≤ 9223372036854775807) (hT : ∀ k, (R.T k).size ≤ 140737488351232 ∧ (k < 2 ∨ 6 < k → (R.T k).size = 0)) (hs : ¬ 3000 < (R.T 2).size + (R.T 3).size + (R.T 4).size + (R.T 5).size + (R.T 6).size) : R.ok := by
  refine ⟨hx.1, hx.2, fun k => ?_, hN⟩
  by_cases h : k < 2 ∨ 6 < k
  · rw [(hT k).2 h]; decide
  · have : k = 2 ∨ k = 3 ∨ k = 4 ∨ k = 5 ∨ k = 6 := by omega
    rcases this with rfl | rfl | rfl | rfl | rfl <;> omega

set_option maxHeartbeats 4000000 in
set_option maxRecDepth 20000 in
theorem walk (R : RawV) (wide dev : Bool) (w : World) (hx : 0 ≤ R.x ∧ R.x ≤ 255) (hN : ∀ k, -9223372036854775808 ≤ R.N k ∧ R.N k ≤ 9223372036854775807) (hT : ∀ k, (R.T k).size ≤ 140737488351232 ∧ (k < 2 ∨ 6 < k → (R.T k).size = 0)) :
    Calls Try.prog 5 #[.agg R.arr, .bool wide, .bool dev] w fun e w' => e = .returned (.bool true) ∧ Below w.heap.size w w' := by
  have hb0 := (Below.refl w.heap.size w).alloc (Nat.le_refl _) (.cells R.arr 25)
  have hA : R.arr = #[.int .i64 R.m, .int .u8 R.x, .string (R.T 2), .string (R.T 3), .string (R.T 4), .string (R.T 5), .string (R.T 6), .int .i64 (R.N 7), .int .i64 (R.N 8), .int .i64 (R.N 9), .int .i64 (R.N 10), .int .i64 (R.N 11), .int .i64 (R.N 12), .int .i64 (R.N 13)] := rfl
  have z2 := (hT 2).1
  have z3 := (hT 3).1
  have z4 := (hT 4).1
  have z5 := (hT 5).1
  have z6 := (hT 6).1
  by_cases hs : 3000 < (R.T 2).size + (R.T 3).size + (R.T 4).size + (R.T 5).size + (R.T 6).size
  · rw [hA] at hb0 ⊢
    clear hA hT hN hx
    have hs' : (3000 : Int) < ((R.T 2).size : Int) + ((R.T 3).size : Int) + ((R.T 4).size : Int) + ((R.T 5).size : Int) + ((R.T 6).size : Int) := by omega
    clear hs
    go_enter Try.func5, Try.ntmps5
    go_wp2_with (go_at_call 7; refine (alive_any _).mono ?_; rintro e w1 ⟨rfl, hb1⟩; obtain ⟨y0, y1, y2, y3, y4, y5, y6, y7, y8, y9, y10, y11, y12, y13⟩ := cells14 hb1; have hacc := hb0.trans (hb1.mono hb0.size))
    all_goals go_ret
    all_goals exact ⟨rfl, hacc⟩
  · have hok := raw_ok hx hN hT hs
    have hmk := fun w => make_any w R hok wide dev
    have hrm := fun w => rmake_any w R hok wide dev
    have hof := fun w => Of_ok w (.int .i64 R.m) (.int .u8 R.x) (.string (R.T 2)) (.string (R.T 3)) (.string (R.T 4)) (.string (R.T 5)) (.string (R.T 6)) (.int .i64 (R.N 7)) (.int .i64 (R.N 8)) (.int .i64 (R.N 9)) (.int .i64 (R.N 10)) (.int .i64 (R.N 11)) (.int .i64 (R.N 12)) (.int .i64 (R.N 13)) ⟨_, rfl⟩ ⟨_, rfl⟩ ⟨_, rfl⟩ ⟨_, rfl⟩ ⟨_, rfl⟩ ⟨_, rfl⟩ ⟨_, rfl⟩ ⟨_, rfl⟩ ⟨_, rfl⟩ ⟨_, rfl⟩ ⟨_, rfl⟩ ⟨_, rfl⟩ ⟨_, rfl⟩ ⟨_, rfl⟩
    obtain ⟨hC0, hC1⟩ := make_range (R := R) wide dev
    generalize makeC R wide dev = C at *
    generalize makeL R wide dev = M at *
    rw [hA] at hb0 hmk ⊢
    unfold RawV.rarr at hrm
    clear hA hT hN hx hok
    have hs' : ¬ (3000 : Int) < ((R.T 2).size : Int) + ((R.T 3).size : Int) + ((R.T 4).size : Int) + ((R.T 5).size : Int) + ((R.T 6).size : Int) := by omega
    clear hs
    go_enter Try.func5, Try.ntmps5
    go_wp2_with (first
      | (go_at_call 7; refine (alive_any _).mono ?_; rintro e w1 ⟨rfl, hb1⟩; obtain ⟨y0, y1, y2, y3, y4, y5, y6, y7, y8, y9, y10, y11, y12, y13⟩ := cells14 hb1; have hacc := hb0.trans (hb1.mono hb0.size))
      | (go_at_call 18; refine (hmk _).mono ?_; rintro e w2 ⟨a, m, c, rfl, hby, hb2⟩; replace y0 := cell_later hb2 y0; replace y1 := cell_later hb2 y1; replace y2 := cell_later hb2 y2; replace y3 := cell_later hb2 y3; replace y4 := cell_later hb2 y4; replace y5 := cell_later hb2 y5; replace y6 := cell_later hb2 y6; replace y7 := cell_later hb2 y7; replace y8 := cell_later hb2 y8; replace y9 := cell_later hb2 y9; replace y10 := cell_later hb2 y10; replace y11 := cell_later hb2 y11; replace y12 := cell_later hb2 y12; replace y13 := cell_later hb2 y13; replace hacc := hacc.trans (hb2.mono hacc.size); clear hb2)
      | (go_at_call 10; refine (hof _).mono ?_; rintro e w3 ⟨rfl, hb3⟩; replace hby := hby.below hb3; replace hacc := hacc.trans (hb3.mono hacc.size); clear hb3)
      | (go_at_call 19; refine (hrm _).mono ?_; rintro e w4 ⟨a', m', c', rfl, hby', hb4⟩; replace hby := hby.below hb4; replace hacc := hacc.trans (hb4.mono hacc.size); clear hb4)
      | (go_at_call 20; refine (same_walk hby hby').mono ?_; rintro e w' ⟨hw, rfl⟩; obtain rfl := hw.symm))
    all_goals go_ret
    all_goals exact ⟨ret_bool (by simp), hacc⟩

set_option maxRecDepth 100000 in
theorem lifted (os : Os) (started : os.Started) (H : Type) (enc : TypeId × Value → H) :
    ReturnsInHanded {} Try.checked os 5 .any (Rows.headMakesSpec.pre6 enc Try.prog Try.f5 Rows.headMakesRow.domain false) (Rows.headMakesSpec.post enc Try.prog Try.f5 false true false false) := by
  refine returnsInHanded_of_change_sized (C := Try.checked) own started (by kernel_rfl) Try.func5
    (ChangeSpec.witness6 (enc := enc) (C := Try.checked) false ⟨#[], #[.agg #[.int .i64 0, .int .u8 0, .string ⟨#[]⟩, .string ⟨#[]⟩, .string ⟨#[]⟩, .string ⟨#[]⟩, .string ⟨#[]⟩, .int .i64 0, .int .i64 0, .int .i64 0, .int .i64 0, .int .i64 0, .int .i64 0, .int .i64 0], .bool false, .bool false], []⟩ 8 (by kernel_rfl) (by kernel_rfl) (by kernel_rfl) (by kernel_rfl)) ?_
  intro W base args ds gs before hval0 hW hcnd hsz0 _
  have hval : ∀ (j : Nat) t v, Try.f5.params[j]? = some t → args[j]? = some v → Value.okWide Try.prog W .any base t v := hval0
  have hsz : (DataW.weightsEach Try.prog (Try.f5.params.toList ++ Rows.headMakesSpec.plain.varTypes Try.prog) (ds ++ gs)).all (· ≤ reachBytes) = true := hsz0
  have hW' := hW
  obtain ⟨p, q, hA0, hV, rfl, hfz, hnd⟩ := hW
  have hA : DataW.TrodAll enc Try.prog W 0 (fun _ => true) true Try.f5.params.toList args.toList ds p := hA0
  rw [Try.params5] at hA hval hsz
  obtain ⟨v0, vs0, d0, ds0, p0, q0, hargs, rfl, rfl, h0, r0⟩ := trodAll_cons hA
  obtain ⟨v1, vs1, d1, ds1, p1, q1, rfl, rfl, rfl, h1, r1⟩ := trodAll_cons r0
  obtain ⟨v2, vs2, d2, ds2, p2, q2, rfl, rfl, rfl, h2, r2⟩ := trodAll_cons r1
  obtain ⟨rfl, rfl, rfl⟩ := trodAll_nil r2
  obtain rfl : args = #[v0, v1, v2] := by cases args; simp_all
  obtain ⟨rfl, rfl⟩ := trodVars_none hV
  have k0 := h0
  have lt0 : ∀ x ∈ p0, x.block < W.heap.size := by obtain ⟨m, hm⟩ := k0; exact DataW.trod_lt m _ _ _ hm
  obtain ⟨R, rfl, hx, hN, hT⟩ := open_raw (hval 0 25 v0 rfl rfl) h0
  obtain ⟨a1, rfl, rfl, rfl⟩ := open_bool Try.underlying4 (hval 1 4 v1 rfl rfl) h1
  obtain ⟨a2, rfl, rfl, rfl⟩ := open_bool Try.underlying4 (hval 2 4 v2 rfl rfl) h2
  have hT' : ∀ k, (R.T k).size ≤ 140737488351232 ∧ (k < 2 ∨ 6 < k → (R.T k).size = 0) := by
    intro k
    rcases hT k with h | ⟨h, k1, k2⟩
    · exact ⟨by omega, fun _ => h⟩
    · have : (R.T k).size ≤ reachBytes := of_decide_eq_true (List.all_eq_true.1 hsz _ (DataW.weights_mem_each (j := 0) (t := 25) (d := d0) rfl rfl _ h))
      unfold reachBytes at this
      exact ⟨by omega, fun h => by omega⟩
  clear hA0 hval0 hsz0
  refine (walk R a1 a2 W hx hN hT').mono fun e W' ⟨he, bel⟩ => ?_
  subst he
  exact ⟨_, rfl, _, _, _, [], _, [], hW', trodAll_mk1 (shut_bool Try.underlying4 _), (trodAll_cons_mk (Below.trod laidOut (by kernel_rfl) (of_decide_eq_true (by kernel_rfl)) k0 bel lt0) (trodAll_cons_mk (shut_bool Try.underlying4 _) (trodAll_cons_mk (shut_bool Try.underlying4 _) trodAll_mk0))), rfl, bel.frame _, fun h => by cases h⟩

theorem over : Rows.headMakesRow.holds Try.pinned (OpenSpec.ofChange Rows.headMakesSpec) :=
  OpenClaim.holds_of_wide 5 Try.f5 rfl rfl rfl rfl rfl rfl rfl ⟨rfl, rfl, rfl, rfl, rfl⟩ rfl rfl rfl rfl rfl (by kernel_rfl) Try.func5 (by kernel_rfl)
    (of_decide_eq_true (by kernel_rfl)) (by unfold Func.isWrapper; first | (rw [if_pos (by decide +kernel)]; kernel_rfl) | (rw [if_neg (by decide +kernel)]; exact ⟨rfl, rfl⟩))
    (fun os started H enc _ => lifted os started H enc)

theorem proved : Rows.HeadMakesSaid := over
end Go.Proofs.Ytgjbopbpekocpaa.headMakes
