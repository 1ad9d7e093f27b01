/-
  HeadGets: mark, flag and texts of any bytes as a header, its full name, or why it is none. No condition.
-/
import Derived.Test.YtgjbopbpekocpaaRows
import Derived.Test.YtgjbopbpekocpaaLive
import Derived.Test.YtgjbopbpekocpaaEq
import Derived.Test.YtgjbopbpekocpaaSm
import Derived.WalkKit
import Derived.ProofKit
import Derived.OpenShut
import Derived.ShutString
import Derived.ChangeOld
import Derived.Below
namespace Go.Proofs.Ytgjbopbpekocpaa.headGets
open Go.ChangeShapes Go.WideShapes Go.ChangeAt Go.RowKit
open Go.ChangeMaps (open_string shut_string)
set_option linter.unusedVariables false

theorem own : ownKnob Try.prog.godebug = none := by kernel_rfl
theorem laidOut : laidOutB Try.prog = true := by kernel_rfl



theorem rawZ_of (w : World) : Calls Try.prog 10 #[.agg rawZ] w fun e' w' => e' = .returned (.agg rawZ) ∧ Below w.heap.size w w' :=
  Of_ok w _ _ _ _ _ _ _ _ _ _ _ _ _ _ ⟨_, rfl⟩ ⟨_, rfl⟩ ⟨_, rfl⟩ ⟨_, rfl⟩ ⟨_, rfl⟩ ⟨_, rfl⟩ ⟨_, rfl⟩ ⟨_, rfl⟩ ⟨_, rfl⟩ ⟨_, rfl⟩ ⟨_, rfl⟩ ⟨_, rfl⟩ ⟨_, rfl⟩ ⟨_, rfl⟩

/-- both get the same: what each answers, whatever the bytes are -/
theorem both {w : World} {a : Option Addr} {n c : Nat} {l : List Int} (h : Bys w a n c l) :
    ∃ (m x : Int) (s2 s3 s4 s5 s6 : ByteArray) (C : Int), 0 ≤ C ∧ C ≤ 255 ∧ s2.size + s4.size ≤ 1000000 ∧
      (Calls Try.prog 8 #[.slice a n c] w fun e w' => e = .returned (.tuple #[.agg #[.int .i64 m, .int .u8 x, .string s2, .string s3, .string s4, .string s5, .string s6, .int .i64 0, .int .i64 0, .int .i64 0, .int .i64 0, .int .i64 0, .int .i64 0, .int .i64 0], .int .u8 C]) ∧ Below w.heap.size w w') ∧
      (∀ w1, Below w.heap.size w w1 → Calls Try.prog 9 #[.slice a n c] w1 fun e w' => e = .returned (.tuple #[.agg #[.int .i64 m, .int .u8 x, .string s2, .string s3, .string s5, .string s6, .string s4, .int .i64 0, .int .i64 0, .int .i64 0, .int .i64 0, .int .i64 0, .int .i64 0, .int .i64 0], .int .i64 C]) ∧ Below w1.heap.size w1 w') := by
  by_cases h5 : n = 512
  · obtain ⟨b, off, rfl⟩ := h.some_of (by omega)
    by_cases hz : chk l = 0
    · cases hf : flagB (l.getD 156 0)
      · exact ⟨0, 0, ⟨#[]⟩, ⟨#[]⟩, ⟨#[]⟩, ⟨#[]⟩, ⟨#[]⟩, 9, by omega, by omega, by decide, get_flag h h5 hz hf, fun w1 hb => rget_flag (h.below hb) h5 hz hf⟩
      · refine ⟨_, _, gt true l 0 100, _, gt (isInB 3 (markL (fieldL l 257 8)) false) l 345 155, _, _, 0, by omega, by omega, ?_, get_good h h5 hz hf, fun w1 hb => rget_good (h.below hb) h5 hz hf⟩
        have hsz : ∀ b st wd, wd ≤ 1000 → (gt b l st wd).size ≤ 1000 := by
          intro b st wd hw
          unfold gt
          split
          · rw [str_size]
            have h1 := upto_le (fieldL l st wd)
            have h2 : (fieldL l st wd).length ≤ wd := by unfold fieldL; rw [List.length_take]; omega
            omega
          · decide
        have := hsz true 0 100 (by omega)
        have := hsz (isInB 3 (markL (fieldL l 257 8)) false) 345 155 (by omega)
        omega
    · refine ⟨0, 0, ⟨#[]⟩, ⟨#[]⟩, ⟨#[]⟩, ⟨#[]⟩, ⟨#[]⟩, chk l, ?_, ?_, by decide, get_wrong h h5 hz, fun w1 hb => rget_wrong (h.below hb) h5 hz⟩
      · unfold chk; split
        · omega
        · split
          · omega
          · split <;> omega
      · unfold chk; split
        · omega
        · split
          · omega
          · split <;> omega
  · exact ⟨0, 0, ⟨#[]⟩, ⟨#[]⟩, ⟨#[]⟩, ⟨#[]⟩, ⟨#[]⟩, 2, by omega, by omega, by decide, get_bad h h5, fun w1 hb => rget_bad (h.below hb) h5⟩

theorem wrap8 (C : Int) (h0 : 0 ≤ C) (h1 : C ≤ 255) : IntKind.i64.wrap C = C := by rw [IntKind.wrap_i64]; omega

set_option maxHeartbeats 8000000 in
set_option maxRecDepth 20000 in

theorem walk (a0 : Option Addr) (len0 cap0 : Nat) (z0 : List Int) (w : World) (w0 : IsRow .u8 w a0 len0 cap0 z0) :
    Calls Try.prog 3 #[.slice a0 len0 cap0] w fun e w' => e = .returned (.bool true) ∧ Below w.heap.size w w' := by
  have hby := row_bys w0
  obtain ⟨l, hl⟩ : ∃ l, l = z0.take len0 := ⟨_, rfl⟩
  rw [← hl] at hby
  clear hl w0
  by_cases h0 : 2000 < len0
  · have hI : (2000 : Int) < len0 := by omega
    clear h0 hby
    go_enter Try.func3, Try.ntmps3
    go_wp2_with (go_at_call 7; refine (alive_any _).mono ?_; rintro e w1 ⟨rfl, hacc⟩)
    all_goals go_ret
    all_goals exact ⟨rfl, hacc⟩
  · have hI : ¬ (2000 : Int) < len0 := by omega
    clear h0
    go_enter Try.func3, Try.ntmps3
    go_upto_region 5 with (go_at_call 7; refine (alive_any _).mono ?_; rintro e w1 ⟨rfl, hacc⟩)
    obtain ⟨m, x, s2, s3, s4, s5, s6, C, hC0, hC1, hss, hg1, hg2⟩ := both (hby.below hacc)
    have hwr := wrap8 C hC0 hC1
    go_wp2_with (first
      | (go_at_call 8; refine hg1.mono ?_; rintro e w2 ⟨rfl, hb2⟩; have hb2' := hb2.alloc hb2.size (.cells #[.int .i64 m, .int .u8 x, .string s2, .string s3, .string s4, .string s5, .string s6, .int .i64 0, .int .i64 0, .int .i64 0, .int .i64 0, .int .i64 0, .int .i64 0, .int .i64 0] 25))
      | (go_at_call 9; refine (hg2 _ hb2').mono ?_; rintro e w3 ⟨rfl, hb3⟩; obtain ⟨y0, y1, y2, y3, y4, y5, y6, y7, y8, y9, y10, y11, y12, y13⟩ := cells14 hb3; have hb4 := hb2'.trans (hb3.mono hb2'.size)))
    have hb5 := hb4.alloc hb4.size (.cells #[.int .i64 m, .int .u8 x, .string s2, .string s3, .string s5, .string s6, .string s4, .int .i64 0, .int .i64 0, .int .i64 0, .int .i64 0, .int .i64 0, .int .i64 0, .int .i64 0] 32)
    have hW : Below w3.heap.size w3 (w3.alloc (.cells #[.int .i64 m, .int .u8 x, .string s2, .string s3, .string s5, .string s6, .string s4, .int .i64 0, .int .i64 0, .int .i64 0, .int .i64 0, .int .i64 0, .int .i64 0, .int .i64 0] 32)) := (Below.refl _ _).alloc (Nat.le_refl _) _
    have hBk1 := (Blk.new w2 #[.int .i64 m, .int .u8 x, .string s2, .string s3, .string s4, .string s5, .string s6, .int .i64 0, .int .i64 0, .int .i64 0, .int .i64 0, .int .i64 0, .int .i64 0, .int .i64 0] 25).below hb3
    replace hBk1 := hBk1.below hW
    have hBk2 := Blk.new w3 #[.int .i64 m, .int .u8 x, .string s2, .string s3, .string s5, .string s6, .string s4, .int .i64 0, .int .i64 0, .int .i64 0, .int .i64 0, .int .i64 0, .int .i64 0, .int .i64 0] 32
    replace hacc := hacc.trans (hb5.mono hacc.size)
    have hby' := hby.below hacc
    clear hg1 hg2 hb2 hb2' hb3 hb4 hb5 hW y0 y1 y2 y3 y4 y5 y6 y7 y8 y9 y10 y11 y12 y13
    generalize hww : w3.alloc (.cells #[.int .i64 m, .int .u8 x, .string s2, .string s3, .string s5, .string s6, .string s4, .int .i64 0, .int .i64 0, .int .i64 0, .int .i64 0, .int .i64 0, .int .i64 0, .int .i64 0] 32) = W at *
    generalize w2.heap.size = g1 at *
    generalize w3.heap.size = g2 at *
    clear hww
    have ca0 : ∀ p : After W, p.out.cell? ⟨g1, 0, none⟩ = some (.int .i64 m) := fun p => (hBk1.below p.bel).cell 0
    have ca1 : ∀ p : After W, p.out.cell? ⟨g1, 1, none⟩ = some (.int .u8 x) := fun p => (hBk1.below p.bel).cell 1
    have ca2 : ∀ p : After W, p.out.cell? ⟨g1, 2, none⟩ = some (.string s2) := fun p => (hBk1.below p.bel).cell 2
    have ca3 : ∀ p : After W, p.out.cell? ⟨g1, 3, none⟩ = some (.string s3) := fun p => (hBk1.below p.bel).cell 3
    have ca4 : ∀ p : After W, p.out.cell? ⟨g1, 4, none⟩ = some (.string s4) := fun p => (hBk1.below p.bel).cell 4
    have ca5 : ∀ p : After W, p.out.cell? ⟨g1, 5, none⟩ = some (.string s5) := fun p => (hBk1.below p.bel).cell 5
    have ca6 : ∀ p : After W, p.out.cell? ⟨g1, 6, none⟩ = some (.string s6) := fun p => (hBk1.below p.bel).cell 6
    have ca7 : ∀ p : After W, p.out.cell? ⟨g1, 7, none⟩ = some (.int .i64 0) := fun p => (hBk1.below p.bel).cell 7
    have ca8 : ∀ p : After W, p.out.cell? ⟨g1, 8, none⟩ = some (.int .i64 0) := fun p => (hBk1.below p.bel).cell 8
    have ca9 : ∀ p : After W, p.out.cell? ⟨g1, 9, none⟩ = some (.int .i64 0) := fun p => (hBk1.below p.bel).cell 9
    have ca10 : ∀ p : After W, p.out.cell? ⟨g1, 10, none⟩ = some (.int .i64 0) := fun p => (hBk1.below p.bel).cell 10
    have ca11 : ∀ p : After W, p.out.cell? ⟨g1, 11, none⟩ = some (.int .i64 0) := fun p => (hBk1.below p.bel).cell 11
    have ca12 : ∀ p : After W, p.out.cell? ⟨g1, 12, none⟩ = some (.int .i64 0) := fun p => (hBk1.below p.bel).cell 12
    have ca13 : ∀ p : After W, p.out.cell? ⟨g1, 13, none⟩ = some (.int .i64 0) := fun p => (hBk1.below p.bel).cell 13
    have cb0 : ∀ p : After W, p.out.cell? ⟨g2, 0, none⟩ = some (.int .i64 m) := fun p => (hBk2.below p.bel).cell 0
    have cb1 : ∀ p : After W, p.out.cell? ⟨g2, 1, none⟩ = some (.int .u8 x) := fun p => (hBk2.below p.bel).cell 1
    have cb2 : ∀ p : After W, p.out.cell? ⟨g2, 2, none⟩ = some (.string s2) := fun p => (hBk2.below p.bel).cell 2
    have cb3 : ∀ p : After W, p.out.cell? ⟨g2, 3, none⟩ = some (.string s3) := fun p => (hBk2.below p.bel).cell 3
    have cb4 : ∀ p : After W, p.out.cell? ⟨g2, 4, none⟩ = some (.string s5) := fun p => (hBk2.below p.bel).cell 4
    have cb5 : ∀ p : After W, p.out.cell? ⟨g2, 5, none⟩ = some (.string s6) := fun p => (hBk2.below p.bel).cell 5
    have cb6 : ∀ p : After W, p.out.cell? ⟨g2, 6, none⟩ = some (.string s4) := fun p => (hBk2.below p.bel).cell 6
    have cb7 : ∀ p : After W, p.out.cell? ⟨g2, 7, none⟩ = some (.int .i64 0) := fun p => (hBk2.below p.bel).cell 7
    have cb8 : ∀ p : After W, p.out.cell? ⟨g2, 8, none⟩ = some (.int .i64 0) := fun p => (hBk2.below p.bel).cell 8
    have cb9 : ∀ p : After W, p.out.cell? ⟨g2, 9, none⟩ = some (.int .i64 0) := fun p => (hBk2.below p.bel).cell 9
    have cb10 : ∀ p : After W, p.out.cell? ⟨g2, 10, none⟩ = some (.int .i64 0) := fun p => (hBk2.below p.bel).cell 10
    have cb11 : ∀ p : After W, p.out.cell? ⟨g2, 11, none⟩ = some (.int .i64 0) := fun p => (hBk2.below p.bel).cell 11
    have cb12 : ∀ p : After W, p.out.cell? ⟨g2, 12, none⟩ = some (.int .i64 0) := fun p => (hBk2.below p.bel).cell 12
    have cb13 : ∀ p : After W, p.out.cell? ⟨g2, 13, none⟩ = some (.int .i64 0) := fun p => (hBk2.below p.bel).cell 13
    have hOf : ∀ p : After W, Calls Try.prog 10 #[.agg #[.int .i64 m, .int .u8 x, .string s2, .string s3, .string s4, .string s5, .string s6, .int .i64 0, .int .i64 0, .int .i64 0, .int .i64 0, .int .i64 0, .int .i64 0, .int .i64 0]] p.out fun e w' => e = .returned (.agg #[.int .i64 m, .int .u8 x, .string s2, .string s3, .string s5, .string s6, .string s4, .int .i64 0, .int .i64 0, .int .i64 0, .int .i64 0, .int .i64 0, .int .i64 0, .int .i64 0]) ∧ Below p.out.heap.size p.out w' := fun p => Of_ok p.out _ _ _ _ _ _ _ _ _ _ _ _ _ _ ⟨_, rfl⟩ ⟨_, rfl⟩ ⟨_, rfl⟩ ⟨_, rfl⟩ ⟨_, rfl⟩ ⟨_, rfl⟩ ⟨_, rfl⟩ ⟨_, rfl⟩ ⟨_, rfl⟩ ⟨_, rfl⟩ ⟨_, rfl⟩ ⟨_, rfl⟩ ⟨_, rfl⟩ ⟨_, rfl⟩
    have hFu : ∀ p : After W, Calls Try.prog 11 #[.agg #[.int .i64 m, .int .u8 x, .string s2, .string s3, .string s4, .string s5, .string s6, .int .i64 0, .int .i64 0, .int .i64 0, .int .i64 0, .int .i64 0, .int .i64 0, .int .i64 0]] p.out fun e w' => e = .returned (.string (fullS s2 s4)) ∧ Below p.out.heap.size p.out w' := fun p => full_ok p.out _ _ s2 s3 s4 s5 s6 _ _ _ _ _ _ _ hss
    have hRf : ∀ p : After W, Calls Try.prog 12 #[.agg #[.int .i64 m, .int .u8 x, .string s2, .string s3, .string s5, .string s6, .string s4, .int .i64 0, .int .i64 0, .int .i64 0, .int .i64 0, .int .i64 0, .int .i64 0, .int .i64 0]] p.out fun e w' => e = .returned (.string (fullS s2 s4)) ∧ Below p.out.heap.size p.out w' := fun p => rfull_ok p.out _ _ s2 s3 s4 s5 s6 _ _ _ _ _ _ _ hss
    have hZe : ∀ p : After W, Calls Try.prog 13 #[.slice a0 len0 cap0] p.out fun e w' => w' = p.out ∧ e = .returned (.bool (zeroB l)) := fun p => zero_ok (hby'.below p.bel)
    have hBl : ∀ p : After W, Calls Try.prog 14 #[.slice a0 len0 cap0] p.out fun e w' => w' = p.out ∧ e = .returned (.bool (blankB l)) := fun p => rblank_walk (hby'.below p.bel)
    have hq : ∀ p : After W, (binOp .eql 32 (.agg #[.int .i64 m, .int .u8 x, .string s2, .string s3, .string s5, .string s6, .string s4, .int .i64 0, .int .i64 0, .int .i64 0, .int .i64 0, .int .i64 0, .int .i64 0, .int .i64 0]) (.agg #[.int .i64 m, .int .u8 x, .string s2, .string s3, .string s5, .string s6, .string s4, .int .i64 0, .int .i64 0, .int .i64 0, .int .i64 0, .int .i64 0, .int .i64 0, .int .i64 0])).run Try.prog p.out = .ok (.bool true) p.out := fun p => eq32 p.out _ _ _ _ _ _ _ _ _ _ _ _ _ _
    have hne : Nonempty (After W) := ⟨⟨W, Below.refl _ _⟩⟩
    have e29 := fun w => eq29 s2 s3 s5 s6 s4 w
    have e30 := fun w => eq30 0 0 0 0 0 0 0 w
    generalize fullS s2 s4 = fu at *
    by_cases h5 : len0 = 512
    · have hI5 : (len0 : Int) = 512 := by omega
      have hzb : zeroB l = blankB l := by unfold zeroB; rw [decide_eq_true (hby.1.trans h5)]; rfl
      rw [hzb] at hZe
      generalize blankB l = bl at *
      clear h5 hzb hby hby' hBk1 hBk2 hss
      refine wp_region_after (by kernel_rfl) (by kernel_rfl) ?_
      repeat (go_big_quiet_step (first | (go_at_call 10; exact after_below _ (hOf _)) | (go_at_call 11; exact after_below _ (hFu _)) | (go_at_call 12; exact after_below _ (hRf _)) | (go_at_call 13; exact after_same _ (hZe _)) | (go_at_call 14; exact after_same _ (hBl _))))
      refine wpQuiet_nil ?_
      intro wq hw'
      obtain ⟨⟨x', hwq⟩, hx⟩ := hw'
      simp only at hx
      subst hx
      go_wp2
      all_goals go_ret
      all_goals exact ⟨ret_bool (by simp), hacc.trans (hwq.mono hacc.size)⟩
    · have hI5 : ((len0 : Int) == 512) = false := by simp; omega
      have hzb : zeroB l = false := by unfold zeroB; rw [decide_eq_false (by rw [hby.1]; exact h5)]; rfl
      rw [hzb] at hZe
      clear h5 hzb hby hby' hBk1 hBk2 hss hBl
      refine wp_region_after (by kernel_rfl) (by kernel_rfl) ?_
      repeat (go_big_quiet_step (first | (go_at_call 10; exact after_below _ (hOf _)) | (go_at_call 11; exact after_below _ (hFu _)) | (go_at_call 12; exact after_below _ (hRf _)) | (go_at_call 13; exact after_same _ (hZe _))))
      refine wpQuiet_nil ?_
      intro wq hw'
      obtain ⟨⟨x', hwq⟩, hx⟩ := hw'
      simp only at hx
      subst hx
      go_wp2
      all_goals go_ret
      all_goals exact ⟨ret_bool (by simp), hacc.trans (hwq.mono hacc.size)⟩

set_option maxRecDepth 100000 in
theorem lifted (os : Os) (started : os.Started) (H : Type) (enc : TypeId × Value → H) :
    ReturnsInHanded {} Try.checked os 3 .any (Rows.headGetsSpec.pre6 enc Try.prog Try.f3 Rows.headGetsRow.domain false) (Rows.headGetsSpec.post enc Try.prog Try.f3 false true false false) := by
  refine returnsInHanded_of_change (C := Try.checked) own started (by kernel_rfl) Try.func3
    (ChangeSpec.witness6 (enc := enc) (C := Try.checked) false ⟨#[], #[.slice none 0 0], []⟩ 8 (by kernel_rfl) (by kernel_rfl) (by kernel_rfl) (by kernel_rfl)) ?_
  intro W base args ds gs before hval0 hW hcnd _
  have hval : ∀ (j : Nat) t v, Try.f3.params[j]? = some t → args[j]? = some v → Value.okWide Try.prog W .any base t v := hval0
  have hW' := hW
  obtain ⟨p, q, hA0, hV, rfl, hfz, hnd⟩ := hW
  have hA : DataW.TrodAll enc Try.prog W 0 (fun _ => true) true Try.f3.params.toList args.toList ds p := hA0
  rw [Try.params3] at hA hval
  obtain ⟨v0, vs0, d0, ds0, p0, q0, hargs, rfl, rfl, h0, r0⟩ := trodAll_cons hA
  obtain ⟨rfl, rfl, rfl⟩ := trodAll_nil r0
  obtain rfl : args = #[v0] := by cases args; simp_all
  obtain ⟨rfl, rfl⟩ := trodVars_none hV
  obtain ⟨a0, len0, cap0, rfl⟩ := okWide_slice Try.underlying22 (hval 0 22 v0 rfl rfl)
  have k0 := h0
  have lt0 : ∀ x ∈ p0, x.block < W.heap.size := by obtain ⟨m, hm⟩ := k0; exact DataW.trod_lt m _ _ _ hm
  obtain ⟨z0, w0⟩ : ∃ zs, IsRow .u8 W a0 len0 cap0 zs := by
    obtain ⟨fuel, hf⟩ := h0
    rcases open_ints Try.underlying22 Try.underlying5 (by kernel_rfl) hf with ⟨hcs, _⟩ | ⟨x, l, c, zs, hcs, _, hl, hm, hz, _, hcell, hwz⟩
    · simp [Value.cells] at hcs
      obtain ⟨rfl, rfl, rfl⟩ := hcs
      exact ⟨[], .inl ⟨rfl, rfl, rfl, rfl⟩⟩
    · simp [Value.cells] at hcs
      obtain ⟨rfl, rfl, rfl⟩ := hcs
      exact ⟨zs, .inr ⟨_, rfl, hl, hm, by simpa using hz, hcell, hwz⟩⟩
  clear hA0 hval0
  refine (walk a0 len0 cap0 z0 W w0).mono fun e W' ⟨he, bel⟩ => ?_
  subst he
  exact ⟨_, rfl, _, _, _, [], _, [], hW', trodAll_mk1 (shut_bool Try.underlying4 _), (trodAll_cons_mk (Below.trod laidOut (by kernel_rfl) (of_decide_eq_true (by kernel_rfl)) k0 bel lt0) trodAll_mk0), rfl, bel.frame _, fun h => by cases h⟩

theorem over : Rows.headGetsRow.holds Try.pinned (OpenSpec.ofChange Rows.headGetsSpec) :=
  OpenClaim.holds_of_wide 3 Try.f3 rfl rfl rfl rfl rfl rfl rfl ⟨rfl, rfl, rfl, rfl, rfl⟩ rfl rfl rfl rfl rfl (by kernel_rfl) Try.func3 (by kernel_rfl)
    (of_decide_eq_true (by kernel_rfl)) (by unfold Func.isWrapper; first | (rw [if_pos (by decide +kernel)]; kernel_rfl) | (rw [if_neg (by decide +kernel)]; exact ⟨rfl, rfl⟩))
    (fun os started H enc _ => lifted os started H enc)

theorem proved : Rows.HeadGetsSaid := over
end Go.Proofs.Ytgjbopbpekocpaa.headGets
