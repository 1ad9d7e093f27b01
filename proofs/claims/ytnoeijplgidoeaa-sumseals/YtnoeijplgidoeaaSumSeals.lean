/-
  SumSeals: what is sealed is checked Fine, stays what it is outside of the field, and another byte there makes Sum. No condition.
-/
import Derived.Test.YtnoeijplgidoeaaRows
import Derived.Test.YtnoeijplgidoeaaLive
import Derived.Test.YtnoeijplgidoeaaTold
import Derived.WalkKit
import Derived.ProofKit
import Derived.OpenShut
import Derived.ShutString
import Derived.ChangeOld
import Derived.Below
namespace Go.Proofs.Ytnoeijplgidoeaa.sumSeals
open Go.ChangeShapes Go.WideShapes Go.ChangeAt Go.RowKit
open Go.ChangeMaps (open_string shut_string)
set_option linter.unusedVariables false

theorem own : ownKnob Try.prog.godebug = none := by kernel_rfl
theorem laidOut : laidOutB Try.prog = true := by kernel_rfl



theorem seal_bys {w w1 : World} {g c len : Nat} {l : List Int} (hr : ∀ x ∈ l, 0 ≤ x ∧ x ≤ 255) (hll : l.length = 512) (hlen : len = 512) (h : w1.ownsRow w.heap.size 5 1 (.slice (some ⟨g, 0, none⟩) len c) len (u8s (sealL l))) :
    Bys w1 (some ⟨g, 0, none⟩) len c (sealL l) := by
  obtain ⟨a, c', e, hb⟩ := own_bys h (by rw [seal_length _ hll, hlen]) (seal_range _ hr)
  simp only [Value.slice.injEq, true_and] at e
  obtain ⟨rfl, rfl⟩ := e
  exact hb

theorem row4 {w1 : World} {B g c len j : Nat} {v : Int} {l : List Int} (hr : ∀ x ∈ l, 0 ≤ x ∧ x ≤ 255) (hll : l.length = 512) (hlen : len = 512) (h0 : 0 ≤ v) (h1 : v ≤ 255) (h : w1.ownsRow B 5 1 (.slice (some ⟨g, 0, none⟩) len c) len (u8s ((sealL l).set j v))) :
    Bys w1 (some ⟨g, 0, none⟩) len c ((sealL l).set j v) := by
  obtain ⟨a, c', e, hb⟩ := own_bys h (by rw [List.length_set, seal_length _ hll, hlen]) (by
    intro x hx
    rcases List.mem_or_eq_of_mem_set hx with hx | rfl
    · exact seal_range _ hr x hx
    · exact ⟨h0, h1⟩)
  simp only [Value.slice.injEq, true_and] at e
  obtain ⟨rfl, rfl⟩ := e
  exact hb

theorem bys_cell {w : World} {b off n c j : Nat} {l : List Int} (h : Bys w (some ⟨b, off, none⟩) n c l) (hj : j < n) : w.cell? ⟨b, off + j, none⟩ = some (.int .u8 (l.getD j 0)) := by
  obtain ⟨hl, _, _, _, ⟨_, h0⟩ | ⟨_, b', off', e, hc⟩⟩ := h
  · omega
  · simp only [Option.some.injEq, Addr.mk.injEq, and_true] at e
    obtain ⟨rfl, rfl⟩ := e
    exact hc.2 j (by omega)

set_option maxHeartbeats 8000000 in
set_option maxRecDepth 20000 in

theorem walk (a0 : Option Addr) (len0 cap0 : Nat) (z0 : List Int) (a1 : Int) (a2 : Int) (w : World) (w0 : IsRow .u8 w a0 len0 cap0 z0) (w1 : (Lit.int .i64 a1).wf = true) (w2 : (Lit.int .u8 a2).wf = true) :
    Calls Try.prog 4 #[.slice a0 len0 cap0, .int .i64 a1, .int .u8 a2] w fun e w' => e = .returned (.bool true) ∧ Below w.heap.size w w' := by
  have hby := row_bys w0
  obtain ⟨l, hl⟩ : ∃ l, l = z0.take len0 := ⟨_, rfl⟩
  rw [← hl] at hby
  clear hl w0
  have hz0 : 0 ≤ a2 := (bounds_u8 w2).1
  have hz1 : a2 ≤ 255 := (bounds_u8 w2).2
  have hc0 := hby.2.1
  have hc9 := hby.2.2.1
  by_cases h1 : len0 = 512
  · have hI : (len0 : Int) = 512 := by omega
    have hlen' := hid h1
    by_cases h2 : a1 < 0
    · clear h1
      go_enter Try.func4, Try.ntmps4
      go_wp2_with (go_at_call 5; refine (alive_any _).mono ?_; rintro e w1 ⟨rfl, hacc⟩)
      all_goals go_ret
      all_goals exact ⟨rfl, hacc⟩
    · by_cases h3 : 512 ≤ a1
      · clear h1
        go_enter Try.func4, Try.ntmps4
        go_wp2_with (go_at_call 5; refine (alive_any _).mono ?_; rintro e w1 ⟨rfl, hacc⟩)
        all_goals go_ret
        all_goals exact ⟨rfl, hacc⟩
      · by_cases h4 : 148 ≤ a1 ∧ a1 < 156
        · obtain ⟨h5, h6⟩ := h4
          clear h1
          go_enter Try.func4, Try.ntmps4
          go_wp2_with (go_at_call 5; refine (alive_any _).mono ?_; rintro e w1 ⟨rfl, hacc⟩)
          all_goals go_ret
          all_goals exact ⟨rfl, hacc⟩
        · obtain ⟨j, rfl⟩ := Int.eq_ofNat_of_zero_le (show 0 ≤ a1 by omega)
          have hj : j < 512 := by omega
          have hout : ¬ (148 ≤ j ∧ j < 156) := by omega
          have hll := hid (hby.1.trans h1)
          have hr := hby.2.2.2.1
          have hpr := pl_range l hr 0
          rw [hll.out] at hpr
          obtain ⟨hp0, hp1⟩ : 0 ≤ pl 0 l ∧ pl 0 l ≤ 130560 := ⟨hpr.1, by omega⟩
          have hH4 : 148 ≤ j → 156 ≤ j := by omega
          have hjl : j < len0 := by omega
          clear hpr h1 h4 w1 w2
          obtain ⟨b, off, rfl⟩ := hby.some_of (by omega)
          go_enter Try.func4, Try.ntmps4
          go_wp2_with (first
            | (go_at_call 5; refine (alive_any _).mono ?_; rintro e w1 ⟨rfl, hacc⟩)
            | (go_at_call 7; refine (seal_ok (hby.below hacc) hlen'.out).mono ?_; rintro e w2 ⟨g, c, rfl, hown, hw⟩; have hbp := seal_bys hr hll.out hlen'.out hown; clear hown; replace hacc := hacc.trans (hw.mono hacc.size); clear hw; have hd1 := hbp.2.1; have hd2 := hbp.2.2.1))
          all_goals
            have hw2 := hacc.size
            have hchk : ∀ p : After w2, Calls Try.prog 8 #[.slice (some ⟨g, 0, none⟩) len0 c] p.out fun e w' => w' = p.out ∧ e = .returned (.int .u8 0) := fun p => by
              have := check_ok (hbp.below p.bel) hlen'.out
              rwa [chk_seal l hll.out hp0 hp1] at this
            have hs1 : ∀ p : After w2, (convert 22 9 (.slice (some ⟨g, 0, none⟩) 148 c)).run Try.prog p.out = .ok (.string (strOfNums (l.take 148))) p.out := fun p => by
              have := bys_string (P := Try.prog) Try.underlying22 Try.underlying5 Try.underlying9 ((hbp.below p.bel).take 148 (by omega))
              rwa [seal_ahead l hll.out] at this
            have hs2 : ∀ p : After w2, (convert 22 9 (.slice (some ⟨b, off, none⟩) 148 cap0)).run Try.prog p.out = .ok (.string (strOfNums (l.take 148))) p.out := fun p =>
              bys_string (P := Try.prog) Try.underlying22 Try.underlying5 Try.underlying9 (((hby.below hacc).below p.bel).take 148 (by omega))
            have hs3 : ∀ p : After w2, (convert 22 9 (.slice (some ⟨g, 156, none⟩) (len0 - 156) (c - 156))).run Try.prog p.out = .ok (.string (strOfNums (l.drop 156))) p.out := fun p => by
              have := bys_string (P := Try.prog) Try.underlying22 Try.underlying5 Try.underlying9 ((hbp.below p.bel).drop 156 rfl (by omega))
              rwa [seal_behind l hll.out, Nat.zero_add] at this
            have hs4 : ∀ p : After w2, (convert 22 9 (.slice (some ⟨b, off + 156, none⟩) (len0 - 156) (cap0 - 156))).run Try.prog p.out = .ok (.string (strOfNums (l.drop 156))) p.out := fun p =>
              bys_string (P := Try.prog) Try.underlying22 Try.underlying5 Try.underlying9 (((hby.below hacc).below p.bel).drop 156 rfl (by omega))
            have hne : Nonempty (After w2) := ⟨⟨w2, Below.refl _ _⟩⟩
            have q1 : (148 : Int) ≤ (c : Int) := by omega
            have q2 : (148 : Int) ≤ (cap0 : Int) := by omega
            have q3 : (156 : Int) ≤ (len0 : Int) := by omega
            have q4 : (c : Int) ≤ 9223372036854775807 := by omega
            have q5 : (cap0 : Int) ≤ 9223372036854775807 := by omega
            have q6 : (len0 : Int) ≤ (c : Int) := by omega
            have q7 : (len0 : Int) ≤ (cap0 : Int) := by omega
            refine wp_region_after (by kernel_rfl) (by kernel_rfl) ?_
            repeat (go_big_quiet_step ((go_at_call 8; exact after_same _ (hchk _))))
            refine wpQuiet_nil ?_
            intro wq hw'
            obtain ⟨⟨x, hwq⟩, hx⟩ := hw'
            simp only at hx
            subst hx
            replace hbp := hbp.below hwq
            replace hacc := hacc.trans (hwq.mono hacc.size)
            have hbq := hbp
            clear hwq hs1 hs2 hs3 hs4 hchk hne hbp
            obtain ⟨i0, hi, hz0', hz1', hz2'⟩ := info_parts Try.info5
            have hlen0 : 0 < len0 := by omega
            have hnews := bys_news (hbq.alloc (.cells #[] 5))
            have hlit := World.ownsRow_lit (base := wq.heap.size) (e := 5) (size := 1) wq #[] 0 (Nat.le_refl _) (by unfold maxLen; omega) rfl
            have hxs := fun w4 (h : Bys w4 (some ⟨g, 0, none⟩) len0 c (sealL l)) => rsums_ok h hlen'.out
            have hys := fun w4 g' c' (h : Bys w4 (some ⟨g', 0, none⟩) len0 c' ((sealL l).set j a2)) => rsums_ok h hlen'.out
            have hyc := fun w4 g' c' (h : Bys w4 (some ⟨g', 0, none⟩) len0 c' ((sealL l).set j a2)) => check_ok h hlen'.out
            have hpls := pl_seal l hll.out
            rw [hpls] at hxs
            have heq := set_same (sealL l) j (by rw [seal_length l hll.out]; exact hj)
            have hfine := chk_seal l hll.out hp0 hp1
            have hoth := chk_other l j a2 hll.out hj hout hp0 hp1
            obtain ⟨y, hy⟩ : ∃ y, y = (sealL l).getD j 0 := ⟨_, rfl⟩
            have hy' := hid hy
            by_cases hc : a2 = y
            · have hcd : chk ((sealL l).set j a2) = 0 := by rw [hc, hy, heq, hfine]
              rw [hcd] at hyc
              subst hc
              clear hoth hy heq hfine hpls hxs hys hout hcd
              go_wp2_with (first
                | (at_builtin; refine wpList_append_own _ rfl (.tmp 72) (.tmp 73) 22 rfl wq.heap.size 5 i0 (.int .u8 0) 1 1 Try.underlying22 hi hz0' hz1' hz2' rfl (by decide) _ _ _ rfl hlit ⟨g, 0, none⟩ len0 c (u8s (sealL l)) rfl (by rw [u8s_len, seal_length l hll.out, hlen'.out]) hnews (u8s_one _) (by unfold maxLen; omega) (by omega) (by simp) ?_; intro v' w3 hown' hgrow' _; have hb3 := ((Below.refl wq.heap.size wq).alloc (Nat.le_refl _) (.cells #[] 5)).grown hgrow' (by simp) (fun k hk => (hlit.lt k hk).1); rw [Nat.zero_add, List.nil_append] at hown'; obtain ⟨g', c', rfl, hg0⟩ := own_shape hown' hlen0; obtain ⟨-, hc1, hc2⟩ := own_cap hown'; obtain ⟨hcell, hfrz, hst⟩ := row_store (j := j) a2 (by rw [seal_length l hll.out, hlen'.out]) hjl hown'; have hb4 := hb3.setCell (p := ⟨g', j, none⟩) hg0 (.int .u8 a2); have hx4 := hbq.below hb4; have hy4 := row4 hr hll.out hlen'.out hz0 hz1 hst; have hcx := bys_cell (j := j) hx4 hjl; rw [Nat.zero_add, ← hy'.out] at hcx; clear hgrow' hown' hst hnews hlit)
                | (go_at_call 8; refine (hyc _ _ _ hy4).mono ?_; rintro e w' ⟨hw', rfl⟩; obtain rfl := hw'.symm))
              all_goals go_ret
              all_goals exact ⟨rfl, hacc.trans (hb4.mono hacc.size)⟩
            · rw [← hy] at hoth
              have hc' : (a2 == y) = false := by simp [hc]
              by_cases hs : sn 0 ((sealL l).set j a2) = pl 0 l
              · rw [hs] at hys
                clear hoth hy heq hfine hpls hout hyc
                go_wp2_with (first
                  | (at_builtin; refine wpList_append_own _ rfl (.tmp 72) (.tmp 73) 22 rfl wq.heap.size 5 i0 (.int .u8 0) 1 1 Try.underlying22 hi hz0' hz1' hz2' rfl (by decide) _ _ _ rfl hlit ⟨g, 0, none⟩ len0 c (u8s (sealL l)) rfl (by rw [u8s_len, seal_length l hll.out, hlen'.out]) hnews (u8s_one _) (by unfold maxLen; omega) (by omega) (by simp) ?_; intro v' w3 hown' hgrow' _; have hb3 := ((Below.refl wq.heap.size wq).alloc (Nat.le_refl _) (.cells #[] 5)).grown hgrow' (by simp) (fun k hk => (hlit.lt k hk).1); rw [Nat.zero_add, List.nil_append] at hown'; obtain ⟨g', c', rfl, hg0⟩ := own_shape hown' hlen0; obtain ⟨-, hc1, hc2⟩ := own_cap hown'; obtain ⟨hcell, hfrz, hst⟩ := row_store (j := j) a2 (by rw [seal_length l hll.out, hlen'.out]) hjl hown'; have hb4 := hb3.setCell (p := ⟨g', j, none⟩) hg0 (.int .u8 a2); have hx4 := hbq.below hb4; have hy4 := row4 hr hll.out hlen'.out hz0 hz1 hst; have hcx := bys_cell (j := j) hx4 hjl; rw [Nat.zero_add, ← hy'.out] at hcx; clear hgrow' hown' hst hnews hlit)
                  | (go_at_call 8; refine (hyc _ _ _ hy4).mono ?_; rintro e w' ⟨hw', rfl⟩; obtain rfl := hw'.symm)
                  | (go_at_call 10; refine (hys _ _ _ hy4).mono ?_; rintro e w' ⟨hw', rfl⟩; obtain rfl := hw'.symm; clear hys)
                  | (go_at_call 10; refine (hxs _ hx4).mono ?_; rintro e w' ⟨hw', rfl⟩; obtain rfl := hw'.symm))
                all_goals go_ret
                all_goals exact ⟨rfl, hacc.trans (hb4.mono hacc.size)⟩
              · have h4 := hoth hc hs
                rw [h4] at hyc
                have hs' : (sn 0 ((sealL l).set j a2) == pl 0 l) = false := by simp [hs]
                clear hoth hy heq hfine hpls hout
                go_wp2_with (first
                  | (at_builtin; refine wpList_append_own _ rfl (.tmp 72) (.tmp 73) 22 rfl wq.heap.size 5 i0 (.int .u8 0) 1 1 Try.underlying22 hi hz0' hz1' hz2' rfl (by decide) _ _ _ rfl hlit ⟨g, 0, none⟩ len0 c (u8s (sealL l)) rfl (by rw [u8s_len, seal_length l hll.out, hlen'.out]) hnews (u8s_one _) (by unfold maxLen; omega) (by omega) (by simp) ?_; intro v' w3 hown' hgrow' _; have hb3 := ((Below.refl wq.heap.size wq).alloc (Nat.le_refl _) (.cells #[] 5)).grown hgrow' (by simp) (fun k hk => (hlit.lt k hk).1); rw [Nat.zero_add, List.nil_append] at hown'; obtain ⟨g', c', rfl, hg0⟩ := own_shape hown' hlen0; obtain ⟨-, hc1, hc2⟩ := own_cap hown'; obtain ⟨hcell, hfrz, hst⟩ := row_store (j := j) a2 (by rw [seal_length l hll.out, hlen'.out]) hjl hown'; have hb4 := hb3.setCell (p := ⟨g', j, none⟩) hg0 (.int .u8 a2); have hx4 := hbq.below hb4; have hy4 := row4 hr hll.out hlen'.out hz0 hz1 hst; have hcx := bys_cell (j := j) hx4 hjl; rw [Nat.zero_add, ← hy'.out] at hcx; clear hgrow' hown' hst hnews hlit)
                  | (go_at_call 8; refine (hyc _ _ _ hy4).mono ?_; rintro e w' ⟨hw', rfl⟩; obtain rfl := hw'.symm)
                  | (go_at_call 10; refine (hys _ _ _ hy4).mono ?_; rintro e w' ⟨hw', rfl⟩; obtain rfl := hw'.symm; clear hys)
                  | (go_at_call 10; refine (hxs _ hx4).mono ?_; rintro e w' ⟨hw', rfl⟩; obtain rfl := hw'.symm))
                all_goals go_ret
                all_goals exact ⟨rfl, hacc.trans (hb4.mono hacc.size)⟩
  · have hI : (len0 : Int) ≠ 512 := by omega
    clear h1
    go_enter Try.func4, Try.ntmps4
    go_wp2_with (go_at_call 5; refine (alive_any _).mono ?_; rintro e w1 ⟨rfl, hacc⟩)
    all_goals go_ret
    all_goals exact ⟨rfl, hacc⟩

set_option maxRecDepth 100000 in
theorem lifted (os : Os) (started : os.Started) (H : Type) (enc : TypeId × Value → H) :
    ReturnsInHanded {} Try.checked os 4 .any (Rows.sumSealsSpec.pre6 enc Try.prog Try.f4 Rows.sumSealsRow.domain false) (Rows.sumSealsSpec.post enc Try.prog Try.f4 false true false false) := by
  refine returnsInHanded_of_change (C := Try.checked) own started (by kernel_rfl) Try.func4
    (ChangeSpec.witness6 (enc := enc) (C := Try.checked) false ⟨#[], #[.slice none 0 0, .int .i64 0, .int .u8 0], []⟩ 8 (by kernel_rfl) (by kernel_rfl) (by kernel_rfl) (by kernel_rfl)) ?_
  intro W base args ds gs before hval0 hW hcnd _
  have hval : ∀ (j : Nat) t v, Try.f4.params[j]? = some t → args[j]? = some v → Value.okWide Try.prog W .any base t v := hval0
  have hW' := hW
  obtain ⟨p, q, hA0, hV, rfl, hfz, hnd⟩ := hW
  have hA : DataW.TrodAll enc Try.prog W 0 (fun _ => true) true Try.f4.params.toList args.toList ds p := hA0
  rw [Try.params4] at hA hval
  obtain ⟨v0, vs0, d0, ds0, p0, q0, hargs, rfl, rfl, h0, r0⟩ := trodAll_cons hA
  obtain ⟨v1, vs1, d1, ds1, p1, q1, rfl, rfl, rfl, h1, r1⟩ := trodAll_cons r0
  obtain ⟨v2, vs2, d2, ds2, p2, q2, rfl, rfl, rfl, h2, r2⟩ := trodAll_cons r1
  obtain ⟨rfl, rfl, rfl⟩ := trodAll_nil r2
  obtain rfl : args = #[v0, v1, v2] := by cases args; simp_all
  obtain ⟨rfl, rfl⟩ := trodVars_none hV
  obtain ⟨a0, len0, cap0, rfl⟩ := okWide_slice Try.underlying22 (hval 0 22 v0 rfl rfl)
  have k0 := h0
  have lt0 : ∀ x ∈ p0, x.block < W.heap.size := by obtain ⟨m, hm⟩ := k0; exact DataW.trod_lt m _ _ _ hm
  obtain ⟨z0, w0⟩ : ∃ zs, IsRow .u8 W a0 len0 cap0 zs := by
    obtain ⟨fuel, hf⟩ := h0
    rcases open_ints Try.underlying22 Try.underlying5 (by kernel_rfl) hf with ⟨hcs, _⟩ | ⟨x, l, c, zs, hcs, _, hl, hm, hz, _, hcell, hwz⟩
    · simp [Value.cells] at hcs
      obtain ⟨rfl, rfl, rfl⟩ := hcs
      exact ⟨[], .inl ⟨rfl, rfl, rfl, rfl⟩⟩
    · simp [Value.cells] at hcs
      obtain ⟨rfl, rfl, rfl⟩ := hcs
      exact ⟨zs, .inr ⟨_, rfl, hl, hm, by simpa using hz, hcell, hwz⟩⟩
  obtain ⟨a1, rfl, rfl, rfl, w1⟩ := open_int Try.underlying3 (hval 1 3 v1 rfl rfl) h1
  obtain ⟨a2, rfl, rfl, rfl, w2⟩ := open_int Try.underlying5 (hval 2 5 v2 rfl rfl) h2
  clear hA0 hval0
  refine (walk a0 len0 cap0 z0 a1 a2 W w0 w1 w2).mono fun e W' ⟨he, bel⟩ => ?_
  subst he
  exact ⟨_, rfl, _, _, _, [], _, [], hW', trodAll_mk1 (shut_bool Try.underlying4 _), (trodAll_cons_mk (Below.trod laidOut (by kernel_rfl) (of_decide_eq_true (by kernel_rfl)) k0 bel lt0) (trodAll_cons_mk (shut_int Try.underlying3 w1) (trodAll_cons_mk (shut_int Try.underlying5 w2) trodAll_mk0))), rfl, bel.frame _, fun h => by cases h⟩

theorem over : Rows.sumSealsRow.holds Try.pinned (OpenSpec.ofChange Rows.sumSealsSpec) :=
  OpenClaim.holds_of_wide 4 Try.f4 rfl rfl rfl rfl rfl rfl rfl ⟨rfl, rfl, rfl, rfl, rfl⟩ rfl rfl rfl rfl rfl (by kernel_rfl) Try.func4 (by kernel_rfl)
    (of_decide_eq_true (by kernel_rfl)) (by unfold Func.isWrapper; first | (rw [if_pos (by decide +kernel)]; kernel_rfl) | (rw [if_neg (by decide +kernel)]; exact ⟨rfl, rfl⟩))
    (fun os started H enc _ => lifted os started H enc)

theorem proved : Rows.SumSealsSaid := over
end Go.Proofs.Ytnoeijplgidoeaa.sumSeals
