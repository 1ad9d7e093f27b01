/-
  TWO SCRIPTS TELL THE SAME BLOCKS: SourceAlike's walk. Conditions: none.
-/
import Derived.Test.YtfcbiiakhgeogaaSk
namespace Go.Proofs.Ytfcbiiakhgeogaa
open Go.ChangeShapes Go.WideShapes Go.ChangeAt Go.RowKit Go.Lib
set_option linter.unusedVariables false
set_option linter.unusedSimpArgs false
set_option maxRecDepth 20000

set_option maxHeartbeats 8000000 in
theorem alike_walk (W : World) {a0 a1 a2 : Option Addr} {n0 c0 n1 c1 n2 c2 : Nat} {z0 z1 z2 : List Int} (h0 : IsRow .u8 W a0 n0 c0 z0) (h1 : IsRow .i64 W a1 n1 c1 z1) (h2 : IsRow .i64 W a2 n2 c2 z2) :
    Calls Try.prog 5 #[.slice a0 n0 c0, .slice a1 n1 c1, .slice a2 n2 c2] W fun e w' => e = .returned (.bool true) ∧ Below W.heap.size W w' := by
  obtain ⟨hb, hL, hnc, hcm, hB⟩ := row_b h0
  obtain ⟨hx, hX, hxm⟩ := row_ints h1
  obtain ⟨hy, hY, hym⟩ := row_ints h2
  generalize z0.take n0 = L at *
  generalize z1.take n1 = X at *
  generalize z2.take n2 = Y at *
  clear h0 h1 h2
  have halive := alive_ok W
  have hmany1 := fun w => many_ok (w := w) (a := a0) (a' := a1) (n := n0) (c := c0) (m := n1) (c' := c1) (by omega) (by omega)
  have hmany2 := fun w => many_ok (w := w) (a := a0) (a' := a2) (n := n0) (c := c0) (m := n2) (c' := c2) (by omega) (by omega)
  by_cases hm1 : 4000 < n0 ∨ 200 < n1
  · rw [decide_eq_true hm1] at hmany1
    replace hm1 := hid hm1
    replace hL := hid hL
    replace hX := hid hX
    replace hY := hid hY
    clear hmany2
    go_enter Try.func5, Try.ntmps5
    go_wp2_with (first | (go_at_call 7; refine halive.mono ?_; clear halive; rintro e w0 ⟨rfl, hb0⟩) | (go_at_call 8; refine (hmany1 _).mono ?_; clear hmany1; rintro e w' ⟨hw, rfl⟩; obtain rfl := hw.symm))
    go_ret
    exact ⟨rfl, hb0⟩
  · rw [decide_eq_false hm1] at hmany1
    by_cases hm2 : 4000 < n0 ∨ 200 < n2
    · rw [decide_eq_true hm2] at hmany2
      replace hm1 := hid hm1
      replace hm2 := hid hm2
      replace hL := hid hL
      replace hX := hid hX
      replace hY := hid hY
      go_enter Try.func5, Try.ntmps5
      go_wp2_with (first | (go_at_call 7; refine halive.mono ?_; clear halive; rintro e w0 ⟨rfl, hb0⟩) | (go_at_call 8; refine (hmany1 _).mono ?_; clear hmany1; rintro e w' ⟨hw, rfl⟩; obtain rfl := hw.symm) | (go_at_call 8; refine (hmany2 _).mono ?_; clear hmany2; rintro e w' ⟨hw, rfl⟩; obtain rfl := hw.symm))
      go_ret
      exact ⟨rfl, hb0⟩
    · rw [decide_eq_false hm2] at hmany2
      have hn0 : n0 ≤ 4000 := by omega
      have hn1 : n1 ≤ 200 := by omega
      have hnewx := fun w (hb' : Below W.heap.size W w) => new_ok (hb.below hb') (hx.below hb') (by omega) (by omega)
      have hnewy := fun w (hb' : Below W.heap.size W w) => new_ok (hb.below hb') (hy.below hb') (by omega) (by omega)
      replace hm1 := hid hm1
      replace hm2 := hid hm2
      replace hL := hid hL
      replace hX := hid hX
      replace hY := hid hY
      go_enter Try.func5, Try.ntmps5
      go_upto_region 5 with (first | (go_at_call 7; refine halive.mono ?_; clear halive; rintro e w0 ⟨rfl, hb0⟩) | (go_at_call 8; refine (hmany1 _).mono ?_; clear hmany1; rintro e w' ⟨hw, rfl⟩; obtain rfl := hw.symm) | (go_at_call 8; refine (hmany2 _).mono ?_; clear hmany2; rintro e w' ⟨hw, rfl⟩; obtain rfl := hw.symm))
      go_wp2
      go_loopg [7, 8] (n1 - 0) (fun k m i wr => ∃ q M : Nat, k = n1 - q ∧ m = .int .i64 (M : Nat) ∧ i = .int .i64 (q : Nat) ∧ q ≤ n1 ∧ 512 ≤ M ∧ (∀ z ∈ X.take q, z ≤ (M : Int)) ∧ wr = w0)
      case atStart => exact ⟨0, 512, rfl, rfl, rfl, Nat.zero_le _, Nat.le_refl _, by simp, rfl⟩
      case round =>
        obtain ⟨q, M, hk, rfl, rfl, hq, hM, hMz, hwr⟩ := hrel
        obtain rfl := hwr.symm
        by_cases hlt : q < n1
        · obtain ⟨xg, xo, xc, hxa, -, -, -, hrow⟩ := hx.some (by rw [i64s_len, hX.out]; omega)
          rw [i64s_len, hX.out] at hxa
          simp only [Value.slice.injEq] at hxa
          obtain ⟨rfl, -, rfl⟩ := hxa
          have hcell := cell_later hb0 (hrow q _ (i64s_get X q (by rw [hX.out]; exact hlt)))
          obtain ⟨N, hN⟩ : ∃ N : Nat, N = (max (M : Int) (X.getD q 0)).toNat := ⟨_, rfl⟩
          have hmax : ∀ ts ty w, (Builtin.max_ ts ty #[.int .i64 (M : Int), .int .i64 (X.getD q 0)]).run Try.prog w = .ok (.int .i64 (N : Int)) w := fun ts ty w => by
            have h0 : (Builtin.max_ ts ty #[.int .i64 (M : Int), .int .i64 (X.getD q 0)]).run Try.prog w = .ok (.int .i64 (if X.getD q 0 > (M : Int) then X.getD q 0 else (M : Int))) w := by simp [Builtin.max_, Builtin.max2]
            rw [h0]
            have : (if X.getD q 0 > (M : Int) then X.getD q 0 else (M : Int)) = (N : Int) := by split <;> omega
            rw [this]
          have hNz : ∀ z ∈ X.take (q + 1), z ≤ (N : Int) := by
            intro z hz
            have hql : q < X.length := by rw [hX.out]; exact hlt
            rw [List.take_succ_eq_append_getElem hql] at hz
            rcases List.mem_append.mp hz with h | h
            · have := hMz z h; omega
            · simp only [List.mem_singleton] at h
              have : X.getD q 0 = X[q] := by simp [List.getD, List.getElem?_eq_getElem hql]
              omega
          have hN512 : 512 ≤ N := by omega
          generalize X.getD q 0 = x at *
          have g1 : (q : Int) < (n1 : Int) := by omega
          replace hk := hid hk
          replace hN := hid hN
          clear hrow
          go_wp2
          go_roundg (n1 - (q + 1))
          case measure => have := hk.out; omega
          case rel => exact ⟨q + 1, N, rfl, rfl, by go_num, by omega, hN512, hNz, rfl⟩
        · have hqn : q = n1 := by omega
          subst hqn
          have hXe : X.take q = X := List.take_of_length_le (by have := hX.out; omega)
          rw [hXe] at hMz
          have hmost := szN_most hM hMz
          have g1 : ¬ (q : Int) < (q : Int) := by omega
          replace hk := hid hk
          replace hXe := hid hXe
          clear hMz
          go_upto_region 11 with (first | (go_at_call 9; refine (hnewx _ hb0).mono ?_; clear hnewx; rintro e w1 ⟨⟨s, rfl, hs, hn⟩, hb1⟩) | (go_at_call 14; refine (blocks_ok (.inr ⟨s, rfl, hn⟩) hb1.size (fun k h => h)).mono ?_; clear hn; rintro e w2 ⟨⟨p, rfl, hp, hr⟩, hb2⟩; have hb02 := (hb0.trans (hb1.mono hb0.size)).trans (hb2.mono (Nat.le_trans hb0.size hb1.size))) | (go_at_call 9; refine (hnewy _ hb02).mono ?_; clear hnewy; rintro e w3 ⟨⟨s', rfl, hs', hn'⟩, hb3⟩) | (go_at_call 14; refine (blocks_ok (.inr ⟨s', rfl, hn'⟩) hb3.size (fun k h => h)).mono ?_; clear hn'; rintro e w4 ⟨⟨p', rfl, hp', hr'⟩, hb4⟩))
          have g0 := hb0.size
          have g1' := hb1.size
          have g2 := hb2.size
          have g3 := hb3.size
          have g4 := hb4.size
          have hbw : Below W.heap.size W w4 := (hb02.trans (hb3.mono (by omega))).trans (hb4.mono (by omega))
          have hrp := (hr.lt.below hb3).below hb4
          have hrq := hr'.lt.below (Below.refl _ _)
          go_wp2
          go_loopg [11, 12] (12 - 0) (fun k v i wr => ∃ a j j' t Rp Rq Ra, k = 12 - a ∧ i = .int .i64 (a : Nat) ∧ a ≤ 12 ∧ Asks n0 X a j t ∧ Asks n0 Y a j' t ∧ Rd wr p L X j t Rp ∧ Rd wr p' L Y j' t Rq ∧ Kp wr v (u8s (L.take (512 * t))) Ra ∧
            (∀ k, Rp k → W.heap.size ≤ k ∧ k < wr.heap.size ∧ ¬ Rq k ∧ ¬ Ra k) ∧ (∀ k, Rq k → W.heap.size ≤ k ∧ k < wr.heap.size ∧ ¬ Ra k) ∧ (∀ k, Ra k → W.heap.size ≤ k ∧ k < wr.heap.size) ∧ eN n0 X j - 512 * t < M ∧ Below W.heap.size W wr)
          case atStart =>
            refine ⟨0, 0, 0, 0, _, _, No, rfl, rfl, Nat.zero_le _, ⟨rfl, rfl⟩, ⟨rfl, rfl⟩, hrp, hrq, by rw [Nat.mul_zero]; exact Kp.nil _ _, ?_, ?_, fun k h => h.elim, by simp [eN]; omega, hbw⟩
            · rintro k ⟨h, hk⟩
              refine ⟨by rcases h with h | h <;> omega, by omega, ?_, fun h => h⟩
              rintro ⟨h', hk'⟩
              rcases h' with h' | h' <;> omega
            · rintro k ⟨h, hk⟩
              exact ⟨by rcases h with h | h <;> omega, by omega, fun h => h⟩
          case round =>
            obtain ⟨a, j, j', t, Rp, Rq, Ra, hk, rfl, ha, hA, hA', hrp, hrq, hkp, hRp, hRq, hRa, hH, hbr⟩ := hrel
            by_cases hlt : a < 12
            · obtain ⟨i, hst, hAi⟩ := asks_next hA
              obtain ⟨i', hst', hAi'⟩ := asks_next hA'
              have hl := hL.out
              have hinv := hA.inv
              have hinv' := hAi.inv
              have hH' := held_next hmost hM hH hst hinv.1
              have hnp := next_ok hrp (by omega) (by rw [hl]; exact hst)
              have hnq := fun w (h : Rd w p' L Y j' t Rq) => next_ok h (by omega) (by rw [hl]; exact hst')
              have htm := take_more L t
              unfold NextPost at hnp hnq
              rw [hl] at hnp hnq htm
              have hblB := blN_isB hB t
              have hsame := fun w v u R R' (h : Rng w v (u8s (blN L t)) R) (h' : Rng w u (u8s (blN L t)) R') => same_ok h h' hblB hblB
              simp only [decide_true] at hsame
              have hcr := codeN_range n0 t
              obtain ⟨ka, kc, rfl, hkc, -⟩ := hkp.rng.shape
              have hkl : (u8s (L.take (512 * t))).length ≤ 4000 := by rw [u8s_len', List.length_take]; omega
              have hbll : (u8s (blN L t)).length ≤ 512 := by rw [u8s_len']; unfold blN; split; (rw [List.length_take]; omega); simp
              have hsr : W.heap.size ≤ wr.heap.size := hbr.size
              have d1 : ∀ w5, Nr Rp wr w5 → Rd w5 p' L Y j' t Rq := fun w5 h => hrq.nr h (fun k hk e => (hRp k e).2.2.1 hk)
              generalize hC : codeN n0 t = C at *
              have i1 : (a : Int) < 12 := by omega
              replace hinv := hid hinv
              replace hinv' := hid hinv'
              replace hk := hid hk
              replace hC := hid hC
              replace hl := hid hl
              go_upto_region 17 with (first | (go_at_call 18; refine hnp.mono ?_; clear hnp; rintro e w5 ⟨⟨v, rfl, hv⟩, R5, hr5, hR5, hn5⟩; obtain ⟨va, vc, e1, -⟩ := hv.shape; subst e1; have hq5 := d1 _ hn5) | (go_at_call 18; refine (hnq _ hq5).mono ?_; clear hnq; rintro e w6 ⟨⟨v', rfl, hv'⟩, R6, hr6, hR6, hn6⟩; obtain ⟨va', vc', e2, -⟩ := hv'.shape; subst e2))
              have s5 := hn5.size
              have s6 := hn6.size
              have hp6 := hr5.lt.nr hn6 (fun k hk e => by
                rcases hR5 k hk.1 with h | h
                · exact (hRp k h).2.2.1 e
                · have := (hRq k e).2.1; omega)
              have hv6 := hv.nr hn6 (fun k hk e => by have := (hRq k e).2.1; omega)
              have hk6 := (hkp.nr hn5 (fun k hk e => (hRp k e).2.2.2 hk)).nr hn6 (fun k hk e => (hRq k e).2.2 hk)
              have hb5 := hbr.trans (hn5.below hsr (fun k hk => (hRp k hk).1))
              have hb6 := hb5.trans (hn6.below (by omega) (fun k hk => (hRq k hk).1))
              have hixp := index_ok hp6
              have hixq := index_ok hr6
              have hhp := held_ok hp6
              rw [hl.out] at hhp
              have hhp2 := hhp
              obtain ⟨v7, w7, hr7, hk7, hn7⟩ := app_b (ty := 22) hk6 hv6 (by omega)
              rw [u8s_app, htm] at hk7
              obtain ⟨va7, vc7, hv7, -⟩ := hk7.rng.shape
              obtain ⟨vn7, hvn7⟩ : ∃ vn, vn = (u8s (L.take (512 * tN n0 t))).length := ⟨_, rfl⟩
              rw [← hvn7] at hv7
              subst hv7
              replace hvn7 := hid hvn7
              have hfin : ∃ a' j2 j2' t2 Rp' Rq' Ra', 12 - (a + 1) = 12 - a' ∧ ((a : Int) + 1) = (a' : Nat) ∧ a' ≤ 12 ∧ Asks n0 X a' j2 t2 ∧ Asks n0 Y a' j2' t2 ∧ Rd w7 p L X j2 t2 Rp' ∧ Rd w7 p' L Y j2' t2 Rq' ∧ Kp w7 (.slice va7 vn7 vc7) (u8s (L.take (512 * t2))) Ra' ∧
                  (∀ k, Rp' k → W.heap.size ≤ k ∧ k < w7.heap.size ∧ ¬ Rq' k ∧ ¬ Ra' k) ∧ (∀ k, Rq' k → W.heap.size ≤ k ∧ k < w7.heap.size ∧ ¬ Ra' k) ∧ (∀ k, Ra' k → W.heap.size ≤ k ∧ k < w7.heap.size) ∧ eN n0 X j2 - 512 * t2 < M ∧ Below W.heap.size W w7 := by
                have s7 := hn7.size
                have x5 : ∀ k, (R5 k ∧ k < w5.heap.size) → W.heap.size ≤ k ∧ k < w7.heap.size ∧ ¬ Ra k ∧ k < w6.heap.size := by
                  rintro k ⟨hk, hk'⟩
                  rcases hR5 k hk with h | h
                  · exact ⟨(hRp k h).1, by omega, (hRp k h).2.2.2, by omega⟩
                  · exact ⟨by omega, by omega, fun e => by have := (hRa k e).2; omega, by omega⟩
                have x6 : ∀ k, (R6 k ∧ k < w6.heap.size) → W.heap.size ≤ k ∧ k < w7.heap.size ∧ ¬ Ra k ∧ k < w6.heap.size := by
                  rintro k ⟨hk, hk'⟩
                  rcases hR6 k hk with h | h
                  · exact ⟨(hRq k h).1, by omega, (hRq k h).2.2, by omega⟩
                  · exact ⟨by omega, by omega, fun e => by have := (hRa k e).2; omega, by omega⟩
                refine ⟨a + 1, i, i', tN n0 t, _, _, fun k => (Ra k ∨ w6.heap.size ≤ k) ∧ k < w7.heap.size, rfl, by omega, by omega, hAi, hAi', hp6.nr hn7 (fun k hk => (x5 k hk).2.2.1), hr6.lt.nr hn7 (fun k hk => (x6 k hk).2.2.1), hk7.mono (fun k hk h => ⟨h, hk⟩), ?_, ?_, ?_, hH', hb6.trans (hn7.below (by omega) (fun k hk => (hRa k hk).1))⟩
                · intro k hk
                  refine ⟨(x5 k hk).1, (x5 k hk).2.1, ?_, ?_⟩
                  · rintro ⟨hk', -⟩
                    rcases hR5 k hk.1 with h | h
                    · rcases hR6 k hk' with h' | h'
                      · exact (hRp k h).2.2.1 h'
                      · have := hk.2; omega
                    · rcases hR6 k hk' with h' | h'
                      · have := (hRq k h').2.1; omega
                      · have := hk.2; omega
                  · rintro ⟨h | h, -⟩
                    · exact (x5 k hk).2.2.1 h
                    · have := (x5 k hk).2.2.2; omega
                · intro k hk
                  refine ⟨(x6 k hk).1, (x6 k hk).2.1, ?_⟩
                  rintro ⟨h | h, -⟩
                  · exact (x6 k hk).2.2.1 h
                  · have := (x6 k hk).2.2.2; omega
                · rintro k ⟨h | h, hk⟩
                  · exact ⟨(hRa k h).1, hk⟩
                  · exact ⟨by omega, hk⟩
              clear hp6 hr6 hkp hrp hrq hbr hR5 hR6 hRp hRq hRa hA hA' hAi hAi' hst hst' d1
              replace hH' := hid hH'
              generalize hHe : eN n0 X i - 512 * tN n0 t = H at *
              replace hHe := hid hHe
              generalize (u8s (blN L t)).length = bn at *
              generalize (u8s (L.take (512 * t))).length = kn at *
              generalize tN n0 t = T at *
              by_cases h5 : 512 ≤ H
              · have k1 : (512 : Int) ≤ (H : Int) := by omega
                have k2 : ¬ (M : Int) ≤ (H : Int) - 512 := by have := hH'.out; omega
                have k3 : (H : Int) ≤ 5000 := by have := hHe.out; have := eN_le n0 X i; omega
                replace h5 := hid h5
                go_wp2_with (first | (go_at_call 13; refine (hsame _ _ _ _ _ hv6 hv').mono ?_; clear hsame; rintro e w' ⟨hw, rfl⟩; obtain rfl := hw.symm) | (go_at_call 15; refine hixp.mono ?_; clear hixp; rintro e w' ⟨hw, rfl⟩; obtain rfl := hw.symm) | (go_at_call 15; refine hixq.mono ?_; clear hixq; rintro e w' ⟨hw, rfl⟩; obtain rfl := hw.symm) | (go_at_call 16; refine hhp.mono ?_; clear hhp; rintro e w' ⟨hw, rfl⟩; obtain rfl := hw.symm) | (go_at_call 16; refine hhp2.mono ?_; clear hhp2; rintro e w' ⟨hw, rfl⟩; obtain rfl := hw.symm) | (at_builtin; go_loud (refine Lib.wpList_append_run _ rfl (.tmp 90) (.tmp 91) 22 22 rfl _ _ rfl rfl _ _ hr7 ?_)))
                obtain ⟨a', j2, j2', t2, Rp', Rq', Ra', q1, q2, qq⟩ := hfin
                go_roundg (12 - a')
                case measure => have := hk.out; omega
                case rel => exact ⟨a', j2, j2', t2, Rp', Rq', Ra', rfl, by first | rw [q2] | (simp only [q2]) | go_num, qq⟩
              · have k1 : ¬ (512 : Int) ≤ (H : Int) := by omega
                replace h5 := hid h5
                go_wp2_with (first | (go_at_call 13; refine (hsame _ _ _ _ _ hv6 hv').mono ?_; clear hsame; rintro e w' ⟨hw, rfl⟩; obtain rfl := hw.symm) | (go_at_call 15; refine hixp.mono ?_; clear hixp; rintro e w' ⟨hw, rfl⟩; obtain rfl := hw.symm) | (go_at_call 15; refine hixq.mono ?_; clear hixq; rintro e w' ⟨hw, rfl⟩; obtain rfl := hw.symm) | (go_at_call 16; refine hhp.mono ?_; clear hhp; rintro e w' ⟨hw, rfl⟩; obtain rfl := hw.symm) | (go_at_call 16; refine hhp2.mono ?_; clear hhp2; rintro e w' ⟨hw, rfl⟩; obtain rfl := hw.symm) | (at_builtin; go_loud (refine Lib.wpList_append_run _ rfl (.tmp 90) (.tmp 91) 22 22 rfl _ _ rfl rfl _ _ hr7 ?_)))
                obtain ⟨a', j2, j2', t2, Rp', Rq', Ra', q1, q2, qq⟩ := hfin
                go_roundg (12 - a')
                case measure => have := hk.out; omega
                case rel => exact ⟨a', j2, j2', t2, Rp', Rq', Ra', rfl, by first | rw [q2] | (simp only [q2]) | go_num, qq⟩
            · have e : a = 12 := by omega
              have hinv := hA.inv
              have i1 : ¬ (a : Int) < 12 := by omega
              have htn := eN_le n0 X j
              have hmin : ∀ ts ty w, (Builtin.min_ ts ty #[.int .i64 12, .int .i64 ((n0 : Int) / 512)]).run Try.prog w = .ok (.int .i64 (t : Int)) w := fun ts ty w => by
                have h1 : (Builtin.min_ ts ty #[.int .i64 12, .int .i64 ((n0 : Int) / 512)]).run Try.prog w = .ok (.int .i64 (if (n0 : Int) / 512 < 12 then (n0 : Int) / 512 else 12)) w := by simp [Builtin.min_, Builtin.min2]
                rw [h1]
                have : (if (n0 : Int) / 512 < 12 then (n0 : Int) / 512 else 12) = (t : Int) := by split <;> omega
                rw [this]
              obtain ⟨ka, kc, rfl, hkc, -⟩ := hkp.rng.shape
              have hbt := (hb.below hbr).take' (k := 512 * t) (by rw [u8s_len', hL.out]; omega)
              rw [← u8s_take] at hbt
              have hBt : IsB (L.take (512 * t)) := fun x hx => hB x (List.mem_of_mem_take hx)
              have hsame := same_ok hkp.rng hbt hBt hBt
              simp only [decide_true] at hsame
              have t1 : (512 * (t : Int)) ≤ (n0 : Int) := by omega
              have t2 : (512 * (t : Int)) ≤ (c0 : Int) := by omega
              have t3 : (t : Int) ≤ 12 := by omega
              generalize (u8s (L.take (512 * t))).length = kn at *
              replace e := hid e
              replace hk := hid hk
              replace hinv := hid hinv
              replace hH := hid hH
              clear hlt ha hrp hrq hRp hRq hRa hkp hA hA'
              cases a0 with
              | none =>
                go_wp2_with (first | (go_at_call 13; refine hsame.mono ?_; clear hsame; rintro e w' ⟨hw, rfl⟩; obtain rfl := hw.symm))
                go_ret
                exact ⟨rfl, hbr⟩
              | some x =>
                go_wp2_with (first | (go_at_call 13; refine hsame.mono ?_; clear hsame; rintro e w' ⟨hw, rfl⟩; obtain rfl := hw.symm))
                go_ret
                exact ⟨rfl, hbr⟩

end Go.Proofs.Ytfcbiiakhgeogaa
