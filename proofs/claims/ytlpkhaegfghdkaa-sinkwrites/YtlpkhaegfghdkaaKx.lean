/-
  WHAT A SINK TAKES: SinkTakes's walk. Conditions: how long each piece is.
-/
import Derived.Test.YtlpkhaegfghdkaaKa
namespace Go.Proofs.Ytlpkhaegfghdkaa
open Go.ChangeShapes Go.WideShapes Go.ChangeAt Go.RowKit Go.Lib Go.Deep
set_option linter.unusedVariables false
set_option linter.unusedSimpArgs false
set_option maxRecDepth 20000

theorem PRow.at {w : World} {a : Option Addr} {n c : Nat} {P : List (List Int)} (h : PRow w a n c P) {q : Nat} (hq : q < n) :
    ∃ g off va vc, a = some ⟨g, off, none⟩ ∧ w.cell? ⟨g, off + q, none⟩ = some (.slice va (P.getD q []).length vc) ∧ Rng w (.slice va (P.getD q []).length vc) (u8s (P.getD q [])) (fun k => k < w.heap.size) := by
  obtain ⟨h1, h2, h3, h4, h5⟩ := h
  obtain ⟨g, off, e, k⟩ := h5 (by omega)
  obtain ⟨v, k1, k2⟩ := k q hq
  obtain ⟨va, vc, rfl, -⟩ := k2.shape
  rw [u8s_len'] at *
  exact ⟨g, off, va, vc, e, k1, k2.mono (fun k hk _ => hk)⟩

theorem tkN_isB {A : List Int} (h : IsB A) (room : Int) : IsB (tkN room A) := by
  unfold tkN; split
  · exact fun x hx => h x (List.mem_of_mem_take hx)
  · exact h

set_option maxHeartbeats 4000000 in
theorem takes_walk (W : World) {room : Int} {a0 : Option Addr} {n0 c0 : Nat} {P : List (List Int)} (hr : room ≤ 9223372036854775807) (h : PRow W a0 n0 c0 P) (hm : ∀ x ∈ P, x.length ≤ 140737488351232) :
    Calls Try.prog 3 #[.int .i64 room, .slice a0 n0 c0] W fun e w' => e = .returned (.bool true) ∧ Below W.heap.size W w' := by
  have halive := alive_ok W
  have hfew := fun w (hb : Below W.heap.size W w) => few_ok (h.below hb) hm
  by_cases hf : n0 ≤ 30 ∧ P.flatten.length ≤ 5000
  · rw [decide_eq_true hf] at hfew
    have hnew := fun w => snew_ok w room
    have hl := h.1
    have hB := h.2.2.2.1
    have hcat : ∀ q, (cat P q).length ≤ 5000 := fun q => Nat.le_trans (cat_le P q) hf.2
    have hpl : ∀ q, q < n0 → (P.getD q []).length ≤ 5000 := fun q hq => Nat.le_trans (piece_le (by omega)) hf.2
    have hn30 : n0 ≤ 30 := hf.1
    replace hf := hid hf
    replace hl := hid hl
    go_enter Try.func3, Try.ntmps3
    go_upto_region 7 with (first
      | (go_at_call 6; refine halive.mono ?_; clear halive; rintro e w0 ⟨rfl, hb0⟩)
      | (go_at_call 7; refine (hfew _ hb0).mono ?_; clear hfew; rintro e w' ⟨hw, rfl⟩; obtain rfl := hw.symm)
      | (go_at_call 8; refine (hnew _).mono ?_; clear hnew; rintro e w1 ⟨⟨s, rfl, hs, hk1⟩, hb1⟩))
    have g0 := hb0.size
    have g1 := hb1.size
    have hbw : Below W.heap.size W w1 := hb0.trans (hb1.mono g0)
    go_wp2
    go_loopg [6, 7] (n0 - 0) (fun k v i wr => ∃ q Ra Rs, k = n0 - q ∧ i = .int .i64 (q : Nat) ∧ q ≤ n0 ∧ Kp wr v (u8s (cat P q)) Ra ∧ Sk wr s room (tkN room (cat P q)) Rs ∧ (∀ k, Ra k → W.heap.size ≤ k ∧ ¬ Rs k) ∧ (∀ k, Rs k → W.heap.size ≤ k) ∧ (∀ k, Ra k → k < wr.heap.size) ∧ (∀ k, Rs k → k < wr.heap.size) ∧ Below W.heap.size W wr)
    case atStart =>
      refine ⟨0, No, fun k => W.heap.size ≤ k ∧ k < w1.heap.size, rfl, rfl, Nat.zero_le _, ?_, ?_, (fun k h => h.elim), (fun k hk => hk.1), (fun k h => h.elim), (fun k h => h.2), hbw⟩
      · rw [cat_zero]; exact Kp.nil _ _
      · rw [cat_zero, show tkN room [] = [] by unfold tkN; split <;> simp]
        exact hk1.mono (fun k hk h => ⟨by omega, hk⟩)
    case round =>
      obtain ⟨q, Ra, Rs, hk, rfl, hq, hka, hks, hdis, hRs, hla, hls, hbr⟩ := hrel
      by_cases hlt : q < n0
      · obtain ⟨L, hL⟩ : ∃ L, L = P.getD q [] := ⟨_, rfl⟩
        have hll := hpl q hlt
        have hnext := cat_next (P := P) (i := q) (by have := hl.out; omega)
        have hcl := hcat q
        have hcl' := hcat (q + 1)
        obtain ⟨g, off, va, vc, rfl, k1, k2⟩ := (h.below hbr).at hlt
        rw [← hL] at k1 k2 hll hnext
        have htk1 := taken_ok hka.rng room (by omega) hr
        obtain ⟨v2, w2, hrun, hk2, hn2⟩ := app_b (ty := 27) hka k2 (by rw [u8s_len', u8s_len']; omega)
        rw [u8s_app, ← hnext] at hk2
        have z2 := hn2.size
        have hsr : W.heap.size ≤ wr.heap.size := hbr.size
        have hb2 : Below W.heap.size W w2 := hbr.trans (hn2.below hsr (fun k hk => (hdis k hk).1))
        have hks2 := hks.nr hn2 (fun k hk hk' => (hdis k hk').2 hk)
        obtain ⟨g', off', va', vc', e', k3, k4⟩ := (h.below hb2).at hlt
        simp only [Option.some.injEq, Addr.mk.injEq] at e'
        obtain ⟨rfl, rfl, -⟩ := e'
        rw [← hL] at k3 k4
        have htk2 := taken_ok hk2.rng room (by omega) hr
        have htl := tkN_len room (cat P q)
        have htake := take_ok hks2 k4 (by omega) (by omega) (tkN_le room _) hr
        have happ := tkN_app room (cat P q) L
        rw [← hnext] at happ
        have hfl := fitN_le room (tkN room (cat P q)).length L.length
        generalize fitN room (tkN room (cat P q)).length L.length = N at *
        rw [← happ] at htake
        have hm2 : (tkN room (cat P (q + 1))).length = (tkN room (cat P q)).length + N := by rw [happ, List.length_append, List.length_take]; omega
        have hsb := fun w v u R R' (h1 : Rng w v (u8s (tkN room (cat P (q + 1)))) R) (h2 : Rng w u (u8s (tkN room (cat P (q + 1)))) R') => same_ok h1 h2 (tkN_isB (cat_isB hB _) room) (tkN_isB (cat_isB hB _) room)
        simp only [decide_true] at hsb
        have htl2 := tkN_len room (cat P (q + 1))
        have hby := fun w R (h : Sk w s room (tkN room (cat P (q + 1))) R) => sbytes_ok h (by omega)
        have hat := fun w (hb : Below W.heap.size W w) => (h.below hb).at hlt
        rw [← hL] at hat
        have hsub : ((tkN room (cat P (q + 1))).length : Int) - ((tkN room (cat P q)).length : Int) = (N : Int) := by omega
        obtain ⟨x6, c6, rfl, -⟩ := hka.rng.shape
        obtain ⟨x7, c7, rfl, -⟩ := hk2.rng.shape
        have ec := show (takeC N L.length) = if N < L.length then 14 else 0 from rfl
        generalize (tkN room (cat P (q + 1))).length = m2 at *
        generalize (tkN room (cat P q)).length = m1 at *
        generalize hl' : L.length = l at *
        generalize (u8s (cat P q)).length = p1 at *
        generalize (u8s (cat P (q + 1))).length = p2 at *
        have hm2I : (m2 : Int) ≤ 5000 := by omega
        have hm1I : (m1 : Int) ≤ 5000 := by omega
        have hltI : (q : Int) < (n0 : Int) := by omega
        have hcI : (n0 : Int) ≤ (c0 : Int) := by have := h.2.1; omega
        replace hl' := hid hl'
        replace hL := hid hL
        replace hnext := hid hnext
        replace happ := hid happ
        replace hm2 := hid hm2
        replace hk := hid hk
        have hw3 : ∀ w3, Nr Rs w2 w3 → Below W.heap.size W w3 := fun w3 hn => hb2.trans (hn.below hb2.size hRs)
        have hat' : ∀ w, Below W.heap.size W w → ∃ va vc, w.cell? ⟨g, off + q, none⟩ = some (.slice va l vc) := by
          intro w hb
          obtain ⟨g3, off3, va3, vc3, e3, k5, -⟩ := hat w hb
          simp only [Option.some.injEq, Addr.mk.injEq] at e3
          obtain ⟨rfl, rfl, -⟩ := e3
          exact ⟨va3, vc3, k5⟩
        have hdj : ∀ k, (Ra k ∨ wr.heap.size ≤ k) → ¬ Rs k := by
          rintro k (h1 | h1) h2
          · exact (hdis k h1).2 h2
          · have := hls k h2; omega
        clear hat
        by_cases hNl : N < l
        · rw [if_pos hNl] at ec
          rw [ec] at htake
          have hne : ¬ (N : Int) = (l : Int) := by omega
          clear ec
          replace hNl := hid hNl
          go_wp2_with (first
            | (go_at_call 9; refine htk1.mono ?_; clear htk1; rintro e w' ⟨hw, y1, d1, rfl, hv1⟩; obtain rfl := hw.symm)
            | (at_builtin; go_loud (refine Lib.wpList_append_run _ rfl (.tmp 30) (.tmp 34) 27 27 rfl _ _ rfl rfl _ _ hrun ?_))
            | (go_at_call 9; refine htk2.mono ?_; clear htk2; rintro e w' ⟨hw, y2, d2, rfl, hv2⟩; obtain rfl := hw.symm)
            | (go_at_call 10; refine htake.mono ?_; clear htake; rintro e w3 ⟨rfl, hk3, hn3⟩; obtain ⟨v3, c3, k5⟩ := hat' _ (hw3 _ hn3); have hv5 := hv2.nr hn3 hdj)
            | (go_at_call 12; refine (hby _ _ hk3).mono ?_; clear hby; rintro e w4 ⟨⟨v4, rfl, hv4⟩, hb4⟩; have hv6 := hv5.below hb4)
            | (go_at_call 11; refine (hsb _ _ _ _ _ hv4 hv6).mono ?_; clear hsb; rintro e w' ⟨hw, rfl⟩; obtain rfl := hw.symm))
          go_roundg (n0 - (q + 1))
          case measure => have := hk.out; omega
          case rel =>
            have z3 := hn3.size
            have z4 := hb4.size
            have hk2' := hk2.mono (R' := fun k => (Ra k ∨ wr.heap.size ≤ k) ∧ k < w2.heap.size) (fun k h1 h2 => ⟨h2, h1⟩)
            have hk3' := hk3.mono (R' := fun k => Rs k ∨ (w2.heap.size ≤ k ∧ k < w3.heap.size)) (fun k h1 h2 => h2.elim .inl (fun h => .inr ⟨h, h1⟩))
            refine ⟨q + 1, fun k => (Ra k ∨ wr.heap.size ≤ k) ∧ k < w2.heap.size, fun k => Rs k ∨ (w2.heap.size ≤ k ∧ k < w3.heap.size), rfl, by go_num, by omega, ?_, hk3'.below hb4, ?_, ?_, ?_, ?_, (hw3 _ hn3).trans (hb4.mono (by omega))⟩
            · exact (hk2'.nr hn3 (fun k hk => hdj k hk.1)).nr (S := No) (Nr.of_below hb4) (fun _ _ h => h)
            · rintro k ⟨h1, h2⟩
              refine ⟨?_, ?_⟩
              · rcases h1 with h1 | h1
                · exact (hdis k h1).1
                · omega
              · rintro (h3 | h3)
                · exact hdj k h1 h3
                · omega
            · rintro k (h1 | h1)
              · exact hRs k h1
              · omega
            · intro k h1; omega
            · rintro k (h1 | h1)
              · have := hls k h1; omega
              · omega
        · have hNl' : N = l := by omega
          rw [if_neg hNl] at ec
          rw [ec, hNl'] at htake
          rw [hNl'] at hsub
          clear ec hNl
          replace hNl' := hid hNl'
          go_wp2_with (first
            | (go_at_call 9; refine htk1.mono ?_; clear htk1; rintro e w' ⟨hw, y1, d1, rfl, hv1⟩; obtain rfl := hw.symm)
            | (at_builtin; go_loud (refine Lib.wpList_append_run _ rfl (.tmp 30) (.tmp 34) 27 27 rfl _ _ rfl rfl _ _ hrun ?_))
            | (go_at_call 9; refine htk2.mono ?_; clear htk2; rintro e w' ⟨hw, y2, d2, rfl, hv2⟩; obtain rfl := hw.symm)
            | (go_at_call 10; refine htake.mono ?_; clear htake; rintro e w3 ⟨rfl, hk3, hn3⟩; obtain ⟨v3, c3, k5⟩ := hat' _ (hw3 _ hn3); have hv5 := hv2.nr hn3 hdj)
            | (go_at_call 12; refine (hby _ _ hk3).mono ?_; clear hby; rintro e w4 ⟨⟨v4, rfl, hv4⟩, hb4⟩; have hv6 := hv5.below hb4)
            | (go_at_call 11; refine (hsb _ _ _ _ _ hv4 hv6).mono ?_; clear hsb; rintro e w' ⟨hw, rfl⟩; obtain rfl := hw.symm))
          go_roundg (n0 - (q + 1))
          case measure => have := hk.out; omega
          case rel =>
            have z3 := hn3.size
            have z4 := hb4.size
            have hk2' := hk2.mono (R' := fun k => (Ra k ∨ wr.heap.size ≤ k) ∧ k < w2.heap.size) (fun k h1 h2 => ⟨h2, h1⟩)
            have hk3' := hk3.mono (R' := fun k => Rs k ∨ (w2.heap.size ≤ k ∧ k < w3.heap.size)) (fun k h1 h2 => h2.elim .inl (fun h => .inr ⟨h, h1⟩))
            refine ⟨q + 1, fun k => (Ra k ∨ wr.heap.size ≤ k) ∧ k < w2.heap.size, fun k => Rs k ∨ (w2.heap.size ≤ k ∧ k < w3.heap.size), rfl, by go_num, by omega, ?_, hk3'.below hb4, ?_, ?_, ?_, ?_, (hw3 _ hn3).trans (hb4.mono (by omega))⟩
            · exact (hk2'.nr hn3 (fun k hk => hdj k hk.1)).nr (S := No) (Nr.of_below hb4) (fun _ _ h => h)
            · rintro k ⟨h1, h2⟩
              refine ⟨?_, ?_⟩
              · rcases h1 with h1 | h1
                · exact (hdis k h1).1
                · omega
              · rintro (h3 | h3)
                · exact hdj k h1 h3
                · omega
            · rintro k (h1 | h1)
              · exact hRs k h1
              · omega
            · intro k h1; omega
            · rintro k (h1 | h1)
              · have := hls k h1; omega
              · omega
      · obtain rfl : q = n0 := by omega
        have hng : ¬ (q : Int) < (q : Int) := by omega
        replace hk := hid hk
        go_wp2
        go_ret
        exact ⟨rfl, hbr⟩
  · rw [decide_eq_false hf] at hfew
    replace hf := hid hf
    go_enter Try.func3, Try.ntmps3
    go_wp2_with (first
      | (go_at_call 6; refine halive.mono ?_; clear halive; rintro e w0 ⟨rfl, hb0⟩)
      | (go_at_call 7; refine (hfew _ hb0).mono ?_; clear hfew; rintro e w' ⟨hw, rfl⟩; obtain rfl := hw.symm))
    go_ret
    exact ⟨rfl, hb0⟩

end Go.Proofs.Ytlpkhaegfghdkaa
