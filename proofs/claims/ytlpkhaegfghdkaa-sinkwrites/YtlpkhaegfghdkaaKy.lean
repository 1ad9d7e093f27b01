/-
  WHAT A WRITER PUTS INTO A SINK: SinkWrites's walk. Conditions: how long each piece is.
-/
import Derived.Test.YtlpkhaegfghdkaaKv
import Derived.Deep.CutRange
import Derived.Deep.DeepCutAuto
namespace Go.Proofs.Ytlpkhaegfghdkaa
open Go.ChangeShapes Go.WideShapes Go.ChangeAt Go.RowKit Go.Lib Go.Deep
set_option linter.unusedVariables false
set_option linter.unusedSimpArgs false
set_option maxRecDepth 20000

/-- what a slice of bools holds -/
def BRow (w : World) (a : Option Addr) (n c : Nat) (B : Nat → Bool) : Prop :=
  n ≤ c ∧ c ≤ 9223372036854775807 ∧ (0 < n → ∃ g off, a = some ⟨g, off, none⟩ ∧ ∀ i, i < n → w.cell? ⟨g, off + i, none⟩ = some (.bool (B i)))

theorem open_brow {H : Type} {enc : TypeId × Value → H} {W : World} {fuel : Nat} {a : Option Addr} {n c : Nat} {d : DataW H} {p : List MemPlace}
    (hf : DataW.trod enc Try.prog W 0 (fun _ => true) true fuel 35 [.slice a n c] = some (d, p)) : ∃ B, BRow W a n c B := by
  rcases open_bools Try.underlying35 Try.underlying4 (by kernel_rfl) hf with ⟨hcs, hx⟩ | ⟨a', len, cap, B, hcs, _, hl, hm, hx, hall⟩
  · simp only [List.cons.injEq, and_true, Value.slice.injEq] at hcs
    obtain ⟨rfl, rfl, rfl⟩ := hcs
    exact ⟨fun _ => false, Nat.le_refl _, by omega, fun h => by omega⟩
  · simp only [List.cons.injEq, and_true, Value.slice.injEq] at hcs
    obtain ⟨rfl, rfl, rfl⟩ := hcs
    refine ⟨B, hl, by unfold maxLen at hm; omega, fun h0 => ?_⟩
    obtain ⟨g, off, spot⟩ := a'
    have hspot : spot = none := by simpa [Addr.add] using World.cell?_spot (hall 0 (by omega))
    subst hspot
    exact ⟨g, off, rfl, fun i hi => by have := hall i (by omega); rw [add_mid] at this; exact this⟩

/-- a literal's row may grow -/
theorem lit_kp (w : World) (xs : List Value) (e : TypeId) (C : Array Value) (hC : C.toList = xs) (n : Nat) (hn : xs.length = n) (hx : ∀ u ∈ xs, u.oneCell' = true) (hl : n ≤ 1000000) :
    Kp (w.alloc (.cells C e)) (.slice (some ⟨w.heap.size, 0, none⟩) n n) xs (fun k => k = w.heap.size) := by
  subst hn
  have hblk := heap_alloc_last w (.cells C e)
  refine .inr ⟨w.heap.size, 0, xs.length, rfl, Nat.le_refl _, by unfold maxLen; omega, hx, rfl, fun j v hv => ?_, fun j hj => ?_, by simp⟩
  · rw [Nat.zero_add, cell_of_row _ _ j _ e (0, 0) hblk, ← Array.getElem?_toList, hC]; exact hv
  · rw [Nat.zero_add, cell_of_row _ _ j _ e (0, 0) hblk]
    refine ⟨?_, Joins.unfrozen_of_block hblk j⟩
    rw [← Array.getElem?_toList, hC, List.getElem?_eq_getElem hj]; rfl

theorem zer_isB (n : Nat) : IsB (zer n) := fun x hx => by have := List.eq_of_mem_replicate hx; omega

theorem more_one (w : World) (L : List Int) {va : Option Addr} {vc : Nat} {X : Nat → Prop} (hX : ∀ k, X k → k < w.heap.size) (h : Rng w (.slice va L.length vc) (u8s L) (fun k => ¬ X k)) :
    More (w.alloc (.cells #[.slice va L.length vc] 27)) (.slice (some ⟨w.heap.size, 0, none⟩) 1 1) [L] X ∧ Below w.heap.size w (w.alloc (.cells #[.slice va L.length vc] 27)) := by
  have hb : Below w.heap.size w (w.alloc (.cells #[.slice va L.length vc] 27)) := (Below.refl _ _).alloc (Nat.le_refl _) _
  refine ⟨⟨w.heap.size, 0, 1, rfl, Nat.le_refl _, by omega, fun h => by have := hX _ h; omega, fun j hj => ⟨va, vc, ?_, ?_⟩⟩, hb⟩
  · obtain rfl : j = 0 := by simp at hj; omega
    rw [Nat.zero_add, cell_of_row _ _ 0 _ 27 (0, 0) (heap_alloc_last w _)]; rfl
  · obtain rfl : j = 0 := by simp at hj; omega
    exact h.below hb

theorem more_two (w : World) (L : List Int) (z : Nat) (hz : z ≤ 1000) {Z : Array Value} (hZ : Z.toList = u8s (zer z)) {va : Option Addr} {vc : Nat} {X : Nat → Prop} (hX : ∀ k, X k → k < w.heap.size) (h : Rng w (.slice va L.length vc) (u8s L) (fun k => ¬ X k)) (hvc : L.length ≤ vc) :
    ∃ v' w', (Builtin.append_ #[22, 22] 22 #[.slice (some ⟨w.heap.size, 0, none⟩) 1 1, .slice (some ⟨w.heap.size + 1 + 1, 0, none⟩) 1 1]).run Try.prog (((w.alloc (.cells #[.slice va L.length vc] 27)).alloc (.cells Z 5)).alloc (.cells #[.slice (some ⟨w.heap.size + 1, 0, none⟩) z z] 27)) = .ok v' w' ∧
      More w' v' [L, zer z] X ∧ Below w.heap.size w w' := by
  have b1 : Below w.heap.size w (w.alloc (.cells #[.slice va L.length vc] 27)) := (Below.refl _ _).alloc (Nat.le_refl _) _
  have b2 : Below w.heap.size w ((w.alloc (.cells #[.slice va L.length vc] 27)).alloc (.cells Z 5)) := b1.alloc (by simp) _
  have b3 : Below w.heap.size w (((w.alloc (.cells #[.slice va L.length vc] 27)).alloc (.cells Z 5)).alloc (.cells #[.slice (some ⟨w.heap.size + 1, 0, none⟩) z z] 27)) := b2.alloc (by simp; omega) _
  have k1 := lit_kp w [.slice va L.length vc] 27 #[.slice va L.length vc] rfl 1 rfl (by intro u hu; simp at hu; subst hu; rfl) (by omega)
  have k2 := k1.nr (S := No) (Nr.of_below (w' := (w.alloc (.cells #[.slice va L.length vc] 27)).alloc (.cells Z 5)) ((Below.refl _ _).alloc (Nat.le_refl _) _)) (fun _ _ h => h)
  have k3 := k2.nr (S := No) (Nr.of_below (w' := ((w.alloc (.cells #[.slice va L.length vc] 27)).alloc (.cells Z 5)).alloc (.cells #[.slice (some ⟨w.heap.size + 1, 0, none⟩) z z] 27)) ((Below.refl _ _).alloc (Nat.le_refl _) _)) (fun _ _ h => h)
  have r1 := lit_rng ((w.alloc (.cells #[.slice va L.length vc] 27)).alloc (.cells Z 5)) [.slice (some ⟨w.heap.size + 1, 0, none⟩) z z] 27 #[.slice (some ⟨w.heap.size + 1, 0, none⟩) z z] rfl 1 rfl (by intro u hu; simp at hu; subst hu; rfl) (by omega)
  have z1 := lit_rng (w.alloc (.cells #[.slice va L.length vc] 27)) (u8s (zer z)) 5 Z hZ z (by rw [u8s_len', zer_len]) (u8s_one' _) (by omega)
  rw [World.size_alloc, World.size_alloc] at r1
  rw [World.size_alloc] at z1
  obtain ⟨v', w', e1, e2, e3⟩ := app_p (ty := 22) k3 r1 (by simp)
  have hb4 := b3.trans (e3.below b3.size (fun k hk => by omega))
  refine ⟨v', w', e1, ?_, hb4⟩
  have e0 := e3.size
  have s3 : (((w.alloc (.cells #[.slice va L.length vc] 27)).alloc (.cells Z 5)).alloc (.cells #[.slice (some ⟨w.heap.size + 1, 0, none⟩) z z] 27)).heap.size = w.heap.size + 3 := by simp
  rw [s3] at e0 e2
  rcases e2 with ⟨-, hn⟩ | ⟨g, off, cap, rfl, h1, h2, h4, hR, h5, h6, h7⟩
  · simp at hn
  · refine ⟨g, off, cap, rfl, h1, by unfold maxLen at h2; omega, fun hx => by have := hX _ hx; omega, fun j hj => ?_⟩
    have hj' : j = 0 ∨ j = 1 := by simp at hj; omega
    rcases hj' with rfl | rfl
    · exact ⟨va, vc, h5 0 _ rfl, h.below hb4⟩
    · refine ⟨some ⟨w.heap.size + 1, 0, none⟩, z, ?_, ?_⟩
      · have := h5 1 (.slice (some ⟨w.heap.size + 1, 0, none⟩) z z) rfl
        rw [show ([L, zer z].getD 1 []).length = z from zer_len z]
        exact this
      · rw [show ([L, zer z].getD 1 []).length = z from zer_len z]
        have z2 := z1.below (w' := ((w.alloc (.cells #[.slice va L.length vc] 27)).alloc (.cells Z 5)).alloc (.cells #[.slice (some ⟨w.heap.size + 1, 0, none⟩) z z] 27)) ((Below.refl _ _).alloc (Nat.le_refl _) _)
        exact (z2.nr e3 (fun k hk hk' => by omega)).mono (fun k _ hk hx => by have := hX _ hx; omega)

set_option maxHeartbeats 4000000 in
theorem writes_walk (W : World) {room : Int} {a1 : Option Addr} {n1 c1 : Nat} {P : List (List Int)} {a2 : Option Addr} {n2 c2 : Nat} {B : Nat → Bool} (hr : room ≤ 9223372036854775807) (h : PRow W a1 n1 c1 P) (hm : ∀ x ∈ P, x.length ≤ 140737488351232) (hbr0 : BRow W a2 n2 c2 B) :
    Calls Try.prog 4 #[.int .i64 room, .slice a1 n1 c1, .slice a2 n2 c2] W fun e w' => e = .returned (.bool true) ∧ Below W.heap.size W w' := by
  have halive := alive_ok W
  have hfew := fun w (hb : Below W.heap.size W w) => few_ok (h.below hb) hm
  obtain ⟨hnc2, hcm2, hbrow⟩ := hbr0
  by_cases hf : n1 ≤ 30 ∧ P.flatten.length ≤ 5000
  · rw [decide_eq_true hf] at hfew
    by_cases h60 : 60 < n2
    · have h60I : (60 : Int) < (n2 : Int) := by omega
      replace hf := hid hf
      replace h60 := hid h60
      go_enter Try.func4, Try.ntmps4
      go_wp2_with (first
        | (go_at_call 6; refine halive.mono ?_; clear halive; rintro e w0 ⟨rfl, hb0⟩)
        | (go_at_call 7; refine (hfew _ hb0).mono ?_; clear hfew; rintro e w' ⟨hw, rfl⟩; obtain rfl := hw.symm))
      go_ret
      exact ⟨rfl, hb0⟩
    · have h60I : ¬ (60 : Int) < (n2 : Int) := by omega
      have hnew := fun w => snew_ok w room
      have hl := h.1
      have hB := h.2.2.2.1
      have hcat : ∀ q, (cat P q).length ≤ 5000 := fun q => Nat.le_trans (cat_le P q) hf.2
      have hpl : ∀ q, q < n1 → (P.getD q []).length ≤ 5000 := fun q hq => Nat.le_trans (piece_le (by omega)) hf.2
      have hn30 : n1 ≤ 30 := hf.1
      replace hf := hid hf
      replace hl := hid hl
      replace h60 := hid h60
      go_enter Try.func4, Try.ntmps4
      go_upto_region 9 with (first
        | (go_at_call 6; refine halive.mono ?_; clear halive; rintro e w0 ⟨rfl, hb0⟩)
        | (go_at_call 7; refine (hfew _ hb0).mono ?_; clear hfew; rintro e w' ⟨hw, rfl⟩; obtain rfl := hw.symm)
        | (go_at_call 8; refine (hnew _).mono ?_; clear hnew; rintro e w1 ⟨⟨s, rfl, hs, hk1⟩, hb1⟩)
        | (go_at_call 13; refine (writer_ok hk1).mono ?_; rintro e w2 ⟨⟨p, rfl, hp, hk2⟩, hb2⟩))
      have g0 := hb0.size
      have g1 := hb1.size
      have g2 := hb2.size
      have hbw : Below W.heap.size W w2 := (hb0.trans (hb1.mono g0)).trans (hb2.mono (by omega))
      go_wp2
      go_loopg [9, 10, 11] (n1 - 0) (fun k v fb i wr => ∃ (q : Nat) (A T : List Int) (f : Int) (c : Nat) (fl : Bool) (X : Nat → Prop), k = n1 - q ∧ i = .int .i64 (q : Nat) ∧ fb = .bool fl ∧ q ≤ n1 ∧ St wr p s room T A f c v X ∧ Hid (Fl room T A f c fl) ∧ A.length ≤ (cat P q).length + 511 * q ∧ IsB A ∧ (∀ k, X k → W.heap.size ≤ k ∧ k < wr.heap.size) ∧ Below W.heap.size W wr)
      case atStart =>
        refine ⟨0, [], [], 0, 0, false, fun k => W.heap.size ≤ k ∧ k < w2.heap.size, rfl, rfl, rfl, Nat.zero_le _, ?_, hid (Fl.start room), by simp, (fun x hx => by simp at hx), fun k hk => hk, hbw⟩
        obtain ⟨Rs, q1, q2, q3, q4⟩ := hk2
        refine ⟨fun k => (w0.heap.size ≤ k ∨ w1.heap.size ≤ k) ∧ k < w2.heap.size, No, ⟨fun k => Rs k ∧ k < w2.heap.size, ⟨q1, q2.lt⟩, q2, q3.mono (fun k hk h => ⟨h, hk⟩), fun k hk => ⟨⟨(q4 k hk.1).1, hk.2⟩, (q4 k hk.1).2⟩⟩, Kp.nil _ _, fun k hk => ⟨⟨by omega, hk.2⟩, (fun h => h), hk.2⟩, fun k hk => hk.elim⟩
      case round =>
        obtain ⟨q, A, T, f, c, fl, X, hk, rfl, rfl, hq, hSt0, hFl, hA, hBA, hX, hbr⟩ := hrel
        by_cases hlt : q < n1
        · obtain ⟨g, off, va, vc, rfl, k1, k2⟩ := h.at hlt
          have hll := hpl q hlt
          have hLB : IsB (P.getD q []) := hB _ (getD_mem (by have := hl.out; omega))
          have hnext := hid (cat_next (P := P) (i := q) (by have := hl.out; omega))
          have hcl := hcat q
          generalize hL : P.getD q [] = L at *
          have kr : wr.cell? ⟨g, off + q, none⟩ = _ := cell_later hbr k1
          have kr2 := (k2.below hbr).mono (R' := fun k => ¬ X k) (fun k _ hk hx => by have := hX k hx; omega)
          have hsr : W.heap.size ≤ wr.heap.size := hbr.size
          obtain ⟨xa, xc, hvs⟩ := hSt0.shape
          subst hvs
          have hltI : (q : Int) < (n1 : Int) := by omega
          have hcI : (n1 : Int) ≤ (c1 : Int) := by have := h.2.1; omega
          replace hk := hid hk
          replace hL := hid hL
          obtain ⟨hm1, hm1b⟩ := more_one wr L (X := X) (fun k hk => (hX k hk).2) kr2
          obtain ⟨Z, hZ, hmk⟩ := make_b (restN (A.length + L.length)) (by have := restN_le (A.length + L.length); omega)
          have hm2 := more_two wr L (restN (A.length + L.length)) (by have := restN_le (A.length + L.length); omega) hZ (X := X) (fun k hk => (hX k hk).2) kr2 (by obtain ⟨_, _, e, hh, _⟩ := kr2; simp only [Value.slice.injEq] at e; obtain ⟨-, -, rfl⟩ := e; rw [u8s_len'] at hh; exact hh)
          go_upto_region 13 with fail
          go_cut [49] from 40 to 49 (fun b wc => wc = wr.alloc (.cells #[.slice va L.length vc] 27) ∧ ∃ pb, b = .bool pb)
          case first =>
            by_cases hq2 : q < n2
            · have hq2I : (q : Int) < (n2 : Int) := by omega
              obtain ⟨g2, off2, rfl, hcells⟩ := hbrow (by omega)
              have kb : (wr.alloc (.cells #[.slice va L.length vc] 27)).cell? ⟨g2, off2 + q, none⟩ = _ := cell_later (hbr.trans (hm1b.mono hsr)) (hcells q hq2)
              have hnI : (n2 : Int) ≤ (c2 : Int) := by omega
              clear hm1 hSt0 hFl hm2
              go_wp2
              go_meet
              case rel => exact ⟨rfl, _, rfl⟩
            · have hq2I : ¬ (q : Int) < (n2 : Int) := by omega
              clear hm1 hSt0 hFl hm2
              go_wp2
              go_meet
              case rel => exact ⟨rfl, _, rfl⟩
          case rest =>
          obtain ⟨rfl, pb, rfl⟩ := hcut
          go_upto_if 49 with fail
          go_cut [12] from 50 to 62 (fun mv wc => ∃ M, More wc mv M X ∧ Below wr.heap.size wr wc ∧ (M = [L] ∨ M = [L, zer (restN (A.length + L.length))]))
          case first =>
            cases pb with
            | false =>
              go_wp2
              go_meet
              case rel => exact ⟨[L], hm1, hm1b, .inl rfl⟩
            | true =>
              obtain ⟨v', w', hrun, hmore, hb4⟩ := hm2
              obtain ⟨gm, om, cm, hvm, -⟩ := id hmore
              subst hvm
              have hrest := fun w => rrest_ok w (A.length + L.length) (by omega)
              have krp : (wr.alloc (.cells #[.slice va L.length vc] 27)).cell? ⟨g, off + q, none⟩ = _ := cell_later hm1b kr
              generalize restN (A.length + L.length) = z at *
              clear hm1 hSt0 hFl
              go_wp2_with (first
                | (go_at_call 14; refine (hrest _).mono ?_; clear hrest; rintro e w' ⟨hw, rfl⟩; obtain rfl := hw.symm)
                | (at_builtin; go_loud (refine Lib.wpList_append_run _ rfl (.tmp 50) (.tmp 61) 22 22 rfl _ _ rfl rfl _ _ hrun ?_)))
              go_meet
              case rel => exact ⟨_, hmore, hb4, .inr rfl⟩
          case rest =>
            obtain ⟨M, hmore, hbc, hM⟩ := hcut
            obtain ⟨gm, om, cm, rfl, hcm1, hcm2, hgX, hrows⟩ := hmore
            have hMl12 : M.length = 1 ∨ M.length = 2 := by rcases hM with rfl | rfl <;> simp
            have hMB : ∀ j, j < M.length → IsB (M.getD j []) := by
              intro j hj
              rcases hM with rfl | rfl
              · obtain rfl : j = 0 := by simp at hj; omega
                exact hLB
              · have : j = 0 ∨ j = 1 := by simp at hj; omega
                rcases this with rfl | rfl
                · exact hLB
                · exact zer_isB _
            have hML : ∀ j, j < M.length → (M.getD j []).length ≤ 5000 := by
              intro j hj
              have hz := restN_le (A.length + L.length)
              rcases hM with rfl | rfl
              · obtain rfl : j = 0 := by simp at hj; omega
                exact hll
              · have : j = 0 ∨ j = 1 := by simp at hj; omega
                rcases this with rfl | rfl
                · exact hll
                · show (zer _).length ≤ 5000
                  rw [zer_len]; omega
            have hMc : ∀ j, (cat M j).length ≤ L.length + 511 := by
              intro j
              have hz := restN_le (A.length + L.length)
              refine Nat.le_trans (cat_le M j) ?_
              rcases hM with rfl | rfl
              · simp
              · simp [zer_len]; omega
            have hMcI : (M.length : Int) ≤ (cm : Int) := by omega
            have hStc := hSt0.below hbc
            have gc := hbc.size
            have hbWc : Below W.heap.size W wc := hbr.trans (hbc.mono hsr)
            replace hM := hid hM
            clear hm1 hm1b hm2 hmk hSt0 hZ
            go_wp2
            go_loopg [9, 10, 13] (M.length - 0) (fun k v fb jv w2 => ∃ (j : Nat) (A' T' : List Int) (f' : Int) (c' : Nat) (fl' : Bool) (X' : Nat → Prop), k = M.length - j ∧ jv = .int .i64 (j : Nat) ∧ fb = .bool fl' ∧ j ≤ M.length ∧ St w2 p s room T' A' f' c' v X' ∧ Hid (Fl room T' A' f' c' fl') ∧ (fl' = false → A' = A ++ cat M j) ∧ A'.length ≤ A.length + (cat M j).length ∧ IsB A' ∧ (∀ k, X' k → (X k ∨ wc.heap.size ≤ k) ∧ k < w2.heap.size) ∧ Nr X wc w2)
            case atStart =>
              exact ⟨0, A, T, f, c, fl, X, rfl, rfl, rfl, Nat.zero_le _, hStc, hFl, (fun _ => by rw [cat_zero, List.append_nil]), by omega, hBA, (fun k hk => ⟨.inl hk, by have := (hX k hk).2; omega⟩), Nr.refl _ _⟩
            case round =>
              obtain ⟨j, A', T', f', c', fl', X', hk2, rfl, rfl, hjM0, hSt, hF, hAA, hA', hB', hX', hn2⟩ := hrel
              obtain ⟨x', d', hv'⟩ := hSt.shape
              subst hv'
              have hle := hF.out.le
              have hFle := hle.2.2
              replace hAA := hid hAA
              have hMcj := hMc j
              by_cases hjM : j < M.length
              · have hj01 : j = 0 ∨ j = 1 := by omega
                rcases hj01 with rfl | rfl
                · obtain ⟨u, uc, j1, j2⟩ := hrows 0 hjM
                  rw [Nat.add_zero] at j1
                  have j3 := hn2.cell hgX j1
                  have hcm := hid (cat_next (P := M) (i := 0) hjM)
                  have hLjl : (M.getD 0 []).length ≤ 5000 := hML 0 hjM
                  have hLjB : IsB (M.getD 0 []) := hMB 0 hjM
                  have hMj := hid hjM
                  generalize hLj : M.getD 0 [] = Lj at *
                  replace hLj := hid hLj.symm
                  have hLjI : (Lj.length : Int) ≤ 5000 := by omega
                  cases fl' with
                  | true =>
                    obtain ⟨rfl, hc14⟩ := hF.out.2.2 rfl
                    have hltj : (0 : Int) < (M.length : Int) := by omega
                    replace hk2 := hid hk2
                    have hb3 := Below.refl wr.heap.size wr
                    go_wp2_with (first
                      | (go_at_call 15; refine (st_told hSt (by omega) _ _ _).mono ?_; rintro e w' ⟨hw, rfl⟩; obtain rfl := hw.symm))
                    go_roundg (M.length - (0 + 1))
                    case measure => have := hk2.out; have := hMj.out; omega
                    case rel =>
                      have s3 := hb3.size
                      exact ⟨0 + 1, A', T', 14, c', true, X', rfl, by go_num, rfl, by have := hMj.out; omega, hSt.below hb3, hF, (fun h => by cases h), by rw [hcm.out, List.length_append]; omega, hB', fun k hk => ⟨(hX' k hk).1, by have := (hX' k hk).2; omega⟩, hn2.trans (Nr.of_below hb3)⟩
                  | false =>
                    replace hAA := hid (hAA.out rfl)
                    have hF0 := hF.out.2.1 rfl
                    obtain ⟨rfl, -, -⟩ := hF.out.2.1 rfl
                    have j2' := j2.nr hn2 (fun k hk h => hk h)
                    have hput := st_put (c := c') hSt j2' (by omega) (by omega) (by omega) hFle hr
                    have htk0 := fun w5 x5 d5 (Y : Nat → Prop) (hy : Rng w5 (.slice x5 (A' ++ Lj).length d5) (u8s (A' ++ Lj)) Y) => taken_ok hy room (by rw [List.length_append]; omega) hr
                    have hAjl : (A' ++ Lj).length = A'.length + Lj.length := List.length_append
                    have hltj : (0 : Int) < (M.length : Int) := by omega
                    replace hk2 := hid hk2
                    clear hF0
                    by_cases hN : fitN room T'.length Lj.length < Lj.length
                    · obtain ⟨hF2, e14, hsh⟩ := Fl.fails hF.out hN
                      rw [e14] at hF2
                      rw [e14] at hput
                      generalize T' ++ Lj.take (fitN room T'.length Lj.length) = T3 at *
                      generalize cntN c' (fitN room T'.length Lj.length) Lj.length = c3 at *
                      generalize hm5 : (A' ++ Lj).length = m5 at *
                      generalize (tkN room (A' ++ Lj)).length = t5 at *
                      have hm5b : m5 ≤ 40000 := by omega
                      replace hm5 := hid hm5
                      replace hAjl := hid hAjl
                      have hshI : (t5 : Int) < (m5 : Int) := by omega
                      replace hF2 := hid hF2
                      clear hN e14 hsh
                      have hcon : ∀ w3, St w3 p s room T3 A' 14 c3 (.slice x' A'.length d') (fun k => X' k ∨ wr.heap.size ≤ k) → Nr X' wr w3 →
                          wr.heap.size ≤ w3.heap.size ∧ w3.cell? ⟨gm, om, none⟩ = some (.slice u Lj.length uc) ∧ Rng w3 (.slice u Lj.length uc) (u8s Lj) (fun k => ¬ X k) ∧
                          ∃ v5 w5, (Builtin.append_ #[27, 27] 27 #[.slice x' A'.length d', .slice u Lj.length uc]).run Try.prog w3 = .ok v5 w5 ∧ St w5 p s room T3 (A' ++ Lj) 14 c3 v5 (fun k => (X' k ∨ wr.heap.size ≤ k) ∨ w3.heap.size ≤ k) ∧ Nr (fun k => X' k ∨ wr.heap.size ≤ k) w3 w5 ∧
                          ∃ x5 d5, v5 = .slice x5 m5 d5 ∧ Calls Try.prog 9 #[.slice x5 m5 d5, .int .i64 room] w5 fun e w' => w' = w5 ∧ ∃ y5 y6, e = .returned (.slice y5 t5 y6) ∧ Rng w5 (.slice y5 t5 y6) (u8s (tkN room (A' ++ Lj))) (fun k => (X' k ∨ wr.heap.size ≤ k) ∨ w3.heap.size ≤ k) := by
                        intro w3 hSt3 hn3
                        have hnX : Nr X wc w3 := hn2.trans' hn3 (fun k hk => (hX' k hk).1)
                        have k5 := hnX.cell hgX j1
                        have k6 := j2.nr hnX (fun k hk h => hk h)
                        obtain ⟨v5, w5, hrun, hSt5, hn5⟩ := st_app (ty := 27) hSt3 k6 (by omega) (by omega)
                        obtain ⟨x5, d5, hv5⟩ := hSt5.shape
                        subst hv5
                        rw [hm5.out] at hrun hSt5
                        have htk := htk0 w5 x5 d5 _ hSt5.rng
                        exact ⟨hn3.size, k5, k6, _, w5, hrun, hSt5, hn5, x5, d5, rfl, htk⟩
                      clear htk0
                      go_wp2_with (first
                        | (go_at_call 15; refine hput.mono ?_; clear hput; rintro e w3 ⟨rfl, hSt3, hn3⟩; obtain ⟨hs3, k5, k6, v5, w5, hrun, hSt5, hn5, x5, d5, e5, htk⟩ := hcon _ hSt3 hn3; subst e5)
                        | (at_builtin; go_loud (refine Lib.wpList_append_run _ rfl (.tmp 84) (.tmp 88) 27 27 rfl _ _ rfl rfl _ _ hrun ?_))
                        | (go_at_call 9; refine htk.mono ?_; clear htk; rintro e w' ⟨hw, y5, y6, rfl, hy⟩; obtain rfl := hw.symm))
                      go_roundg (M.length - (0 + 1))
                      case measure => have := hk2.out; have := hMj.out; omega
                      case rel =>
                        have z3 := hn3.size
                        have z5 := hn5.size
                        have hgrow : ∀ k, (X' k ∨ wr.heap.size ≤ k) → X k ∨ wc.heap.size ≤ k := fun k hk => by
                          rcases hk with hk | hk
                          · exact (hX' k hk).1
                          · exact .inr (by have := hn2.size; omega)
                        refine ⟨0 + 1, A' ++ Lj, T3, 14, c3, true, fun k => ((X' k ∨ wr.heap.size ≤ k) ∨ w3.heap.size ≤ k) ∧ k < w5.heap.size, rfl, by go_num, rfl, by have := hMj.out; omega, hSt5.mono (fun k hk h => ⟨h, hk⟩), hF2, ?_, ?_, ?_, ?_, ?_⟩
                        · intro _; rw [hcm.out, hAA.out, List.append_assoc]
                        · rw [hcm.out, List.length_append, List.length_append]; omega
                        · intro x hx
                          rcases List.mem_append.mp hx with hx | hx
                          · exact hB' x hx
                          · exact hLjB x hx
                        · rintro k ⟨hk | hk, hl⟩
                          · exact ⟨hgrow k hk, hl⟩
                          · exact ⟨hgrow k (.inr (by omega)), hl⟩
                        · exact (hn2.trans' hn3 (fun k hk => (hX' k hk).1)).trans' hn5 hgrow
                    · obtain ⟨hNl, hF2, e0, ecnt, etk⟩ := Fl.fits hF.out hN
                      rw [e0] at hF2
                      rw [e0] at hput
                      rw [ecnt] at hF2
                      rw [ecnt] at hput
                      rw [etk] at htk0
                      generalize T' ++ Lj.take (fitN room T'.length Lj.length) = T3 at *
                      generalize hm5 : (A' ++ Lj).length = m5 at *
                      have hm5b : m5 ≤ 40000 := by omega
                      replace hm5 := hid hm5
                      replace hAjl := hid hAjl
                      replace hF2 := hid hF2
                      clear hN hNl e0 ecnt etk
                      have hcon : ∀ w3, St w3 p s room T3 A' 0 m5 (.slice x' A'.length d') (fun k => X' k ∨ wr.heap.size ≤ k) → Nr X' wr w3 →
                          wr.heap.size ≤ w3.heap.size ∧ w3.cell? ⟨gm, om, none⟩ = some (.slice u Lj.length uc) ∧ Rng w3 (.slice u Lj.length uc) (u8s Lj) (fun k => ¬ X k) ∧
                          ∃ v5 w5, (Builtin.append_ #[27, 27] 27 #[.slice x' A'.length d', .slice u Lj.length uc]).run Try.prog w3 = .ok v5 w5 ∧ St w5 p s room T3 (A' ++ Lj) 0 m5 v5 (fun k => (X' k ∨ wr.heap.size ≤ k) ∨ w3.heap.size ≤ k) ∧ Nr (fun k => X' k ∨ wr.heap.size ≤ k) w3 w5 ∧
                          ∃ x5 d5, v5 = .slice x5 m5 d5 ∧ Calls Try.prog 9 #[.slice x5 m5 d5, .int .i64 room] w5 fun e w' => w' = w5 ∧ ∃ y5 y6, e = .returned (.slice y5 m5 y6) ∧ Rng w5 (.slice y5 m5 y6) (u8s (tkN room (A' ++ Lj))) (fun k => (X' k ∨ wr.heap.size ≤ k) ∨ w3.heap.size ≤ k) := by
                        intro w3 hSt3 hn3
                        have hnX : Nr X wc w3 := hn2.trans' hn3 (fun k hk => (hX' k hk).1)
                        have k5 := hnX.cell hgX j1
                        have k6 := j2.nr hnX (fun k hk h => hk h)
                        obtain ⟨v5, w5, hrun, hSt5, hn5⟩ := st_app (ty := 27) hSt3 k6 (by omega) (by omega)
                        obtain ⟨x5, d5, hv5⟩ := hSt5.shape
                        subst hv5
                        rw [hm5.out] at hrun hSt5
                        have htk := htk0 w5 x5 d5 _ hSt5.rng
                        exact ⟨hn3.size, k5, k6, _, w5, hrun, hSt5, hn5, x5, d5, rfl, htk⟩
                      clear htk0
                      go_wp2_with (first
                        | (go_at_call 15; refine hput.mono ?_; clear hput; rintro e w3 ⟨rfl, hSt3, hn3⟩; obtain ⟨hs3, k5, k6, v5, w5, hrun, hSt5, hn5, x5, d5, e5, htk⟩ := hcon _ hSt3 hn3; subst e5)
                        | (at_builtin; go_loud (refine Lib.wpList_append_run _ rfl (.tmp 84) (.tmp 88) 27 27 rfl _ _ rfl rfl _ _ hrun ?_))
                        | (go_at_call 9; refine htk.mono ?_; clear htk; rintro e w' ⟨hw, y5, y6, rfl, hy⟩; obtain rfl := hw.symm)
                        | (go_at_call 17; refine (st_count hSt5).mono ?_; rintro e w' ⟨hw, rfl⟩; obtain rfl := hw.symm))
                      go_roundg (M.length - (0 + 1))
                      case measure => have := hk2.out; have := hMj.out; omega
                      case rel =>
                        have z3 := hn3.size
                        have z5 := hn5.size
                        have hgrow : ∀ k, (X' k ∨ wr.heap.size ≤ k) → X k ∨ wc.heap.size ≤ k := fun k hk => by
                          rcases hk with hk | hk
                          · exact (hX' k hk).1
                          · exact .inr (by have := hn2.size; omega)
                        refine ⟨0 + 1, A' ++ Lj, T3, 0, m5, false, fun k => ((X' k ∨ wr.heap.size ≤ k) ∨ w3.heap.size ≤ k) ∧ k < w5.heap.size, rfl, by go_num, rfl, by have := hMj.out; omega, hSt5.mono (fun k hk h => ⟨h, hk⟩), hF2, ?_, ?_, ?_, ?_, ?_⟩
                        · intro _; rw [hcm.out, hAA.out, List.append_assoc]
                        · rw [hcm.out, List.length_append, List.length_append]; omega
                        · intro x hx
                          rcases List.mem_append.mp hx with hx | hx
                          · exact hB' x hx
                          · exact hLjB x hx
                        · rintro k ⟨hk | hk, hl⟩
                          · exact ⟨hgrow k hk, hl⟩
                          · exact ⟨hgrow k (.inr (by omega)), hl⟩
                        · exact (hn2.trans' hn3 (fun k hk => (hX' k hk).1)).trans' hn5 hgrow
                · obtain ⟨u, uc, j1, j2⟩ := hrows 1 hjM
                  have j3 := hn2.cell hgX j1
                  have hcm := hid (cat_next (P := M) (i := 1) hjM)
                  have hLjl : (M.getD 1 []).length ≤ 5000 := hML 1 hjM
                  have hLjB : IsB (M.getD 1 []) := hMB 1 hjM
                  have hMj := hid hjM
                  generalize hLj : M.getD 1 [] = Lj at *
                  replace hLj := hid hLj.symm
                  have hLjI : (Lj.length : Int) ≤ 5000 := by omega
                  cases fl' with
                  | true =>
                    obtain ⟨rfl, hc14⟩ := hF.out.2.2 rfl
                    have hltj : (1 : Int) < (M.length : Int) := by omega
                    replace hk2 := hid hk2
                    go_wp2_with (first
                      | (go_at_call 16; refine (st_padtold hSt (by omega) (by omega)).mono ?_; rintro e w3 ⟨rfl, hb3⟩))
                    go_roundg (M.length - (1 + 1))
                    case measure => have := hk2.out; have := hMj.out; omega
                    case rel =>
                      have s3 := hb3.size
                      exact ⟨1 + 1, A', T', 14, c', true, X', rfl, by go_num, rfl, by have := hMj.out; omega, hSt.below hb3, hF, (fun h => by cases h), by rw [hcm.out, List.length_append]; omega, hB', fun k hk => ⟨(hX' k hk).1, by have := (hX' k hk).2; omega⟩, hn2.trans (Nr.of_below hb3)⟩
                  | false =>
                    replace hAA := hid (hAA.out rfl)
                    have hF0 := hF.out.2.1 rfl
                    obtain ⟨rfl, -, -⟩ := hF.out.2.1 rfl
                    have j2' := j2.nr hn2 (fun k hk h => hk h)
                    have hput := st_pad hSt (by omega) (by omega) hFle hr
                    have ez : zer (restN c') = Lj := by
                      have e1 := hF0.2.1
                      have e2 := hAA.out
                      rcases hM.out with e | e
                      · rw [e] at hjM; simp at hjM
                      · rw [hLj.out, e, e1, e2, e]
                        simp [cat]
                    have ezl : restN c' = Lj.length := by rw [← ez, zer_len]
                    rw [ez, ezl] at hput
                    replace ez := hid ez
                    replace ezl := hid ezl
                    have htk0 := fun w5 x5 d5 (Y : Nat → Prop) (hy : Rng w5 (.slice x5 (A' ++ Lj).length d5) (u8s (A' ++ Lj)) Y) => taken_ok hy room (by rw [List.length_append]; omega) hr
                    have hAjl : (A' ++ Lj).length = A'.length + Lj.length := List.length_append
                    have hltj : (1 : Int) < (M.length : Int) := by omega
                    replace hk2 := hid hk2
                    clear hF0
                    by_cases hN : fitN room T'.length Lj.length < Lj.length
                    · obtain ⟨hF2, e14, hsh⟩ := Fl.fails hF.out hN
                      rw [e14] at hF2
                      rw [e14] at hput
                      generalize T' ++ Lj.take (fitN room T'.length Lj.length) = T3 at *
                      generalize cntN c' (fitN room T'.length Lj.length) Lj.length = c3 at *
                      generalize hm5 : (A' ++ Lj).length = m5 at *
                      generalize (tkN room (A' ++ Lj)).length = t5 at *
                      have hm5b : m5 ≤ 40000 := by omega
                      replace hm5 := hid hm5
                      replace hAjl := hid hAjl
                      have hshI : (t5 : Int) < (m5 : Int) := by omega
                      replace hF2 := hid hF2
                      clear hN e14 hsh
                      have hcon : ∀ w3, St w3 p s room T3 A' 14 c3 (.slice x' A'.length d') (fun k => X' k ∨ wr.heap.size ≤ k) → Nr X' wr w3 →
                          wr.heap.size ≤ w3.heap.size ∧ w3.cell? ⟨gm, om + 1, none⟩ = some (.slice u Lj.length uc) ∧ Rng w3 (.slice u Lj.length uc) (u8s Lj) (fun k => ¬ X k) ∧
                          ∃ v5 w5, (Builtin.append_ #[27, 27] 27 #[.slice x' A'.length d', .slice u Lj.length uc]).run Try.prog w3 = .ok v5 w5 ∧ St w5 p s room T3 (A' ++ Lj) 14 c3 v5 (fun k => (X' k ∨ wr.heap.size ≤ k) ∨ w3.heap.size ≤ k) ∧ Nr (fun k => X' k ∨ wr.heap.size ≤ k) w3 w5 ∧
                          ∃ x5 d5, v5 = .slice x5 m5 d5 ∧ Calls Try.prog 9 #[.slice x5 m5 d5, .int .i64 room] w5 fun e w' => w' = w5 ∧ ∃ y5 y6, e = .returned (.slice y5 t5 y6) ∧ Rng w5 (.slice y5 t5 y6) (u8s (tkN room (A' ++ Lj))) (fun k => (X' k ∨ wr.heap.size ≤ k) ∨ w3.heap.size ≤ k) := by
                        intro w3 hSt3 hn3
                        have hnX : Nr X wc w3 := hn2.trans' hn3 (fun k hk => (hX' k hk).1)
                        have k5 := hnX.cell hgX j1
                        have k6 := j2.nr hnX (fun k hk h => hk h)
                        obtain ⟨v5, w5, hrun, hSt5, hn5⟩ := st_app (ty := 27) hSt3 k6 (by omega) (by omega)
                        obtain ⟨x5, d5, hv5⟩ := hSt5.shape
                        subst hv5
                        rw [hm5.out] at hrun hSt5
                        have htk := htk0 w5 x5 d5 _ hSt5.rng
                        exact ⟨hn3.size, k5, k6, _, w5, hrun, hSt5, hn5, x5, d5, rfl, htk⟩
                      clear htk0
                      go_wp2_with (first
                        | (go_at_call 16; refine hput.mono ?_; clear hput; rintro e w3 ⟨rfl, hSt3, hn3⟩; obtain ⟨hs3, k5, k6, v5, w5, hrun, hSt5, hn5, x5, d5, e5, htk⟩ := hcon _ hSt3 hn3; subst e5)
                        | (at_builtin; go_loud (refine Lib.wpList_append_run _ rfl (.tmp 84) (.tmp 88) 27 27 rfl _ _ rfl rfl _ _ hrun ?_))
                        | (go_at_call 9; refine htk.mono ?_; clear htk; rintro e w' ⟨hw, y5, y6, rfl, hy⟩; obtain rfl := hw.symm))
                      go_roundg (M.length - (1 + 1))
                      case measure => have := hk2.out; have := hMj.out; omega
                      case rel =>
                        have z3 := hn3.size
                        have z5 := hn5.size
                        have hgrow : ∀ k, (X' k ∨ wr.heap.size ≤ k) → X k ∨ wc.heap.size ≤ k := fun k hk => by
                          rcases hk with hk | hk
                          · exact (hX' k hk).1
                          · exact .inr (by have := hn2.size; omega)
                        refine ⟨1 + 1, A' ++ Lj, T3, 14, c3, true, fun k => ((X' k ∨ wr.heap.size ≤ k) ∨ w3.heap.size ≤ k) ∧ k < w5.heap.size, rfl, by go_num, rfl, by have := hMj.out; omega, hSt5.mono (fun k hk h => ⟨h, hk⟩), hF2, ?_, ?_, ?_, ?_, ?_⟩
                        · intro _; rw [hcm.out, hAA.out, List.append_assoc]
                        · rw [hcm.out, List.length_append, List.length_append]; omega
                        · intro x hx
                          rcases List.mem_append.mp hx with hx | hx
                          · exact hB' x hx
                          · exact hLjB x hx
                        · rintro k ⟨hk | hk, hl⟩
                          · exact ⟨hgrow k hk, hl⟩
                          · exact ⟨hgrow k (.inr (by omega)), hl⟩
                        · exact (hn2.trans' hn3 (fun k hk => (hX' k hk).1)).trans' hn5 hgrow
                    · obtain ⟨hNl, hF2, e0, ecnt, etk⟩ := Fl.fits hF.out hN
                      rw [e0] at hF2
                      rw [e0] at hput
                      rw [ecnt] at hF2
                      rw [ecnt] at hput
                      rw [etk] at htk0
                      generalize T' ++ Lj.take (fitN room T'.length Lj.length) = T3 at *
                      generalize hm5 : (A' ++ Lj).length = m5 at *
                      have hm5b : m5 ≤ 40000 := by omega
                      replace hm5 := hid hm5
                      replace hAjl := hid hAjl
                      replace hF2 := hid hF2
                      clear hN hNl e0 ecnt etk
                      have hcon : ∀ w3, St w3 p s room T3 A' 0 m5 (.slice x' A'.length d') (fun k => X' k ∨ wr.heap.size ≤ k) → Nr X' wr w3 →
                          wr.heap.size ≤ w3.heap.size ∧ w3.cell? ⟨gm, om + 1, none⟩ = some (.slice u Lj.length uc) ∧ Rng w3 (.slice u Lj.length uc) (u8s Lj) (fun k => ¬ X k) ∧
                          ∃ v5 w5, (Builtin.append_ #[27, 27] 27 #[.slice x' A'.length d', .slice u Lj.length uc]).run Try.prog w3 = .ok v5 w5 ∧ St w5 p s room T3 (A' ++ Lj) 0 m5 v5 (fun k => (X' k ∨ wr.heap.size ≤ k) ∨ w3.heap.size ≤ k) ∧ Nr (fun k => X' k ∨ wr.heap.size ≤ k) w3 w5 ∧
                          ∃ x5 d5, v5 = .slice x5 m5 d5 ∧ Calls Try.prog 9 #[.slice x5 m5 d5, .int .i64 room] w5 fun e w' => w' = w5 ∧ ∃ y5 y6, e = .returned (.slice y5 m5 y6) ∧ Rng w5 (.slice y5 m5 y6) (u8s (tkN room (A' ++ Lj))) (fun k => (X' k ∨ wr.heap.size ≤ k) ∨ w3.heap.size ≤ k) := by
                        intro w3 hSt3 hn3
                        have hnX : Nr X wc w3 := hn2.trans' hn3 (fun k hk => (hX' k hk).1)
                        have k5 := hnX.cell hgX j1
                        have k6 := j2.nr hnX (fun k hk h => hk h)
                        obtain ⟨v5, w5, hrun, hSt5, hn5⟩ := st_app (ty := 27) hSt3 k6 (by omega) (by omega)
                        obtain ⟨x5, d5, hv5⟩ := hSt5.shape
                        subst hv5
                        rw [hm5.out] at hrun hSt5
                        have htk := htk0 w5 x5 d5 _ hSt5.rng
                        exact ⟨hn3.size, k5, k6, _, w5, hrun, hSt5, hn5, x5, d5, rfl, htk⟩
                      clear htk0
                      go_wp2_with (first
                        | (go_at_call 16; refine hput.mono ?_; clear hput; rintro e w3 ⟨rfl, hSt3, hn3⟩; obtain ⟨hs3, k5, k6, v5, w5, hrun, hSt5, hn5, x5, d5, e5, htk⟩ := hcon _ hSt3 hn3; subst e5)
                        | (at_builtin; go_loud (refine Lib.wpList_append_run _ rfl (.tmp 84) (.tmp 88) 27 27 rfl _ _ rfl rfl _ _ hrun ?_))
                        | (go_at_call 9; refine htk.mono ?_; clear htk; rintro e w' ⟨hw, y5, y6, rfl, hy⟩; obtain rfl := hw.symm)
                        | (go_at_call 17; refine (st_count hSt5).mono ?_; rintro e w' ⟨hw, rfl⟩; obtain rfl := hw.symm))
                      go_roundg (M.length - (1 + 1))
                      case measure => have := hk2.out; have := hMj.out; omega
                      case rel =>
                        have z3 := hn3.size
                        have z5 := hn5.size
                        have hgrow : ∀ k, (X' k ∨ wr.heap.size ≤ k) → X k ∨ wc.heap.size ≤ k := fun k hk => by
                          rcases hk with hk | hk
                          · exact (hX' k hk).1
                          · exact .inr (by have := hn2.size; omega)
                        refine ⟨1 + 1, A' ++ Lj, T3, 0, m5, false, fun k => ((X' k ∨ wr.heap.size ≤ k) ∨ w3.heap.size ≤ k) ∧ k < w5.heap.size, rfl, by go_num, rfl, by have := hMj.out; omega, hSt5.mono (fun k hk h => ⟨h, hk⟩), hF2, ?_, ?_, ?_, ?_, ?_⟩
                        · intro _; rw [hcm.out, hAA.out, List.append_assoc]
                        · rw [hcm.out, List.length_append, List.length_append]; omega
                        · intro x hx
                          rcases List.mem_append.mp hx with hx | hx
                          · exact hB' x hx
                          · exact hLjB x hx
                        · rintro k ⟨hk | hk, hl⟩
                          · exact ⟨hgrow k hk, hl⟩
                          · exact ⟨hgrow k (.inr (by omega)), hl⟩
                        · exact (hn2.trans' hn3 (fun k hk => (hX' k hk).1)).trans' hn5 hgrow
              · replace hk2 := hid hk2
                obtain rfl : j = M.length := by omega
                have hng : ¬ (M.length : Int) < (M.length : Int) := by omega
                have hby := sbytes_ok hSt.sk (by omega)
                have htk := fun w3 (hb : Below wr.heap.size wr w3) => taken_ok (hSt.rng.below hb) room (by omega) hr
                have eT := hF.out.1
                rw [← eT] at htk
                have hTB : IsB T' := by rw [eT]; exact tkN_isB hB' room
                have hsm := fun w v u R R' (h1 : Rng w v (u8s T') R) (h2 : Rng w u (u8s T') R') => same_ok h1 h2 hTB hTB
                simp only [decide_true] at hsm
                replace eT := hid eT
                go_wp2_with (first
                  | (go_at_call 12; refine hby.mono ?_; clear hby; rintro e w3 ⟨⟨v3, rfl, hv3⟩, hb3⟩)
                  | (go_at_call 9; refine (htk _ hb3).mono ?_; clear htk; rintro e w' ⟨hw, y5, y6, rfl, hy⟩; obtain rfl := hw.symm)
                  | (go_at_call 11; refine (hsm _ _ _ _ _ hv3 hy).mono ?_; clear hsm; rintro e w' ⟨hw, rfl⟩; obtain rfl := hw.symm))
                go_roundg (n1 - (q + 1))
                case measure => have := hk.out; omega
                case rel =>
                  have z3 := hb3.size
                  have zn := hn2.size
                  have hcM := hMc M.length
                  have hne := hnext.out
                  refine ⟨q + 1, A', T', f', c', fl', X', rfl, by go_num, rfl, by omega, hSt.below hb3, hF, ?_, hB', ?_, ?_⟩
                  · rw [hne, List.length_append]; omega
                  · intro k hk
                    obtain ⟨h1, h2⟩ := hX' k hk
                    refine ⟨?_, by omega⟩
                    rcases h1 with h1 | h1
                    · exact (hX k h1).1
                    · have := hbWc.size; omega
                  · refine hbWc.trans (Below.trans ?_ (hb3.mono (by omega)))
                    exact hn2.below hbWc.size (fun k hk => (hX k hk).1)
        · obtain rfl : q = n1 := by omega
          have hng : ¬ (q : Int) < (q : Int) := by omega
          replace hk := hid hk
          go_wp2
          go_ret
          exact ⟨rfl, hbr⟩
  · rw [decide_eq_false hf] at hfew
    replace hf := hid hf
    go_enter Try.func4, Try.ntmps4
    go_wp2_with (first
      | (go_at_call 6; refine halive.mono ?_; clear halive; rintro e w0 ⟨rfl, hb0⟩)
      | (go_at_call 7; refine (hfew _ hb0).mono ?_; clear hfew; rintro e w' ⟨hw, rfl⟩; obtain rfl := hw.symm))
    go_ret
    exact ⟨rfl, hb0⟩

end Go.Proofs.Ytlpkhaegfghdkaa
