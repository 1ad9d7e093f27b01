/-
  THE PIECES IN WHICH BYTES COME: SourcePieces's walk. Conditions: none.
-/
import Derived.Test.YtfcbiiakhgeogaaSh
namespace Go.Proofs.Ytfcbiiakhgeogaa
open Go.ChangeShapes Go.WideShapes Go.ChangeAt Go.RowKit Go.Lib
set_option linter.unusedVariables false
set_option linter.unusedSimpArgs false
set_option maxRecDepth 20000

theorem row_ints {w : World} {a : Option Addr} {len cap : Nat} {zs : List Int} (h : IsRow .i64 w a len cap zs) : Rng w (.slice a len cap) (i64s (zs.take len)) (fun _ => True) ∧ (zs.take len).length = len ∧ len ≤ 9223372036854775807 := by
  rcases h with ⟨rfl, rfl, rfl, rfl⟩ | ⟨x, rfl, hl, hm, hz, hcell, hwz⟩
  · exact ⟨⟨none, 0, rfl, Nat.le_refl _, by unfold maxLen; omega, by simp [i64s], .inl rfl⟩, rfl, by omega⟩
  · have e : (zs.take len).length = len := by simp; omega
    refine ⟨⟨some x, cap, by rw [i64s_len, e], by rw [i64s_len, e]; exact hl, hm, i64s_one _, ?_⟩, e, by unfold maxLen at hm; omega⟩
    by_cases h0 : len = 0
    · subst h0; exact .inl rfl
    · obtain ⟨b, off, spot⟩ := x
      have hc := hcell 0 (by omega)
      have hspot : spot = none := by simpa [Addr.add] using World.cell?_spot hc
      subst hspot
      refine .inr ⟨b, off, rfl, trivial, fun j v hv => ?_⟩
      have hj : j < len := by have := (List.getElem?_eq_some_iff.1 hv).1; rw [i64s_len, e] at this; exact this
      have h2 := hcell j (by omega)
      rw [add_mid] at h2
      rw [h2, ← hv, i64s_get _ _ (by omega)]
      simp [hj]

theorem row_b {w : World} {a : Option Addr} {len cap : Nat} {zs : List Int} (h : IsRow .u8 w a len cap zs) : Rng w (.slice a len cap) (u8s (zs.take len)) (fun _ => True) ∧ (zs.take len).length = len ∧ len ≤ cap ∧ cap ≤ 9223372036854775807 ∧ IsB (zs.take len) := by
  have h' := row_bys h
  exact ⟨bys_rng h', h'.1, h'.2.1, h'.2.2.1, h'.2.2.2.1⟩

set_option maxHeartbeats 4000000 in
theorem pieces_walk (W : World) {a0 a1 : Option Addr} {n0 c0 n1 c1 : Nat} {z0 z1 : List Int} (h0 : IsRow .u8 W a0 n0 c0 z0) (h1 : IsRow .i64 W a1 n1 c1 z1) :
    Calls Try.prog 3 #[.slice a0 n0 c0, .slice a1 n1 c1] W fun e w' => e = .returned (.bool true) ∧ Below W.heap.size W w' := by
  obtain ⟨hb, hL, hnc, hcm, hB⟩ := row_b h0
  obtain ⟨hz, hZ, hzm⟩ := row_ints h1
  generalize z0.take n0 = L at *
  generalize z1.take n1 = Z at *
  clear h0 h1
  have halive := alive_ok W
  have hmany := fun w => many_ok (w := w) (a := a0) (a' := a1) (n := n0) (c := c0) (m := n1) (c' := c1) (by omega) (by omega)
  by_cases hmy : 4000 < n0 ∨ 200 < n1
  · rw [decide_eq_true hmy] at hmany
    replace hmy := hid hmy
    replace hL := hid hL
    replace hZ := hid hZ
    go_enter Try.func3, Try.ntmps3
    go_wp2_with (first | (go_at_call 7; refine halive.mono ?_; clear halive; rintro e w0 ⟨rfl, hb0⟩) | (go_at_call 8; refine (hmany _).mono ?_; clear hmany; rintro e w' ⟨hw, rfl⟩; obtain rfl := hw.symm))
    go_ret
    exact ⟨rfl, hb0⟩
  · rw [decide_eq_false hmy] at hmany
    have hn0 : n0 ≤ 4000 := by omega
    have hnew := fun w (hb' : Below W.heap.size W w) => new_ok (hb.below hb') (hz.below hb') (by omega) (by omega)
    have hends := fun w (hb' : Below W.heap.size W w) => rends_ok (hz.below hb') n0 (by omega)
    replace hmy := hid hmy
    replace hL := hid hL
    replace hZ := hid hZ
    go_enter Try.func3, Try.ntmps3
    go_upto_region 7 with (first | (go_at_call 7; refine halive.mono ?_; clear halive; rintro e w0 ⟨rfl, hb0⟩) | (go_at_call 8; refine (hmany _).mono ?_; clear hmany; rintro e w' ⟨hw, rfl⟩; obtain rfl := hw.symm) | (go_at_call 9; refine (hnew _ hb0).mono ?_; clear hnew; rintro e w1 ⟨⟨s, rfl, hs, hn⟩, hb1⟩; have hb01 := hb0.trans (hb1.mono hb0.size)) | (go_at_call 10; refine (hends _ hb01).mono ?_; clear hends; rintro e w2 ⟨⟨u, rfl, m, hM, hu⟩, hb2⟩; obtain ⟨ua, uc, e1, hu1, hu2⟩ := hu.shape; subst e1))
    have g0 := hb0.size
    have g1 := hb1.size
    have g2 := hb2.size
    have hs1 : s < w1.heap.size := by obtain ⟨_, _, _, h, _⟩ := hn; exact h.lt
    have hml : (i64s (endsL n0 Z m)).length = m := by rw [i64s_len, endsL_len]
    rw [hml] at hu hu1 ⊢
    have hbw : Below W.heap.size W w2 := hb01.trans (hb2.mono (by omega))
    have hn2 : Sn w2 s (L.drop (eN n0 Z 0)) (zAt Z 0) (fun k => w0.heap.size ≤ k ∧ k < w1.heap.size) := by
      rw [zAt_zero]
      show Sn w2 s (L.drop 0) Z _
      rw [List.drop_zero]
      exact (hn.mono (R' := fun k => w0.heap.size ≤ k ∧ k < w1.heap.size) (fun k h1 h2 => ⟨h2, h1⟩)).nr (S := No) (Nr.of_below hb2) (fun _ _ h => h)
    have hmn := hM.le
    go_wp2
    go_loopg [7, 8] (m - 0) (fun k f i wr => ∃ j : Nat, k = m - j ∧ f = .int .i64 (eN n0 Z j) ∧ i = .int .i64 j ∧ j ≤ m ∧ Sn wr s (L.drop (eN n0 Z j)) (zAt Z j) (fun k => w0.heap.size ≤ k ∧ k < w1.heap.size) ∧ Rng wr (.slice ua m uc) (i64s (endsL n0 Z m)) (fun k => w1.heap.size ≤ k) ∧ Below W.heap.size W wr)
    case atStart => exact ⟨0, rfl, rfl, rfl, Nat.zero_le _, hn2, hu, hbw⟩
    case round =>
      obtain ⟨j, hk, rfl, rfl, hjm, hsn, hur, hbr⟩ := hrel
      have hjn := eN_le n0 Z j
      have hleft := left_ok (.inr ⟨s, rfl, hsn⟩)
      have hld : (L.drop (eN n0 Z j)).length = n0 - eN n0 Z j := by rw [List.length_drop, hL.out]
      rw [hld] at hleft
      by_cases hlt : j < m
      · have hE := hM.lt j hlt
        have hpc := piece_some hsn (by omega) (by omega)
        rw [zAt_next] at hpc
        have hlt' := eN_lt hE
        have hjn' := eN_le n0 Z (j + 1)
        have hne := eN_next n0 Z L hL.out j
        have hdd : (L.drop (eN n0 Z j)).drop (pieceN (L.drop (eN n0 Z j)) (zAt Z j)) = L.drop (eN n0 Z (j + 1)) := by rw [List.drop_drop, ← hne]
        rw [hdd] at hpc
        obtain ⟨bg, bo, bc, hba, -, -, -, -⟩ := hb.some (by rw [u8s_len', hL.out]; omega)
        rw [u8s_len', hL.out] at hba
        simp only [Value.slice.injEq] at hba
        obtain ⟨rfl, -, rfl⟩ := hba
        have hbs := (hb.drop (k := eN n0 Z j) (by rw [u8s_len', hL.out]; omega)).mono (R' := fun _ => True) (fun _ _ _ => trivial)
        rw [if_neg (by omega), ← u8s_drop] at hbs
        have hbt := hbs.take (k := pieceN (L.drop (eN n0 Z j)) (zAt Z j)) (by rw [u8s_len', hld]; omega)
        rw [← u8s_take] at hbt
        have hpB : IsB ((L.drop (eN n0 Z j)).take (pieceN (L.drop (eN n0 Z j)) (zAt Z j))) := fun x hx => hB x (List.mem_of_mem_drop (List.mem_of_mem_take hx))
        have hsame := fun w' v R (h : Rng w' v (u8s ((L.drop (eN n0 Z j)).take (pieceN (L.drop (eN n0 Z j)) (zAt Z j)))) R) (hb' : Below W.heap.size W w') => same_ok h (hbt.below hb') hpB hpB
        simp only [decide_true] at hsame
        obtain ⟨eg, eo, ec, hea, -, -, heR, hrow⟩ := hur.some (by rw [hml]; omega)
        rw [hml] at hea
        simp only [Value.slice.injEq] at hea
        obtain ⟨rfl, -, rfl⟩ := hea
        have hcell := hrow j _ (endsL_get n0 Z m j hlt)
        have hNe : pieceN (L.drop (eN n0 Z j)) (zAt Z j) = eN n0 Z (j + 1) - eN n0 Z j := by omega
        rw [hNe] at hsame hpc hbt
        have hcell' : ∀ w3, Nr (fun k => k = s) wr w3 → w3.cell? ⟨eg, eo + j, none⟩ = some (.int .i64 (eN n0 Z (j + 1))) := fun w3 hn3 => hn3.cell (fun e => by change eg = s at e; omega) hcell
        have hsr : W.heap.size ≤ wr.heap.size := hbr.size
        have hfin : ∀ w3, Sn w3 s (L.drop (eN n0 Z (j + 1))) (zAt Z (j + 1)) (fun k => w0.heap.size ≤ k ∧ k < w1.heap.size) → Nr (fun k => k = s) wr w3 → Rng w3 (.slice (some ⟨eg, eo, none⟩) m uc) (i64s (endsL n0 Z m)) (fun k => w1.heap.size ≤ k) ∧ Below W.heap.size W w3 := fun w3 _ hn3 => ⟨hur.nr hn3 (fun k hk e => by omega), hbr.trans (hn3.below hsr (fun k e => by omega))⟩
        have hl2 : ((n0 - eN n0 Z j : Nat) : Int) = (n0 : Int) - (eN n0 Z j : Int) := by omega
        rw [hl2] at hleft
        clear hl2
        have e1 : ¬ c0 = eN n0 Z j := by omega
        have e2 : ¬ (c0 : Int) = (eN n0 Z j : Int) := by omega
        have e3 : (eN n0 Z j : Int) ≤ (eN n0 Z (j + 1) : Int) := by omega
        have e4 : (eN n0 Z (j + 1) : Int) ≤ (c0 : Int) := by omega
        have e5 : ¬ (c0 : Int) < (eN n0 Z (j + 1) : Int) := by omega
        have e6 : (j : Int) < (m : Int) := by omega
        have hk' := hk
        replace hk := hid hk
        clear hk' hdd hne hNe hbs hpB hrow hcell hld hbt
        generalize (L.drop (eN n0 Z j)).take (eN n0 Z (j + 1) - eN n0 Z j) = piece at *
        generalize hEE : eN n0 Z j = E at *
        generalize hEE' : eN n0 Z (j + 1) = E' at *
        replace hEE := hid hEE
        replace hEE' := hid hEE'
        go_wp2_with (first | (go_at_call 11; refine hleft.mono ?_; clear hleft; rintro e w' ⟨hw, rfl⟩; obtain rfl := hw.symm) | (go_at_call 12; refine hpc.mono ?_; clear hpc; rintro e w3 ⟨⟨v, rfl, hv⟩, hs3, hn3⟩; obtain ⟨va, vc, e7, -⟩ := hv.shape; subst e7; have hc3 := hcell' _ hn3; obtain ⟨hu3, hb3⟩ := hfin _ hs3 hn3) | (go_at_call 13; refine (hsame _ _ _ hv hb3).mono ?_; clear hsame; rintro e w' ⟨hw, rfl⟩; obtain rfl := hw.symm))
        go_roundg (m - (j + 1))
        case measure => have := hk.out; omega
        case rel => exact ⟨j + 1, rfl, by rw [hEE'.out], by go_num, by omega, by rw [hEE'.out]; exact hs3, hu3, hb3⟩
      · have hj : j = m := by omega
        subst hj
        have hE := hM.en
        have hnil : L.drop (eN n0 Z j) = [] := List.drop_eq_nil_of_le (by have := hL.out; omega)
        rw [hnil] at hsn
        have hpn := piece_none (.inr ⟨s, rfl, hsn⟩)
        have e6 : ¬ (j : Int) < (j : Int) := by omega
        have hleft2 := left_ok (.inr ⟨s, rfl, hsn⟩)
        simp only [List.length_nil, Int.natCast_zero] at hleft2
        clear hleft hnil hld
        replace hE := hid hE
        replace hk := hid hk
        go_wp2_with (first | (go_at_call 12; refine hpn.mono ?_; clear hpn; rintro e w' ⟨hw, rfl⟩; obtain rfl := hw.symm) | (go_at_call 11; refine hleft2.mono ?_; clear hleft2; rintro e w' ⟨hw, rfl⟩; obtain rfl := hw.symm))
        go_ret
        exact ⟨rfl, hbr⟩

end Go.Proofs.Ytfcbiiakhgeogaa
