/-
  THE BLOCKS THAT BYTES ARE TOLD AS: SourceBlocks's walk. Conditions: none.
-/
import Derived.Test.YtfcbiiakhgeogaaSw
namespace Go.Proofs.Ytfcbiiakhgeogaa
open Go.ChangeShapes Go.WideShapes Go.ChangeAt Go.RowKit Go.Lib
set_option linter.unusedVariables false
set_option linter.unusedSimpArgs false
set_option maxRecDepth 20000

theorem codeN_range (n t : Nat) : 0 ≤ codeN n t ∧ codeN n t ≤ 16 := by
  unfold codeN; split
  · omega
  · split <;> omega
theorem blN_isB {L : List Int} (h : IsB L) (t : Nat) : IsB (blN L t) := by
  unfold blN; split
  · exact fun x hx => h x (List.mem_of_mem_drop (List.mem_of_mem_take hx))
  · intro x hx; simp at hx

set_option maxHeartbeats 4000000 in
theorem blocks_walk (W : World) {a0 a1 : Option Addr} {n0 c0 n1 c1 : Nat} {z0 z1 : List Int} (h0 : IsRow .u8 W a0 n0 c0 z0) (h1 : IsRow .i64 W a1 n1 c1 z1) :
    Calls Try.prog 4 #[.slice a0 n0 c0, .slice a1 n1 c1] W fun e w' => e = .returned (.bool true) ∧ Below W.heap.size W w' := by
  obtain ⟨hb, hL, hnc, hcm, hB⟩ := row_b h0
  obtain ⟨hz, hZ, hzm⟩ := row_ints h1
  generalize z0.take n0 = L at *
  generalize z1.take n1 = Z at *
  clear h0 h1
  have halive := alive_ok W
  have hmany := fun w => many_ok (w := w) (a := a0) (a' := a1) (n := n0) (c := c0) (m := n1) (c' := c1) (by omega) (by omega)
  by_cases hmy : 4000 < n0 ∨ 200 < n1
  · rw [decide_eq_true hmy] at hmany
    replace hmy := hid hmy
    replace hL := hid hL
    replace hZ := hid hZ
    go_enter Try.func4, Try.ntmps4
    go_wp2_with (first | (go_at_call 7; refine halive.mono ?_; clear halive; rintro e w0 ⟨rfl, hb0⟩) | (go_at_call 8; refine (hmany _).mono ?_; clear hmany; rintro e w' ⟨hw, rfl⟩; obtain rfl := hw.symm))
    go_ret
    exact ⟨rfl, hb0⟩
  · rw [decide_eq_false hmy] at hmany
    have hn0 : n0 ≤ 4000 := by omega
    have hnew := fun w (hb' : Below W.heap.size W w) => new_ok (hb.below hb') (hz.below hb') (by omega) (by omega)
    replace hmy := hid hmy
    replace hL := hid hL
    replace hZ := hid hZ
    go_enter Try.func4, Try.ntmps4
    go_upto_region 6 with (first | (go_at_call 7; refine halive.mono ?_; clear halive; rintro e w0 ⟨rfl, hb0⟩) | (go_at_call 8; refine (hmany _).mono ?_; clear hmany; rintro e w' ⟨hw, rfl⟩; obtain rfl := hw.symm) | (go_at_call 9; refine (hnew _ hb0).mono ?_; clear hnew; rintro e w1 ⟨⟨s, rfl, hs, hn⟩, hb1⟩) | (go_at_call 14; refine (blocks_ok (.inr ⟨s, rfl, hn⟩) hb1.size (fun k h => h)).mono ?_; rintro e w2 ⟨⟨p, rfl, hp, hr⟩, hb2⟩))
    have g0 := hb0.size
    have g1 := hb1.size
    have g2 := hb2.size
    have hbw : Below W.heap.size W w2 := (hb0.trans (hb1.mono g0)).trans (hb2.mono (by omega))
    go_wp2
    go_loopg [6] (12 - 0) (fun k i wr => ∃ q j t R, k = 12 - q ∧ i = .int .i64 (q : Nat) ∧ q ≤ 12 ∧ Asks n0 Z q j t ∧ Rd wr p L Z j t R ∧ (∀ k, R k → W.heap.size ≤ k) ∧ Below W.heap.size W wr)
    case atStart => exact ⟨0, 0, 0, _, rfl, rfl, Nat.zero_le _, ⟨rfl, rfl⟩, hr, fun k hk => by rcases hk with h | h <;> omega, hbw⟩
    case round =>
      obtain ⟨q, j, t, R, hk, rfl, hq, hA, hrd, hR, hbr⟩ := hrel
      by_cases hlt : q < 12
      · obtain ⟨j', hst, hA'⟩ := asks_next hA
        have hinv := hA.inv
        have hix := index_ok hrd
        have hh := held_ok hrd
        have hrh := fun w (hb' : Below W.heap.size W w) => rheld_ok (hz.below hb') n0 (by omega) q (by omega) hA
        have hl := hL.out
        have hnx := fun w (h : Rd w p L Z j t R) => next_ok h (by omega) (by rw [hl]; exact hst)
        have hrb := fun w (hb' : Below W.heap.size W w) => rblock_ok (hb.below hb') (by omega) t (by have := eN_le n0 Z j; omega)
        have hsr : W.heap.size ≤ wr.heap.size := hbr.size
        have hbnx : ∀ w3 w4, Below wr.heap.size wr w3 → Nr R w3 w4 → Below W.heap.size W w4 := fun w3 w4 h3 h4 => (hbr.trans (h3.mono hsr)).trans (h4.below (by have := h3.size; omega) hR)
        have hrdn : ∀ w, Below wr.heap.size wr w → Rd w p L Z j t R := fun w hb' => hrd.below hb'
        rw [hl] at hh hnx hrb
        have hcr := codeN_range n0 t
        have hblB := blN_isB hB t
        have hsame := fun w v u R R' (h : Rng w v (u8s (blN L t)) R) (h' : Rng w u (u8s (blN L t)) R') => same_ok h h' hblB hblB
        simp only [decide_true] at hsame
        unfold NextPost at hnx
        rw [hl] at hnx
        have htm : (t : Int) = min (q : Int) ((n0 : Int) / 512) := by omega
        have hqq : (q : Int) < 12 := by omega
        have hmin : ∀ ts ty w, (Builtin.min_ ts ty #[.int .i64 (q : Int), .int .i64 ((n0 : Int) / 512)]).run Try.prog w = .ok (.int .i64 (t : Int)) w := fun ts ty w => by
          have h1 : (Builtin.min_ ts ty #[.int .i64 (q : Int), .int .i64 ((n0 : Int) / 512)]).run Try.prog w = .ok (.int .i64 (if (n0 : Int) / 512 < (q : Int) then (n0 : Int) / 512 else (q : Int))) w := by simp [Builtin.min_, Builtin.min2]
          rw [h1]
          have : (if (n0 : Int) / 512 < (q : Int) then (n0 : Int) / 512 else (q : Int)) = (t : Int) := by split <;> omega
          rw [this]
        generalize codeN n0 t = C at *
        generalize blN L t = bl at *
        generalize eN n0 Z j - 512 * t = H at *
        replace hk := hid hk
        replace hinv := hid hinv
        replace htm := hid htm
        go_wp2_with (first | (go_at_call 15; refine hix.mono ?_; clear hix; rintro e w' ⟨hw, rfl⟩; obtain rfl := hw.symm) | (go_at_call 16; refine hh.mono ?_; clear hh; rintro e w' ⟨hw, rfl⟩; obtain rfl := hw.symm) | (go_at_call 17; refine (hrh _ hbr).mono ?_; clear hrh; rintro e w3 ⟨rfl, hb3⟩) | (go_at_call 18; refine (hnx _ (hrdn _ hb3)).mono ?_; clear hnx; rintro e w4 ⟨⟨v, rfl, hv⟩, R4, hr4, hR4, hn4⟩; have hb4 := hbnx _ _ hb3 hn4) | (go_at_call 19; refine (hrb _ hb4).mono ?_; clear hrb; rintro e w' ⟨hw, u, rfl, hu⟩; obtain rfl := hw.symm) | (go_at_call 13; refine (hsame _ _ _ _ _ hv hu).mono ?_; clear hsame; rintro e w' ⟨hw, rfl⟩; obtain rfl := hw.symm))
        go_roundg (12 - (q + 1))
        case measure => have := hk.out; omega
        case rel =>
          have s3 := hb3.size
          exact ⟨q + 1, j', _, R4, rfl, by go_num, by omega, hA', hr4, fun k hk => by rcases hR4 k hk with h | h; exact hR k h; omega, hb4⟩
      · have e : q = 12 := by omega
        have e6 : ¬ (q : Int) < 12 := by omega
        replace e := hid e
        replace hk := hid hk
        clear hlt hq
        go_wp2
        go_ret
        exact ⟨rfl, hbr⟩

end Go.Proofs.Ytfcbiiakhgeogaa
