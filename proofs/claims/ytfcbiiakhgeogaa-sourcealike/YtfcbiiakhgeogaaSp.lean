/-
  SOURCES: the next piece. Conditions: how many bytes there are.
-/
import Derived.Test.YtfcbiiakhgeogaaSt
import Derived.Deep.CutRange
namespace Go.Proofs.Ytfcbiiakhgeogaa
open Go.ChangeShapes Go.WideShapes Go.ChangeAt Go.RowKit Go.Lib
set_option linter.unusedVariables false
set_option linter.unusedSimpArgs false
set_option maxRecDepth 20000

theorem piece_none {w : World} {sv : Value} {Z : List Int} {R : Nat → Prop} (h : Sc w sv [] Z R) : Calls Try.prog 12 #[sv] w fun e w' => w' = w ∧ e = .returned (.tuple #[.slice none 0 0, .bool false]) := by
  have hl := left_ok h
  simp only [List.length_nil, Int.natCast_zero] at hl
  go_enter Try.func12, Try.ntmps12
  go_wp2_with (first | (go_at_call 11; refine hl.mono ?_; clear hl; rintro e w1 ⟨hw, rfl⟩; obtain rfl := hw.symm))
  go_ret2
  exact ⟨rfl, rfl⟩

/-- how many bytes the next piece has -/
def pieceN (L Z : List Int) : Nat := min (szN Z) L.length

set_option maxHeartbeats 1000000 in
theorem piece_some {w : World} {s : Nat} {L Z : List Int} {R : Nat → Prop} (h : Sn w s L Z R) (h0 : 0 < L.length) (hl : L.length ≤ 1000000000) :
    Calls Try.prog 12 #[.pointer (some ⟨s, 0, none⟩)] w fun e w' =>
      (∃ v, e = .returned (.tuple #[v, .bool true]) ∧ Rng w' v (u8s (L.take (pieceN L Z))) (fun k => w.heap.size ≤ k)) ∧ Sn w' s (L.drop (pieceN L Z)) (nxZ Z) R ∧ Nr (fun k => k = s) w w' := by
  have hleft := left_ok (.inr ⟨s, rfl, h⟩)
  obtain ⟨rv, zv, hs, hb, hr, hz⟩ := h
  have hsz := size_ok (w := w.drew) (hb.nr (S := No) ((Nr.refl _ _).drew) id) (hz.nr (S := No) ((Nr.refl _ _).drew) (fun _ _ h => h)) (fun hk => hk.2 rfl)
  obtain ⟨g, off, c, rfl, hc1, hc2, hg, -⟩ := hr.some (by rw [u8s_len']; exact h0)
  obtain ⟨n, hn⟩ : ∃ n, n = (u8s L).length := ⟨_, rfl⟩
  rw [← hn] at hc1 hr hb hsz
  have hnL : n = L.length := by rw [hn, u8s_len']
  rw [← hnL] at hleft h0 hl
  obtain ⟨K, hK⟩ : ∃ K, K = pieceN L Z := ⟨_, rfl⟩
  rw [← hK]
  have hKS : K = min (szN Z) n := by rw [hK, hnL]; rfl
  have hp := szN_pos Z
  have hKn : K ≤ n := by omega
  have hmin : ∀ ts ty w, (Builtin.min_ ts ty #[.int .i64 (szN Z : Int), .int .i64 (n : Int)]).run Try.prog w = .ok (.int .i64 (K : Int)) w := fun ts ty w => by
    have h1 : (Builtin.min_ ts ty #[.int .i64 (szN Z : Int), .int .i64 (n : Int)]).run Try.prog w = .ok (.int .i64 (if (n : Int) < (szN Z : Int) then (n : Int) else (szN Z : Int))) w := by simp [Builtin.min_, Builtin.min2]
    rw [h1]
    have : (if (n : Int) < (szN Z : Int) then (n : Int) else (szN Z : Int)) = K := by split <;> omega
    rw [this]
  have hdr := hr.drop (k := K) (by rw [← hn]; exact hKn)
  have htk := hr.take (k := K) (by rw [← hn]; exact hKn)
  rw [← u8s_take] at htk
  rw [← u8s_drop] at hdr
  have htl : (u8s (L.take K)).length ≤ 1000000000 := by rw [u8s_len', List.length_take]; omega
  have hclone := fun w1 (hq : Nr (fun k => k = s) w w1) => clone_b (htk.nr hq (fun k hk e => hk.2 e)) htl
  generalize szN Z = S at *
  have n1 : ¬ (n : Int) = 0 := by omega
  have n1b : ((n : Int) == 0) = false := by simp; omega
  have n2 : (K : Int) ≤ (c : Int) := by omega
  have n3 : (K : Int) ≤ (n : Int) := by omega
  have n4 : (n : Int) ≤ (c : Int) := by omega
  have hc00 : w.cell? ⟨s, 0, none⟩ = some (.slice (some ⟨g, off, none⟩) n c) := by have := hb.cell 0; simpa using this
  replace hn := hid hn
  replace hnL := hid hnL
  replace hK := hid hK
  replace hKS := hid hKS
  replace hdr := hid hdr
  clear htk hr hz hb
  go_enter Try.func12, Try.ntmps12
  go_upto_region 3 with (first | (go_at_call 11; refine hleft.mono ?_; clear hleft; rintro e w1 ⟨hw, rfl⟩; obtain rfl := hw.symm))
  go_cut [4] from 9 to 16 (fun k wc => k = .int .i64 (K : Int) ∧ (∃ zv', Blk wc s #[.slice (some ⟨g, off, none⟩) n c, zv'] 46 ∧ Rng wc zv' (i64s (nxZ Z)) (fun k => R k ∧ k ≠ s)) ∧ Nr (fun k => k = s) w wc)
  case first =>
    go_region_held3 (fun w' => w'.cell? ⟨s, 0, none⟩ = some (.slice (some ⟨g, off, none⟩) n c)) (go_keep) (first | (go_at_call 23; refine hsz.mono ?_; clear hsz; rintro e w1 ⟨rfl, ⟨zv', hb1, hz1⟩, hn1⟩; have hc1' : w1.cell? ⟨s, 0, none⟩ = some (.slice (some ⟨g, off, none⟩) n c) := by (have := hb1.cell 0; simpa using this)))
    all_goals (go_wp2_with fail; go_meet; exact ⟨rfl, ⟨zv', hb1, hz1⟩, ((Nr.refl _ _).drew).trans hn1⟩)
  case rest =>
    obtain ⟨rfl, ⟨zv', hb1, hz1⟩, hn1⟩ := hcut
    have hcl := hclone _ hn1
    have hq0 : wc.cell? ⟨s, 0, none⟩ = some (.slice (some ⟨g, off, none⟩) n c) := by have := hb1.cell 0; simpa using this
    have hq1 : ∀ w2, Below wc.heap.size wc w2 → Blk w2 s #[.slice (some ⟨g, off, none⟩) n c, zv'] 46 := fun w2 h => hb1.below h
    have hsl : s < wc.heap.size := hb1.lt
    clear hclone
    go_wp2_with (first | (go_at_call 20; refine hcl.mono ?_; clear hcl; rintro e w2 ⟨⟨v2, rfl, hr2⟩, hb2⟩; have hq2 : w2.cell? ⟨s, 0, none⟩ = some (.slice (some ⟨g, off, none⟩) n c) := (by (have := (hq1 _ hb2).cell 0; simpa using this)); have hf2 : w2.frozen? ⟨s, 0, none⟩ = false := (hq1 _ hb2).free 0))
    all_goals
      go_ret2
      have hd := hdr.out
      first | rw [if_neg (by assumption)] at hd | rw [if_pos (by assumption)] at hd
      have m1 := hn1.size
      have m2 := hb2.size
      have hset : ∀ u, Nr (fun k => k = s) w2 (w2.setCell ⟨s, 0, none⟩ u) := fun u => Nr.setCell (S := fun k => k = s) (p := ⟨s, 0, none⟩) (Nr.refl _ _) rfl u
      refine ⟨⟨_, rfl, ?_⟩, ⟨_, zv', hs, (hq1 _ hb2).set (i := 0) _, ?_, ?_⟩, (hn1.trans (Nr.of_below hb2)).trans (hset _)⟩
      · exact (hr2.nr (hset _) (fun k hk e => by omega)).mono (fun k _ hk => by omega)
      · first | exact ((hd.nr hn1 (fun k hk e => hk.2 e)).below hb2).nr (hset _) (fun k hk e => hk.2 e) | (rw [show c - K = 0 by omega] at hd; exact ((hd.nr hn1 (fun k hk e => hk.2 e)).below hb2).nr (hset _) (fun k hk e => hk.2 e))
      · exact (hz1.below hb2).nr (hset _) (fun k hk e => hk.2 e)

end Go.Proofs.Ytfcbiiakhgeogaa
