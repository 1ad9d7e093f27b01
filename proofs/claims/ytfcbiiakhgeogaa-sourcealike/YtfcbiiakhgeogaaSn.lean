/-
  READERS OF BLOCKS: Next, Index, Held, NewBlocks. Conditions: how many bytes there are.
-/
import Derived.Test.YtfcbiiakhgeogaaSf
namespace Go.Proofs.Ytfcbiiakhgeogaa
open Go.ChangeShapes Go.WideShapes Go.ChangeAt Go.RowKit Go.Lib
set_option linter.unusedVariables false
set_option linter.unusedSimpArgs false
set_option maxRecDepth 20000

theorem stop_exists (n : Nat) (Z : List Int) (t : Nat) : ∀ (d i : Nat), n - eN n Z i ≤ d → ∃ j, Stop n Z t i j
  | d, i, hd => by
    by_cases h : eN n Z i - 512 * t < 512 ∧ eN n Z i < n
    · have h1 := eN_lt h.2
      have h2 := eN_le n Z (i + 1)
      match d with
      | 0 => omega
      | d + 1 =>
        obtain ⟨j, hj⟩ := stop_exists n Z t d (i + 1) (by omega)
        refine ⟨j, by have := hj.le; omega, fun k h1 h2 => ?_, hj.st⟩
        by_cases e : k = i
        · subst e; exact h
        · exact hj.go k (by omega) h2
    · exact ⟨i, Nat.le_refl _, fun k h1 h2 => by omega, h⟩

/-- the t-th block of so many bytes: its code, its bytes, how many are told then -/
def codeN (n t : Nat) : Int := if 512 * t + 512 ≤ n then 0 else if n = 512 * t then 16 else 3
def blN (L : List Int) (t : Nat) : List Int := if 512 * t + 512 ≤ L.length then (L.drop (512 * t)).take 512 else []
def tN (n t : Nat) : Nat := if 512 * t + 512 ≤ n then t + 1 else t

def NextPost (w w' : World) (p : Nat) (L Z : List Int) (j t : Nat) (R : Nat → Prop) : Prop := ∃ R', Rd w' p L Z j (tN L.length t) R' ∧ (∀ k, R' k → R k ∨ w.heap.size ≤ k) ∧ Nr R w w'

theorem kept_block (L Z : List Int) (j t : Nat) (h : 512 * t + 512 ≤ eN L.length Z j) : (kept L Z j t).take 512 = blN L t := by
  have := eN_le L.length Z j
  unfold kept blN
  rw [if_pos (by omega), List.drop_take, List.take_take, Nat.min_eq_left (by omega)]
theorem kept_rest (L Z : List Int) (j t : Nat) : (kept L Z j t).drop 512 = kept L Z j (t + 1) := by
  unfold kept; rw [List.drop_drop]; congr 1

theorem Kp.drop {w : World} {a : Option Addr} {n c k : Nat} {xs : List Value} {R : Nat → Prop} (h : Kp w (.slice a n c) xs R) (hk : k ≤ xs.length) (h0 : 0 < k) :
    ∃ g off, a = some ⟨g, off, none⟩ ∧ Kp w (.slice (if c = k then some ⟨g, off, none⟩ else some ⟨g, off + k, none⟩) (n - k) (c - k)) (xs.drop k) R := by
  rcases h with ⟨h, rfl⟩ | ⟨g, off, cap, e, h1, h2, h4, hR, h5, h6, h7⟩
  · simp at hk; omega
  · simp only [Value.slice.injEq] at e
    obtain ⟨rfl, rfl, rfl⟩ := e
    refine ⟨g, off, rfl, ?_⟩
    by_cases hck : c = k
    · have hx : xs.drop k = [] := List.drop_eq_nil_of_le (by omega)
      rw [if_pos hck, hx]
      refine .inr ⟨g, off, c - k, by simp; omega, by simp, by unfold maxLen at *; omega, by simp, hR, fun j v hv => by simp at hv, fun j hj => by omega, h7⟩
    · rw [if_neg hck]
      exact .inr ⟨g, off + k, c - k, by rw [List.length_drop], by rw [List.length_drop]; omega, by unfold maxLen at *; omega, fun u hu => h4 u (List.mem_of_mem_drop hu), hR, range_drop h5 k, there_drop h6 k, h7⟩

set_option maxHeartbeats 2000000 in
theorem next_ok {w : World} {p : Nat} {L Z : List Int} {i j t : Nat} {R : Nat → Prop} (h : Rd w p L Z i t R) (hl : L.length ≤ 1000000) (hst : Stop L.length Z t i j) :
    Calls Try.prog 18 #[.pointer (some ⟨p, 0, none⟩)] w fun e w' => (∃ v, e = .returned (.tuple #[v, .int .u8 (codeN L.length t)]) ∧ Rng w' v (u8s (blN L t)) (fun k => w.heap.size ≤ k)) ∧ NextPost w w' p L Z j t R := by
  have hfill := fill_ok h hl
  have hpw : p < w.heap.size := by obtain ⟨_, _, _, _, _, h, _⟩ := h; exact h.lt
  clear h
  go_enter Try.func18, Try.ntmps18
  go_upto_region 4 with (first | (go_at_call 24; refine hfill.mono ?_; clear hfill; rintro e w1 ⟨rfl, hf⟩))
  obtain ⟨j', R', hrd, hst', hRR, hnr⟩ := hf
  obtain rfl := hst.uniq hst'
  obtain ⟨sv, kv, Rs, Rk, h1, h2, h3, h4, h5, h6, h7⟩ := id hrd
  have hjn := eN_le L.length Z j
  have hwsz := hnr.size
  obtain ⟨ka, kc, rfl, hkc1, hkc2⟩ := h4.rng.shape
  have hkl : (u8s (kept L Z j t)).length = eN L.length Z j - 512 * t := by rw [u8s_len', kept_len]
  have hc1 : w1.cell? ⟨p, 1, none⟩ = some (.slice ka (u8s (kept L Z j t)).length kc) := by have := h2.cell 1; simpa using this
  have hst0 := hst.st
  by_cases hfull : 512 * t + 512 ≤ eN L.length Z j
  · have hcode : codeN L.length t = 0 := by unfold codeN; rw [if_pos (by omega)]
    have htn : tN L.length t = t + 1 := by unfold tN; rw [if_pos (by omega)]
    obtain ⟨g, off, rfl, hkd⟩ := h4.drop (k := 512) (by omega) (by omega)
    have hrt := h4.rng.take (k := 512) (by omega)
    rw [← u8s_take, kept_block L Z j t hfull] at hrt
    rw [← u8s_drop, kept_rest] at hkd
    have hbl : (u8s (blN L t)).length ≤ 1000000000 := by rw [u8s_len']; unfold blN; split <;> simp; omega
    have hcl := clone_b hrt hbl
    have hcell : ∀ w2, Below w1.heap.size w1 w2 → Blk w2 p _ _ := fun w2 hb => h2.below hb
    generalize hm : (u8s (kept L Z j t)).length = m at *
    have m1 : ¬ (m : Int) = 0 := by omega
    have m1b : ((m : Int) == 0) = false := by simp; omega
    have m2 : ¬ (m : Int) < 512 := by omega
    have m3 : (m : Int) ≤ (kc : Int) := by omega
    have m4 : (512 : Int) ≤ (kc : Int) := by omega
    have m5 : (512 : Int) ≤ (m : Int) := by omega
    have t1 : (t : Int) < 1000000 := by omega
    have hp1 : p < w1.heap.size := h2.lt
    replace hm := hid hm
    replace hkl := hid hkl
    replace hcode := hid hcode
    replace htn := hid htn
    replace hkd := hid hkd
    clear hst hst' hst0
    replace hfull := hid hfull
    replace h7 := hid h7
    replace hjn := hid hjn
    go_upto_region 10 with (first | (go_at_call 20; refine hcl.mono ?_; clear hcl; rintro e w2 ⟨⟨v2, rfl, hv2⟩, hb2⟩))
    obtain ⟨va, vc, rfl, -⟩ := hv2.shape
    have q2 := hcell _ hb2
    have c1 : w2.cell? ⟨p, 1, none⟩ = some (.slice (some ⟨g, off, none⟩) m kc) := by have := q2.cell 1; simpa using this
    have c2 : w2.cell? ⟨p, 2, none⟩ = some (.int .i64 (t : Int)) := by have := q2.cell 2; simpa using this
    have f1 : w2.frozen? ⟨p, 1, none⟩ = false := q2.free 1
    have f2 : w2.frozen? ⟨p, 2, none⟩ = false := q2.free 2
    generalize hbn : (u8s (blN L t)).length = bn at *
    replace hbn := hid hbn
    by_cases hkc : kc = 512
    · have hkcI : (kc : Int) = 512 := by omega
      replace hkc := hid hkc
      clear m3 m4
      have m3 : (m : Int) ≤ 512 := by have := hkc.out; omega
      go_wp2
      all_goals
        first | exact absurd hkc.out (by assumption) | skip
        have hkc' := hkc.out
        go_ret2
        have hk' := hkd.out
        have hk'' := hkl.out
        have hf' := hfull.out
        have h7' := h7.out
        rw [if_pos hkc'] at hk'
        have n1 : ∀ u, Nr (fun k => k = p) w2 (w2.setCell ⟨p, 1, none⟩ u) := fun u => Nr.setCell (S := fun k => k = p) (p := ⟨p, 1, none⟩) (Nr.refl _ _) rfl u
        have n2 : ∀ u u', Nr (fun k => k = p) w2 ((w2.setCell ⟨p, 1, none⟩ u).setCell ⟨p, 2, none⟩ u') := fun u u' => Nr.setCell (S := fun k => k = p) (p := ⟨p, 2, none⟩) (n1 u) rfl u'
        have z1 := hb2.size
        have hq := fun u => (q2.set (i := 1) u).set (i := 2) (.int .i64 ((t : Int) + 1))
        simp only [List.setIfInBounds_toArray, List.set_cons_succ, List.set_cons_zero] at hq
        rw [hcode.out]
        refine ⟨⟨_, rfl, ?_⟩, R', ?_, hRR, ?_⟩
        · exact (hv2.nr (n2 _ _) (fun k hk e => by omega)).mono (fun k _ hk => by omega)
        · rw [htn.out]
          refine ⟨sv, _, Rs, Rk, h1, by exact_mod_cast hq _, ?_, ?_, h5, h6, by omega⟩
          · exact (h3.nr (Nr.of_below (S := No) hb2) (fun _ _ h => h)).nr (n2 _ _) (fun k hk e => (h5 k hk).2.1 e)
          · first | exact (hk'.nr (Nr.of_below (S := No) hb2) (fun _ _ h => h)).nr (n2 _ _) (fun k hk e => (h6 k hk).2 e) | (rw [show kc - 512 = 0 by omega] at hk'; exact (hk'.nr (Nr.of_below (S := No) hb2) (fun _ _ h => h)).nr (n2 _ _) (fun k hk e => (h6 k hk).2 e))
        · exact (hnr.trans' (T := No) (Nr.of_below hb2) (fun _ h => h.elim)).trans' (T := fun k => k = p) (n2 _ _) (fun k e => by subst e; exact hRR _ h1)
    · have hkcI : ¬ (kc : Int) = 512 := by omega
      go_wp2
      go_ret2
      have hk' := hkd.out
      have hk'' := hkl.out
      have hf' := hfull.out
      have h7' := h7.out
      rw [if_neg hkc] at hk'
      have n1 : ∀ u, Nr (fun k => k = p) w2 (w2.setCell ⟨p, 1, none⟩ u) := fun u => Nr.setCell (S := fun k => k = p) (p := ⟨p, 1, none⟩) (Nr.refl _ _) rfl u
      have n2 : ∀ u u', Nr (fun k => k = p) w2 ((w2.setCell ⟨p, 1, none⟩ u).setCell ⟨p, 2, none⟩ u') := fun u u' => Nr.setCell (S := fun k => k = p) (p := ⟨p, 2, none⟩) (n1 u) rfl u'
      have z1 := hb2.size
      have hq := fun u => (q2.set (i := 1) u).set (i := 2) (.int .i64 ((t : Int) + 1))
      simp only [List.setIfInBounds_toArray, List.set_cons_succ, List.set_cons_zero] at hq
      rw [hcode.out]
      refine ⟨⟨_, rfl, ?_⟩, R', ?_, hRR, ?_⟩
      · exact (hv2.nr (n2 _ _) (fun k hk e => by omega)).mono (fun k _ hk => by omega)
      · rw [htn.out]
        refine ⟨sv, _, Rs, Rk, h1, by exact_mod_cast hq _, ?_, ?_, h5, h6, by omega⟩
        · exact (h3.nr (Nr.of_below (S := No) hb2) (fun _ _ h => h)).nr (n2 _ _) (fun k hk e => (h5 k hk).2.1 e)
        · first | exact (hk'.nr (Nr.of_below (S := No) hb2) (fun _ _ h => h)).nr (n2 _ _) (fun k hk e => (h6 k hk).2 e) | (rw [show kc - 512 = 0 by omega] at hk'; exact (hk'.nr (Nr.of_below (S := No) hb2) (fun _ _ h => h)).nr (n2 _ _) (fun k hk e => (h6 k hk).2 e))
      · exact (hnr.trans' (T := No) (Nr.of_below hb2) (fun _ h => h.elim)).trans' (T := fun k => k = p) (n2 _ _) (fun k e => by subst e; exact hRR _ h1)
  · have hend : eN L.length Z j = L.length := by omega
    have htn : tN L.length t = t := by unfold tN; rw [if_neg (by omega)]
    have hbl : blN L t = [] := by unfold blN; rw [if_neg (by omega)]
    generalize hm : (u8s (kept L Z j t)).length = m at *
    by_cases h0 : L.length = 512 * t
    · have hcode : codeN L.length t = 16 := by unfold codeN; rw [if_neg (by omega), if_pos h0]
      have m1b : ((m : Int) == 0) = true := by simp; omega
      replace hm := hid hm
      replace hkl := hid hkl
      replace hcode := hid hcode
      replace htn := hid htn
      replace hbl := hid hbl
      replace h0 := hid h0
      replace hend := hid hend
      go_wp2
      go_ret2
      rw [hcode.out, hbl.out]
      exact ⟨⟨_, rfl, (Kp.nil _ _).rng⟩, R', by rw [htn.out]; exact hrd, hRR, hnr⟩
    · have hcode : codeN L.length t = 3 := by unfold codeN; rw [if_neg (by omega), if_neg h0]
      have m1b : ((m : Int) == 0) = false := by simp; omega
      have m1 : ¬ (m : Int) = 0 := by omega
      have m2 : (m : Int) < 512 := by omega
      replace hm := hid hm
      replace hkl := hid hkl
      replace hcode := hid hcode
      replace htn := hid htn
      replace hbl := hid hbl
      replace h0 := hid h0
      replace hend := hid hend
      go_wp2
      go_ret2
      rw [hcode.out, hbl.out]
      exact ⟨⟨_, rfl, (Kp.nil _ _).rng⟩, R', by rw [htn.out]; exact hrd, hRR, hnr⟩

end Go.Proofs.Ytfcbiiakhgeogaa
