/-
  WHAT NO SOURCE AND NO READER TELL; SAME BYTES; HOW MUCH IS GONE THROUGH. Conditions: none.
-/
import Derived.Test.YtfcbiiakhgeogaaSa
import Derived.Lib.Strings
namespace Go.Proofs.Ytfcbiiakhgeogaa
open Go.ChangeShapes Go.WideShapes Go.ChangeAt Go.RowKit Go.Lib
set_option linter.unusedVariables false
set_option linter.unusedSimpArgs false
set_option maxRecDepth 20000

theorem nil_walk (w : World) : Calls Try.prog 6 #[] w fun e w' => e = .returned (.bool true) ∧ Below w.heap.size w w' := by
  have halive := alive_ok w
  have hpiece := fun w => piece_none (w := w) (sv := .pointer none) (Z := []) (R := No) (.inl ⟨rfl, rfl⟩)
  have hn0 := fun w => next_nil w
  have hblk : ∀ w1 : World, _ := fun w1 => blocks_ok (w := w1) (sv := .pointer none) (L := []) (Z := []) (R := No) (B := w1.heap.size) (.inl ⟨rfl, rfl⟩) (Nat.le_refl _) (fun k h => h.elim)
  have hst : Stop 0 [] 0 0 0 := ⟨Nat.le_refl _, fun k h1 h2 => by omega, by simp⟩
  have hnext := fun w1 p R (h : Rd w1 p [] [] 0 0 R) => next_ok h (by simp) hst
  unfold NextPost at hnext
  rw [show codeN ([] : List Int).length 0 = 16 by decide, show tN ([] : List Int).length 0 = 0 by decide, show blN [] 0 = [] by decide] at hnext
  have hleft := fun w => left_ok (w := w) (sv := .pointer none) (L := []) (Z := []) (R := No) (.inl ⟨rfl, rfl⟩)
  simp only [List.length_nil, Int.natCast_zero] at hleft
  have hi0 := fun w => index_nil w
  have hh0 := fun w => held_nil w
  have hz : (u8s []).length = 0 := rfl
  go_enter Try.func6, Try.ntmps6
  go_wp2_with (first | (go_at_call 7; refine halive.mono ?_; clear halive; rintro e w0 ⟨rfl, hb0⟩) | (go_at_call 12; refine (hpiece _).mono ?_; clear hpiece; rintro e w' ⟨hw, rfl⟩; obtain rfl := hw.symm) | (go_at_call 18; refine (hn0 _).mono ?_; clear hn0; rintro e w' ⟨hw, rfl⟩; obtain rfl := hw.symm) | (go_at_call 14; refine (hblk _).mono ?_; clear hblk; rintro e w2 ⟨⟨p, rfl, hp, hr⟩, hbl2⟩) | (go_at_call 18; refine (hnext _ _ _ hr).mono ?_; clear hnext; rintro e w3 ⟨⟨v, rfl, hv⟩, R1, hr1, hR1, hn1⟩; obtain ⟨va, vc, e1, -⟩ := hv.shape; subst e1; rw [hz]) | (go_at_call 11; refine (hleft _).mono ?_; clear hleft; rintro e w' ⟨hw, rfl⟩; obtain rfl := hw.symm) | (go_at_call 15; refine (hi0 _).mono ?_; clear hi0; rintro e w' ⟨hw, rfl⟩; obtain rfl := hw.symm) | (go_at_call 16; refine (hh0 _).mono ?_; clear hh0; rintro e w' ⟨hw, rfl⟩; obtain rfl := hw.symm))
  go_ret
  have g0 := hb0.size
  have g2 := hbl2.size
  exact ⟨rfl, (hb0.trans (hbl2.mono g0)).trans (hn1.below (by omega) (fun k hk => by rcases hk with h | h; exact h.elim; omega))⟩

/-- bytes -/
def IsB (l : List Int) : Prop := ∀ n ∈ l, 0 ≤ n ∧ n ≤ 255

theorem rng_bys {w : World} {v : Value} {l : List Int} {R : Nat → Prop} (h : Rng w v (u8s l) R) (hl : IsB l) : ∃ a c, v = .slice a l.length c ∧ Bys w a l.length c l := by
  obtain ⟨a, c, rfl, h1, h2, h4, h3⟩ := h
  rw [u8s_len'] at *
  refine ⟨a, c, rfl, ?_⟩
  rcases h3 with h3 | ⟨g, off, rfl, hR, hc⟩
  · have : l = [] := by cases l with
      | nil => rfl
      | cons x r => simp [u8s] at h3
    subst this
    exact Bys.mk0 (by unfold maxLen at h2; omega)
  · exact Bys.mk' rfl h1 (by unfold maxLen at h2; omega) ⟨hl, fun i hi => hc i _ (u8s_get l i hi)⟩
theorem bys_rng {w : World} {a : Option Addr} {n c : Nat} {l : List Int} (h : Bys w a n c l) : Rng w (.slice a n c) (u8s l) (fun _ => True) := by
  obtain ⟨hl, hlc, hm, hr, h⟩ := h
  refine ⟨a, c, by rw [u8s_len', hl], by rw [u8s_len', hl]; exact hlc, by unfold maxLen; omega, u8s_one l, ?_⟩
  rcases h with ⟨rfl, -⟩ | ⟨-, b, off, rfl, hc⟩
  · exact .inl rfl
  · exact .inr ⟨b, off, rfl, trivial, fun j v hv => by
      have hj : j < l.length := by have := (List.getElem?_eq_some_iff.1 hv).1; rwa [u8s_len'] at this
      rw [hc.2 j hj, ← u8s_get l j hj]; exact hv⟩

theorem str_beq {a b : ByteArray} : (a.toList == b.toList) = true ↔ a = b := by
  rw [Lib.toList_data, Lib.toList_data]
  constructor
  · intro h
    have := eq_of_beq h
    apply ByteArray.ext
    exact Array.toList_inj.1 this
  · rintro rfl
    simp
theorem str_inj {l m : List Int} (hl : IsB l) (hm : IsB m) : ((strOfNums l).toList == (strOfNums m).toList) = decide (l = m) := by
  by_cases h : l = m
  · rw [h, str_beq.mpr rfl]; simp
  · have h2 : strOfNums l ≠ strOfNums m := fun e => h (by rw [← nums_str l hl, ← nums_str m hm, e])
    rw [decide_eq_false h]
    cases hb : (strOfNums l).toList == (strOfNums m).toList
    · rfl
    · exact absurd (str_beq.mp hb) h2

/-- Same -/
theorem same_ok {w : World} {v u : Value} {l m : List Int} {R R' : Nat → Prop} (h : Rng w v (u8s l) R) (h' : Rng w u (u8s m) R') (hl : IsB l) (hm : IsB m) :
    Calls Try.prog 13 #[v, u] w fun e w' => w' = w ∧ e = .returned (.bool (decide (l = m))) := by
  obtain ⟨a, c, rfl, hb⟩ := rng_bys h hl
  obtain ⟨a', c', rfl, hb'⟩ := rng_bys h' hm
  have k1 := bys_string (P := Try.prog) (s := 9) Try.underlying22 Try.underlying5 Try.underlying9 hb
  have k2 := bys_string (P := Try.prog) (s := 9) Try.underlying22 Try.underlying5 Try.underlying9 hb'
  have e := str_inj hl hm
  generalize strOfNums l = s at *
  generalize strOfNums m = s' at *
  generalize decide (l = m) = d at *
  go_enter Try.func13, Try.ntmps13
  go_wp2
  go_ret
  exact ⟨rfl, rfl⟩

theorem many_ok {w : World} {a a' : Option Addr} {n c m c' : Nat} (hn : n ≤ 9223372036854775807) (hm : m ≤ 9223372036854775807) :
    Calls Try.prog 8 #[.slice a n c, .slice a' m c'] w fun e w' => w' = w ∧ e = .returned (.bool (decide (4000 < n ∨ 200 < m))) := by
  by_cases h1 : 4000 < n
  · have g1 : (4000 : Int) < (n : Int) := by omega
    have e : decide (4000 < n ∨ 200 < m) = true := by simp [h1]
    rw [e]
    clear e
    replace h1 := hid h1
    go_enter Try.func8, Try.ntmps8
    go_wp2
    go_ret
    exact ⟨rfl, rfl⟩
  · have g1 : ¬ (4000 : Int) < (n : Int) := by omega
    by_cases h2 : 200 < m
    · have g2 : (200 : Int) < (m : Int) := by omega
      have e : decide (4000 < n ∨ 200 < m) = true := by simp [h2]
      rw [e]
      clear e
      replace h1 := hid h1
      replace h2 := hid h2
      go_enter Try.func8, Try.ntmps8
      go_wp2
      go_ret
      exact ⟨rfl, rfl⟩
    · have g2 : ¬ (200 : Int) < (m : Int) := by omega
      have e : decide (4000 < n ∨ 200 < m) = false := by simp; omega
      rw [e]
      clear e
      replace h1 := hid h1
      replace h2 := hid h2
      go_enter Try.func8, Try.ntmps8
      go_wp2
      go_ret
      exact ⟨rfl, rfl⟩

end Go.Proofs.Ytfcbiiakhgeogaa
