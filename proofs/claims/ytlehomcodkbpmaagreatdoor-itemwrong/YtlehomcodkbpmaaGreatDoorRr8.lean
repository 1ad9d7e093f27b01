/-
  THE DOCUMENT's WORD ON WHETHER PAIRS ARE AN OVERLAY. Conditions: how many pairs there are, and how many bytes they have.
-/
import Derived.Test.YtlehomcodkbpmaaGreatDoorRly
import Derived.Test.YtlehomcodkbpmaaGreatDoorRrg
namespace Go.Proofs.YtlehomcodkbpmaaGreatDoor
open Go.ChangeShapes Go.WideShapes Go.ChangeAt Go.RowKit Go.Lib
set_option linter.unusedVariables false
set_option linter.unusedSimpArgs false
set_option maxRecDepth 20000

theorem ov_lay (l : PL) : ovB none l = (rgB l && decide (layL [] (l ++ []) = l)) := by
  rw [List.append_nil, Bool.eq_iff_iff, ovB_iff, Bool.and_eq_true, rgB_iff, decide_eq_true_eq]
  constructor
  · rintro ⟨h1, h2, h3⟩
    exact ⟨h3, lay_self l h1 h2⟩
  · rintro ⟨h3, h⟩
    refine ⟨?_, ?_, h3⟩
    · rw [← h]; exact layL_srt l [] Srt.nil
    · rw [← h]; exact layL_ful l [] Ful.nil

set_option maxHeartbeats 4000000 in
theorem rright8_ok {w : World} {a : Option Addr} {n c : Nat} {l : PL} (h : Pys w a n c l) (hz : Sml l) (hn : n ≤ 1000) (hnl : a = none → n = 0 ∧ c = 0) :
    Calls Tryz.prog 42 #[.slice a n c] w fun e w' => e = .returned (.bool (ovB none l)) ∧ Below w.heap.size w w' := by
  have hm1 := h.2.1
  have hm2 := h.2.2.1
  rw [ov_lay l]
  obtain ⟨R, hR⟩ : ∃ R, R = layL [] (l ++ []) := ⟨_, rfl⟩
  have hnil := fun (w' : World) => (⟨rfl, Nat.le_refl _, by omega, .inl ⟨rfl, rfl⟩⟩ : Pys w' none 0 0 [])
  have hly := fun w' (hb : Below w.heap.size w w') => rlay_ok (h.below hb) (hnil w') hn (by omega) hnl (fun _ => ⟨rfl, rfl⟩)
  rw [← hR] at hly ⊢
  have hl := hid h.1
  have hz' := hid hz
  clear hR hz
  obtain ⟨Q, hQ⟩ : ∃ Q, Q = rgB l := ⟨_, rfl⟩
  rw [← hQ]
  have hQ0 := hid (by rw [hQ, List.drop_zero] : Q = rgB (l.drop 0))
  clear hQ
  go_enter Tryz.func42, Tryz.ntmps42
  go_wp2
  go_loopw [3] (fun x wr => ∃ k : Nat, x = .int .i64 k ∧ k ≤ n ∧ Below w.heap.size w wr ∧ Hid (Q = rgB (l.drop k))) (fun x _ => n - (RowKit.intOf x).toNat)
  case atStart => exact ⟨0, rfl, by omega, Below.refl _ _, hQ0⟩
  case round =>
    obtain ⟨k, rfl, hk, hb, hr⟩ := hrel
    by_cases hlt : k < n
    · obtain ⟨b, off, rfl, hc⟩ := h.some_of (by omega)
      obtain ⟨ky, vl, hmem, hd, c0, c1⟩ := (hc.below hb).at k (by rw [hl.out]; exact hlt)
      obtain ⟨z1, z2⟩ := hz'.out _ hmem
      simp only at z1 z2
      have hkI : (k : Int) < (n : Int) := by omega
      have hrr := rr_ok ky vl z1 z2 wr
      have hrk := rgB_drop hd.out
      cases hRt : rightP (bs ky) (bs vl)
      · have E : Q = false := by rw [hr.out, hrk, hRt]; rfl
        rw [hRt] at hrr
        subst E
        clear hr hd hmem hrk hRt hQ0
        go_wp2_with (go_at_call 50; refine hrr.mono ?_; rintro e w1 ⟨rfl, hb1⟩)
        all_goals go_ret
        all_goals exact ⟨rfl, hb.trans (hb1.mono hb.size)⟩
      · have E := hid (by rw [hr.out, hrk, hRt]; rfl : Q = rgB (l.drop (k + 1)))
        rw [hRt] at hrr
        clear hr hd hmem hrk hRt
        go_wp2_with (go_at_call 50; refine hrr.mono ?_; rintro e w1 ⟨rfl, hb1⟩)
        go_roundw
        case rel => exact ⟨k + 1, by go_num, by omega, hb.trans (hb1.mono hb.size), E⟩
        case measure => simp [RowKit.intOf]; omega
    · obtain rfl : k = n := by omega
      have E : Q = true := by rw [hr.out, List.drop_eq_nil_iff.mpr (by rw [hl.out]; exact Nat.le_refl _)]; rfl
      have hkI : ¬ (k : Int) < (k : Int) := by omega
      subst E
      clear hr hQ0
      go_wp2_with (first
        | (go_at_call 52; refine (hly _ hb).mono ?_; rintro e w1 ⟨a2, m2, c2, rfl, hp2, hb1⟩; replace hb := hb.trans (hb1.mono hb.size))
        | (go_at_call 51; refine (same_ok hp2 (h.below hb)).mono ?_; rintro e w2 ⟨rfl, hb2⟩; replace hb := hb.trans (hb2.mono hb.size)))
      all_goals go_ret
      all_goals exact ⟨rfl, hb⟩

end Go.Proofs.YtlehomcodkbpmaaGreatDoor
