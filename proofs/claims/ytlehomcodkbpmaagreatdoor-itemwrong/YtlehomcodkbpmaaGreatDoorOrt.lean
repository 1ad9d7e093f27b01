/-
  WHETHER PAIRS ARE AN OVERLAY (over.Right). Conditions: how many bytes the texts have; what the listed variables hold.
-/
import Derived.Test.YtlehomcodkbpmaaGreatDoorOlt
import Derived.Test.YtlehomcodkbpmaaGreatDoorSmp
import Derived.Test.YtlehomcodkbpmaaGreatDoorRgt
import Derived.Test.YtlehomcodkbpmaaGreatDoorBak
import Derived.BigQuiet
import Derived.BigRegion
namespace Go.Proofs.YtlehomcodkbpmaaGreatDoor
open Go.ChangeShapes Go.WideShapes Go.ChangeAt Go.RowKit Go.Lib
set_option linter.unusedVariables false
set_option linter.unusedSimpArgs false
set_option maxRecDepth 20000

theorem str_geq {P : Program} (w : World) (t : TypeId) (a b : ByteArray) : (binOp .geq t (.string a) (.string b)).run P w = .ok (.bool (!decide (kc a b < 0))) w := by
  rw [← less_kc]
  simp [binOp, Op.stringOp]

/-- is it an overlay, behind a key -/
def ovB : Option ByteArray → PL → Bool
  | _, [] => true
  | o, p :: t => (match o with | some k => decide (kc k p.1 < 0) | none => true) && (decide (p.2.size ≠ 0) && rightP (bs p.1) (bs p.2)) && ovB (some p.1) t

theorem ovB_cons (o : Option ByteArray) (p : ByteArray × ByteArray) (t : PL) : ovB o (p :: t) = ((match o with | some k => decide (kc k p.1 < 0) | none => true) && (decide (p.2.size ≠ 0) && rightP (bs p.1) (bs p.2)) && ovB (some p.1) t) := by cases o <;> rfl

theorem ovB_some : ∀ (l : PL) (k : ByteArray), ovB (some k) l = true ↔ (∀ q ∈ l, kc k q.1 < 0) ∧ Srt l ∧ Ful l ∧ Rgt l
  | [], k => by
    unfold ovB
    exact ⟨fun _ => ⟨fun q hq => (by cases hq), Srt.nil, fun q hq => (by cases hq), fun q hq => (by cases hq)⟩, fun _ => rfl⟩
  | p :: t, k => by
    rw [ovB]
    simp only [Bool.and_eq_true, decide_eq_true_eq]
    rw [ovB_some t p.1]
    constructor
    · rintro ⟨⟨h1, h2, h3⟩, h4, h5, h6, h7⟩
      refine ⟨?_, List.pairwise_cons.2 ⟨h4, h5⟩, ?_, ?_⟩
      · intro q hq
        rcases List.mem_cons.1 hq with e | e
        · rw [e]; exact h1
        · exact kc_trans h1 (h4 q e)
      · intro q hq
        rcases List.mem_cons.1 hq with e | e
        · rw [e]; exact h2
        · exact h6 q e
      · intro q hq
        rcases List.mem_cons.1 hq with e | e
        · rw [e]; exact h3
        · exact h7 q e
    · rintro ⟨h1, h2, h3, h4⟩
      exact ⟨⟨h1 p (List.mem_cons_self ..), h3 p (List.mem_cons_self ..), h4 p (List.mem_cons_self ..)⟩, h2.head, h2.tail, fun q hq => h3 q (List.mem_cons_of_mem _ hq), fun q hq => h4 q (List.mem_cons_of_mem _ hq)⟩
theorem ovB_iff (l : PL) : ovB none l = true ↔ Srt l ∧ Ful l ∧ Rgt l := by
  cases l with
  | nil => exact ⟨fun _ => ⟨Srt.nil, fun q hq => (by cases hq), fun q hq => (by cases hq)⟩, fun _ => rfl⟩
  | cons p t =>
    rw [ovB]
    simp only [Bool.and_eq_true, decide_eq_true_eq, true_and]
    rw [ovB_some t p.1]
    constructor
    · rintro ⟨⟨h2, h3⟩, h4, h5, h6, h7⟩
      refine ⟨List.pairwise_cons.2 ⟨h4, h5⟩, ?_, ?_⟩
      · intro q hq
        rcases List.mem_cons.1 hq with e | e
        · rw [e]; exact h2
        · exact h6 q e
      · intro q hq
        rcases List.mem_cons.1 hq with e | e
        · rw [e]; exact h3
        · exact h7 q e
    · rintro ⟨h2, h3, h4⟩
      exact ⟨⟨h3 p (List.mem_cons_self ..), h4 p (List.mem_cons_self ..)⟩, h2.head, h2.tail, fun q hq => h3 q (List.mem_cons_of_mem _ hq), fun q hq => h4 q (List.mem_cons_of_mem _ hq)⟩

theorem drop_getp {l : PL} {i : Nat} {q : ByteArray × ByteArray} {t : PL} (h : l.drop i = q :: t) : l[i]? = some q := by
  have := congrArg List.head? h
  rwa [List.head?_drop, List.head?_cons] at this

/-- the key ahead -/
def preK (l : PL) (k : Nat) : Option ByteArray := if k = 0 then none else some (l.getD (k - 1) (⟨#[]⟩, ⟨#[]⟩)).1

set_option maxHeartbeats 8000000 in
theorem oright_ok {w : World} {a : Option Addr} {n c : Nat} {l : PL} (h : Pys w a n c l) (hz : Sml l) (hL : Laid w) :
    Calls Tryz.prog 37 #[.slice a n c] w fun e w' => e = .returned (.bool (ovB none l)) ∧ Below w.heap.size w w' := by
  have hm1 := h.2.1
  have hm2 := h.2.2.1
  obtain ⟨q, hq⟩ : ∃ q, q = ovB none l := ⟨_, rfl⟩
  rw [← hq]
  have hl := hid h.1
  have hz' := hid hz
  replace hq := hid hq
  clear hz
  go_enter Tryz.func37, Tryz.ntmps37
  go_wp2
  go_loopw [7] (fun x wr => ∃ k : Nat, x = .int .i64 k ∧ k ≤ n ∧ Below w.heap.size w wr ∧ Hid (q = ovB (preK l k) (l.drop k))) (fun x _ => n - (RowKit.intOf x).toNat)
  case atStart => exact ⟨0, rfl, by omega, Below.refl _ _, hid hq.out⟩
  case round =>
    obtain ⟨k, rfl, hk, hb, hr⟩ := hrel
    by_cases hlt : k < n
    · obtain ⟨b, off, rfl, hc⟩ := h.some_of (by omega)
      obtain ⟨ky, vl, hmem, hd, c0, c1⟩ := (hc.below hb).at k (by rw [hl.out]; exact hlt)
      have hkI : (k : Int) < (n : Int) := by omega
      have hfr := (Below.refl wr.heap.size wr).alloc (Nat.le_refl _) (.cells #[.string ky, .string vl] 39)
      have hbn := hb.trans (hfr.mono hb.size)
      obtain ⟨z1, z2⟩ := hz'.out _ hmem
      simp only at z1 z2
      have hri := right_ok ky vl (by omega) (by omega)
      obtain ⟨T, hT⟩ : ∃ T : Bool, T = (match preK l k with | some x => decide (kc x ky < 0) | none => true) := ⟨_, rfl⟩
      have hst := hid (by rw [hr.out, hd.out, ovB_cons, ← hT] : q = (T && (decide (vl.size ≠ 0) && rightP (bs ky) (bs vl)) && ovB (some ky) (l.drop (k + 1))))
      have hnx : preK l (k + 1) = some ky := by
        unfold preK
        rw [if_neg (by omega), Nat.add_sub_cancel, List.getD_eq_getElem?_getD, drop_getp hd.out]; rfl
      clear hr
      cases T
      · have E : q = false := by rw [hst.out]; rfl
        by_cases hk0 : k = 0
        · rw [hk0] at hT; exact absurd hT (by simp [preK])
        · obtain ⟨kp, vp, hmem2, hd2, p0, p1⟩ := (hc.below hbn).at (k - 1) (by rw [hl.out]; omega)
          have hpk : preK l k = some kp := by unfold preK; rw [if_neg hk0, List.getD_eq_getElem?_getD, drop_getp hd2.out]; rfl
          rw [hpk] at hT
          have hls := fun (w : World) => str_geq (P := Tryz.prog) w 9 kp ky
          have hT' : decide (kc kp ky < 0) = false := hT.symm
          rw [hT'] at hls
          clear hT'
          have hkp : (0 : Int) < (k : Int) := by omega
          have hkN : 0 < k := by omega
          have hkd : decide (0 < k) = true := decide_eq_true hkN
          have hkm : (k : Int) - 1 = ((k - 1 : Nat) : Int) := by omega
          have hkm1 : (0 : Int) ≤ (k : Int) - 1 := by omega
          have hkm2 : (k : Int) - 1 < (n : Int) := by omega
          have hkm3 : k - 1 < n := by omega
          have hkm4 : (1 : Int) ≤ (k : Int) := by omega
          have hkm5 : 1 ≤ k := by omega
          have hkmn : ((k : Int) - 1).toNat = k - 1 := by omega
          subst E
          clear hst hnx hpk hT hd hd2 hmem hmem2 hq
          have hne : Nonempty (After (wr.alloc (.cells #[.string ky, .string vl] 39))) := ⟨⟨_, Below.refl _ _⟩⟩
          have gp : ∀ p : After (wr.alloc (.cells #[.string ky, .string vl] 39)), p.out.cell? ⟨b, off + (k - 1) * 2, none⟩ = some (.string kp) := fun p => cell_later p.bel p0
          have gk : ∀ p : After (wr.alloc (.cells #[.string ky, .string vl] 39)), p.out.cell? ⟨wr.heap.size, 0, none⟩ = some (.string ky) := fun p => cell_later p.bel (new_two wr (.string ky) (.string vl) 39).1
          go_wp2
          refine wp_region_after (by kernel_rfl) (by kernel_rfl) ?_
          repeat (go_big_quiet_step (fail))
          refine wpQuiet_nil ?_
          intro wq hw'
          obtain ⟨⟨x, hwq⟩, hx⟩ := hw'
          simp only at hx
          subst hx
          go_wp2
          go_ret
          exact ⟨rfl, hbn.trans (hwq.mono hbn.size)⟩
      · have E2 : q = ((decide (vl.size ≠ 0) && rightP (bs ky) (bs vl)) && ovB (some ky) (l.drop (k + 1))) := by rw [hst.out]; rfl
        by_cases hk0 : k = 0
        · subst hk0
          rw [Nat.zero_mul, Nat.add_zero] at c0 c1
          clear hT
          have hne : Nonempty (After (wr.alloc (.cells #[.string ky, .string vl] 39))) := ⟨⟨_, Below.refl _ _⟩⟩
          go_wp2
          refine wp_region_after (by kernel_rfl) (by kernel_rfl) ?_
          repeat (go_big_quiet_step (fail))
          refine wpQuiet_nil ?_
          intro wq hw'
          obtain ⟨⟨x, hwq⟩, hx⟩ := hw'
          simp only at hx
          subst hx
          have hbq := hbn.trans (hwq.mono hbn.size)
          obtain ⟨c2, c3⟩ := two_cells hwq
          by_cases hv0 : vl.size = 0
          · have E : q = false := by rw [E2, decide_eq_false (fun h => h hv0)]; rfl
            have hvz : vl.toList.isEmpty = true := by rw [is_nil vl, decide_eq_true (by rw [← List.length_eq_zero_iff, bs_len]; exact hv0)]
            subst E
            clear hst E2 hnx hq hd hmem hv0
            go_wp2
            all_goals go_ret
            all_goals exact ⟨rfl, hbq⟩
          · have hvz : vl.toList.isEmpty = false := by rw [is_nil vl, decide_eq_false (by rw [← List.length_eq_zero_iff, bs_len]; exact hv0)]
            have hrq := hri wq (hL.below hbq)
            cases hR : rightP (bs ky) (bs vl)
            · have E : q = false := by rw [E2, hR]; simp
              rw [hR] at hrq
              subst E
              clear hst E2 hnx hq hd hmem hv0 hR
              go_wp2_with (go_at_call 46; refine hrq.mono ?_; rintro e w3 ⟨rfl, hb3⟩)
              all_goals go_ret
              all_goals exact ⟨rfl, hbq.trans (hb3.mono hbq.size)⟩
            · have E := hid (by rw [E2, hR, hnx, decide_eq_true (show vl.size ≠ 0 from hv0)]; rfl : q = ovB (preK l (0 + 1)) (l.drop (0 + 1)))
              rw [hR] at hrq
              clear hst E2 hnx hd hmem hv0 hR
              go_wp2_with (go_at_call 46; refine hrq.mono ?_; rintro e w3 ⟨rfl, hb3⟩)
              go_roundw
              case rel => exact ⟨0 + 1, by go_num, by omega, hbq.trans (hb3.mono hbq.size), E⟩
              case measure => simp [RowKit.intOf]; omega
        · obtain ⟨kp, vp, hmem2, hd2, p0, p1⟩ := (hc.below hbn).at (k - 1) (by rw [hl.out]; omega)
          have hpk : preK l k = some kp := by unfold preK; rw [if_neg hk0, List.getD_eq_getElem?_getD, drop_getp hd2.out]; rfl
          rw [hpk] at hT
          have hls := fun (w : World) => str_geq (P := Tryz.prog) w 9 kp ky
          have hT' : decide (kc kp ky < 0) = true := hT.symm
          rw [hT'] at hls
          clear hT'
          have hkp : (0 : Int) < (k : Int) := by omega
          have hkN : 0 < k := by omega
          have hkd : decide (0 < k) = true := decide_eq_true hkN
          have hkm : (k : Int) - 1 = ((k - 1 : Nat) : Int) := by omega
          have hkm1 : (0 : Int) ≤ (k : Int) - 1 := by omega
          have hkm2 : (k : Int) - 1 < (n : Int) := by omega
          have hkm3 : k - 1 < n := by omega
          have hkm4 : (1 : Int) ≤ (k : Int) := by omega
          have hkm5 : 1 ≤ k := by omega
          have hkmn : ((k : Int) - 1).toNat = k - 1 := by omega
          clear hpk hT hd2 hmem2
          have hne : Nonempty (After (wr.alloc (.cells #[.string ky, .string vl] 39))) := ⟨⟨_, Below.refl _ _⟩⟩
          have gp : ∀ p : After (wr.alloc (.cells #[.string ky, .string vl] 39)), p.out.cell? ⟨b, off + (k - 1) * 2, none⟩ = some (.string kp) := fun p => cell_later p.bel p0
          have gk : ∀ p : After (wr.alloc (.cells #[.string ky, .string vl] 39)), p.out.cell? ⟨wr.heap.size, 0, none⟩ = some (.string ky) := fun p => cell_later p.bel (new_two wr (.string ky) (.string vl) 39).1
          go_wp2
          refine wp_region_after (by kernel_rfl) (by kernel_rfl) ?_
          repeat (go_big_quiet_step (fail))
          refine wpQuiet_nil ?_
          intro wq hw'
          obtain ⟨⟨x, hwq⟩, hx⟩ := hw'
          simp only at hx
          subst hx
          have hbq := hbn.trans (hwq.mono hbn.size)
          obtain ⟨c2, c3⟩ := two_cells hwq
          clear gp gk hls p0 p1
          by_cases hv0 : vl.size = 0
          · have E : q = false := by rw [E2, decide_eq_false (fun h => h hv0)]; rfl
            have hvz : vl.toList.isEmpty = true := by rw [is_nil vl, decide_eq_true (by rw [← List.length_eq_zero_iff, bs_len]; exact hv0)]
            subst E
            clear hst E2 hnx hq hd hmem hv0
            go_wp2
            all_goals go_ret
            all_goals exact ⟨rfl, hbq⟩
          · have hvz : vl.toList.isEmpty = false := by rw [is_nil vl, decide_eq_false (by rw [← List.length_eq_zero_iff, bs_len]; exact hv0)]
            have hrq := hri wq (hL.below hbq)
            cases hR : rightP (bs ky) (bs vl)
            · have E : q = false := by rw [E2, hR]; simp
              rw [hR] at hrq
              subst E
              clear hst E2 hnx hq hd hmem hv0 hR
              go_wp2_with (go_at_call 46; refine hrq.mono ?_; rintro e w3 ⟨rfl, hb3⟩)
              all_goals go_ret
              all_goals exact ⟨rfl, hbq.trans (hb3.mono hbq.size)⟩
            · have E := hid (by rw [E2, hR, hnx, decide_eq_true (show vl.size ≠ 0 from hv0)]; rfl : q = ovB (preK l (k + 1)) (l.drop (k + 1)))
              rw [hR] at hrq
              clear hst E2 hnx hd hmem hv0 hR
              go_wp2_with (go_at_call 46; refine hrq.mono ?_; rintro e w3 ⟨rfl, hb3⟩)
              go_roundw
              case rel => exact ⟨k + 1, by go_num, by omega, hbq.trans (hb3.mono hbq.size), E⟩
              case measure => simp [RowKit.intOf]; omega
    · obtain rfl : k = n := by omega
      have E : q = true := by rw [hr.out, List.drop_eq_nil_iff.mpr (by rw [hl.out]; exact Nat.le_refl _)]; cases preK l k <;> rfl
      have hkI : ¬ (k : Int) < (k : Int) := by omega
      subst E
      clear hr hq
      go_wp2
      go_ret
      exact ⟨rfl, hb⟩

end Go.Proofs.YtlehomcodkbpmaaGreatDoor
