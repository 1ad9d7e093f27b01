/-
  THE DOCUMENT's FIELDS, THE RECORDS TOO, AND THE FIRST THAT CAN'T BE TOLD. Conditions: a right head of bounded texts.
-/
import Derived.Test.YthnaanjhmehgcaaGreatDoorN40
import Derived.Test.YthnaanjhmehgcaaGreatDoorN39
import Derived.Test.YthnaanjhmehgcaaGreatDoorN42
namespace Go.Proofs.YthnaanjhmehgcaaGreatDoor
open Go.ChangeShapes Go.WideShapes Go.ChangeAt Go.RowKit Go.Lib
set_option linter.unusedVariables false
set_option linter.unusedSimpArgs false
set_option maxRecDepth 20000

/-- a right head whose texts are short enough for the document's own walks -/
structure RI (w : World) (a : Option Addr) (n c : Nat) (l : PL) (h : Hd) : Prop where
  r : RH w a n c l h
  h1 : h.name.size ≤ 900000
  h2 : h.link.size ≤ 900000
  h3 : h.user.size ≤ 900000
  h4 : h.group.size ≤ 900000
theorem RI.below {w w' : World} {a : Option Addr} {n c : Nat} {l : PL} {h : Hd} (i : RI w a n c l h) (hb : Below w.heap.size w w') : RI w' a n c l h := ⟨i.r.below hb, i.h1, i.h2, i.h3, i.h4⟩

set_option maxHeartbeats 16000000 in
theorem rcan_14 (d : Int) {w : World} {a : Option Addr} {n c : Nat} {l : PL} {h : Hd} (i : RI w a n c l h) :
    Calls Tryz.prog 13 #[.int .i64 d, .agg (h.cs (.slice a n c)), .int .i64 14] w fun e w' => e = .returned (.bool (canA d h l 14)) ∧ Below w.heap.size w w' := by
  have hac := below_alloc w (.cells (h.cs (.slice a n c)) 26)
  have hre := rrecords_ok (i.r.below hac) i.h1 i.h2 i.h3 i.h4
  have E0 : canA d h l 14 = (decide (d ≠ 3) || decide (lenS (recO h l) ≤ 65536)) := rfl
  rw [E0]
  have hsm := i.r.sml
  have hle := i.r.len
  have hnil : txtsB h n = false → recO h l = [] := fun e => by unfold recO; rw [i.r.py.1, e]; rfl
  have htop := lenS_top _ hsm
  generalize recO h l = R at *
  generalize txtsB h n = O at *
  obtain ⟨T, hT⟩ : ∃ T, T = lenS R := ⟨_, rfl⟩
  rw [← hT] at htop
  rw [← hT]
  have hT9 : T ≤ 2000100000 := by omega
  replace hT := hid hT
  replace hsm := hid hsm
  obtain ⟨q, hq⟩ : ∃ q, q = (decide (d ≠ 3) || decide (T ≤ 65536)) := ⟨_, rfl⟩
  rw [← hq]
  replace hq := hid hq
  clear i E0 htop
  unfold Hd.cs at hac hre ⊢
  go_enter Tryz.func13, Tryz.ntmps13
  go_wp2_with (first
    | (go_at_call 18; refine hre.mono ?_; rintro e w1 ⟨⟨a2, m, c2, rfl, hp2⟩, hb1⟩; replace hac := hac.trans (hb1.mono hac.size)))
  have hm1 : m ≤ 1000 := by rw [← hp2.1]; exact hle
  have hl := hid hp2.1
  go_loopw [9, 10] (fun x y wr => ∃ (s k : Nat), x = .int .i64 s ∧ y = .int .i64 k ∧ k ≤ m ∧ s ≤ T ∧ Below w1.heap.size w1 wr ∧ Hid (s + lenS (R.drop k) = T)) (fun _ y _ => m - (RowKit.intOf y).toNat)
  case atStart => exact ⟨0, 0, rfl, rfl, by omega, by omega, Below.refl _ _, hid (by rw [hT.out]; simp)⟩
  case round =>
    obtain ⟨s, k, rfl, rfl, hk, hsT, hb, hr⟩ := hrel
    have hacr := hac.trans (hb.mono hac.size)
    by_cases hlt : k < m
    · have hkI : (k : Int) < (m : Int) := by omega
      by_cases hs : s ≤ 65536
      · have hsI : (s : Int) ≤ 65536 := by omega
        obtain ⟨b, off, rfl, hc⟩ := hp2.some_of (by omega)
        obtain ⟨ky, vl, hmem, hd, c0, c1⟩ := (hc.below hb).at k (by rw [hl.out]; exact hlt)
        obtain ⟨z1, z2⟩ := hsm.out _ hmem
        simp only at z1 z2
        have hln := rlen_ok ky vl (by omega) (by omega)
        have E := hid (show s + lenN (restN ky vl) + lenS (R.drop (k + 1)) = T by have := hr.out; rw [lenS_drop1 R k ky vl hd.out] at this; omega)
        have hle2 : s + lenN (restN ky vl) ≤ T := by have := E.out; omega
        generalize lenN (restN ky vl) = g at *
        clear hr hd hmem hq hT hsm hnil hre
        go_wp2_with (first
          | (go_at_call 31; refine (hln _).mono ?_; rintro e wq ⟨rfl, hwq⟩))
        go_roundw
        case rel => exact ⟨s + g, k + 1, by go_num, by go_num, by omega, hle2, hb.trans (hwq.mono hb.size), E⟩
        case measure => simp [RowKit.intOf]; omega
      · have hsI : ¬ (s : Int) ≤ 65536 := by omega
        have hT6 : ¬ T ≤ 65536 := by omega
        by_cases h3 : d = 3
        · subst h3
          cases O
          · exfalso
            have h0 := hl.out
            rw [hnil rfl] at h0
            simp at h0
            omega
          · have E3 := hid (show q = false by rw [hq.out]; simp [hT6])
            clear hq hT hsm hnil hre hr
            go_wp2
            all_goals go_ret
            all_goals exact ⟨ret_bool E3.out.symm, hacr⟩
        · have e3 : (d != 3) = true := by simpa using h3
          have E3 := hid (show q = true by rw [hq.out]; simp [h3])
          clear hq hT hsm hnil hre hr
          go_wp2
          all_goals go_ret
          all_goals exact ⟨ret_bool E3.out.symm, hacr⟩
    · have hkI : ¬ (k : Int) < (m : Int) := by omega
      have E : s = T := by
        have h1 := hr.out
        rw [List.drop_eq_nil_iff.2 (by rw [hl.out]; omega)] at h1
        simpa [lenS] using h1
      subst E
      by_cases h3 : d = 3
      · subst h3
        cases O
        · have h0 : s = 0 := by rw [hT.out, hnil rfl]; rfl
          have E3 := hid (show q = true by rw [hq.out]; simp [h0])
          clear hq hT hsm hnil hre hr
          go_wp2
          all_goals go_ret
          all_goals exact ⟨ret_bool E3.out.symm, hacr⟩
        · by_cases hs : s ≤ 65536
          · have hsI : (s : Int) ≤ 65536 := by omega
            have E3 := hid (show q = true by rw [hq.out]; simp [hs])
            clear hq hT hsm hnil hre hr
            go_wp2
            all_goals go_ret
            all_goals exact ⟨ret_bool E3.out.symm, hacr⟩
          · have hsI : ¬ (s : Int) ≤ 65536 := by omega
            have E3 := hid (show q = false by rw [hq.out]; simp [hs])
            clear hq hT hsm hnil hre hr
            go_wp2
            all_goals go_ret
            all_goals exact ⟨ret_bool E3.out.symm, hacr⟩
      · have e3 : (d != 3) = true := by simpa using h3
        have E3 := hid (show q = true by rw [hq.out]; simp [h3])
        clear hq hT hsm hnil hre hr
        go_wp2
        all_goals go_ret
        all_goals exact ⟨ret_bool E3.out.symm, hacr⟩

/-- each field, by the document -/
theorem rcanA_ok (d : Int) (hd : 1 ≤ d ∧ d ≤ 4) (f : Int) (hf : 1 ≤ f ∧ f ≤ 14) {w : World} {a : Option Addr} {n c : Nat} {l : PL} {h : Hd} (i : RI w a n c l h) :
    Calls Tryz.prog 13 #[.int .i64 d, .agg (h.cs (.slice a n c)), .int .i64 f] w fun e w' => e = .returned (.bool (canA d h l f)) ∧ Below w.heap.size w w' := by
  by_cases e : f = 14
  · subst e; exact rcan_14 d i
  · have e1 : canA d h l f = rcanN d h n f := by unfold canA; rw [if_neg e, i.r.py.1, rcan_is d h n f (by omega) hd.1 hd.2 i.r.bnd]
    rw [e1]
    exact rcan_ok d h a n c f (by omega) i.h1 i.h2 i.h3 i.h4 w

set_option maxHeartbeats 8000000 in
theorem rfirst_yes (d : Int) (hd : 1 ≤ d ∧ d ≤ 4) {w : World} {a : Option Addr} {n c : Nat} {l : PL} {h : Hd} (r : RI w a n c l h) :
    Calls Tryz.prog 14 #[.int .i64 d, .agg (h.cs (.slice a n c))] w fun e w' => e = .returned (.int .i64 (firstA d h l)) ∧ Below w.heap.size w w' := by
  have hac := below_alloc w (.cells (h.cs (.slice a n c)) 26)
  have hB : Blk (w.alloc (.cells (h.cs (.slice a n c)) 26)) w.heap.size (h.cs (.slice a n c)) 26 := heap_alloc_new _ _
  have hinf : (Tryz.prog.info? 26).map (·.size) = some (h.cs (.slice a n c)).size := by kernel_rfl
  have hca := fun (f : Int) hf (wr : World) (hb : Below w.heap.size w wr) => rcanA_ok d hd f hf (r.below hb)
  obtain ⟨F, hF⟩ : ∃ F, F = firstA d h l := ⟨_, rfl⟩
  rw [← hF]
  replace hF := hid hF
  unfold firstA at hF
  generalize canA d h l = p at *
  clear hd r
  unfold Hd.cs at hac hB hinf hca ⊢
  go_enter Tryz.func14, Tryz.ntmps14
  go_wp2
  go_loopw [5] (fun x wr => ∃ (i k : Nat), x = .int .i64 i ∧ 1 ≤ i ∧ i + k = 15 ∧ Below w.heap.size w wr ∧ Blk wr w.heap.size _ 26 ∧ Hid (F = firstF p k i)) (fun x _ => 15 - (RowKit.intOf x).toNat)
  case atStart => exact ⟨1, 14, rfl, by omega, by omega, hac, hB, hF⟩
  case round =>
    obtain ⟨i, k, rfl, hi, hik, hac, hB, hf⟩ := hrel
    by_cases hlt : i ≤ 14
    · obtain ⟨k', hk'⟩ : ∃ k', k = k' + 1 := ⟨k - 1, by omega⟩
      have hcc := hca i (by omega)
      have hiI : (i : Int) ≤ 14 := by omega
      cases hv : p i
      · have E := hid (show F = (i : Int) by rw [hf.out, hk', firstF_no p k' i hv])
        rw [hv] at hcc
        clear hf hv hca hF hk' hik
        go_wp2_with (first
          | (go_at_call 13; refine (hcc _ hac).mono ?_; rintro e w2 ⟨rfl, hb2⟩)
          | (refine wpList_load_row (P := Tryz.prog) rfl 26 (.tmp 3) rfl w.heap.size rfl 26 _ (0, 0) _ hB Tryz.underlying26 rfl hinf ?_))
        all_goals go_ret
        all_goals exact ⟨ret_int E.out.symm, hac.trans (hb2.mono hac.size)⟩
      · have E := hid (show F = firstF p k' ((i + 1 : Nat) : Int) by rw [hf.out, hk', firstF_yes p k' i hv]; rfl)
        rw [hv] at hcc
        clear hf hv hca hF
        go_wp2_with (first
          | (go_at_call 13; refine (hcc _ hac).mono ?_; rintro e w2 ⟨rfl, hb2⟩)
          | (refine wpList_load_row (P := Tryz.prog) rfl 26 (.tmp 3) rfl w.heap.size rfl 26 _ (0, 0) _ hB Tryz.underlying26 rfl hinf ?_))
        go_roundw
        case rel => exact ⟨i + 1, k', by go_num, by omega, by omega, hac.trans (hb2.mono hac.size), hB.below hb2, E⟩
        case measure => simp [RowKit.intOf]; omega
    · have hiI : ¬ (i : Int) ≤ 14 := by omega
      have E := hid (show F = 0 by have : k = 0 := by omega
                                   rw [hf.out, this]; rfl)
      clear hf hca hF
      go_wp2
      all_goals go_ret
      all_goals exact ⟨ret_int E.out.symm, hac⟩

end Go.Proofs.YthnaanjhmehgcaaGreatDoor
