/-
  WHAT Make MAKES. Conditions: that the numbers are 64 bits wide, a flag is a byte, and the texts have at most 3000 bytes each.
-/
import Derived.Test.YtgjbopbpekocpaaMp
namespace Go.Proofs.Ytgjbopbpekocpaa
open Go.ChangeShapes Go.WideShapes Go.ChangeAt Go.RowKit
set_option linter.unusedVariables false
set_option maxRecDepth 20000

set_option maxHeartbeats 1000000 in
theorem make_arg (w : World) (R : RawV) (wide dev : Bool) (h : ¬ (0 ≤ R.m ∧ R.m ≤ 2)) : Calls Try.prog 18 #[.agg R.arr, .bool wide, .bool dev] w fun e w' => e = .returned (.tuple #[.slice none 0 0, .int .u8 2]) ∧ Below w.heap.size w w' := by
  have hb := (Below.refl w.heap.size w).alloc (Nat.le_refl _) (.cells R.arr 25)
  have hmb := fun w => markBytes_ok w R.m
  rw [decide_eq_false h] at hmb
  clear h
  unfold RawV.arr at *
  go_enter Try.func18, Try.ntmps18
  go_wp2_with (go_at_call 39; refine (hmb _).mono ?_; rintro e w' ⟨hw, rfl⟩; obtain rfl := hw.symm)
  all_goals go_ret2
  all_goals exact ⟨rfl, hb⟩

set_option maxHeartbeats 1000000 in
theorem make_flag (w : World) (R : RawV) (hR : R.ok) (wide dev : Bool) (h : 0 ≤ R.m ∧ R.m ≤ 2) (hf : flagB R.x = false) : Calls Try.prog 18 #[.agg R.arr, .bool wide, .bool dev] w fun e w' => e = .returned (.tuple #[.slice none 0 0, .int .u8 9]) ∧ Below w.heap.size w w' := by
  have hb := (Below.refl w.heap.size w).alloc (Nat.le_refl _) (.cells R.arr 25)
  have hmb := fun w => markBytes_ok w R.m
  have hfl := fun w => isFlag_ok R.x hR.1 hR.2.1 w
  rw [decide_eq_true h] at hmb
  rw [hf] at hfl
  clear h hf hR
  unfold RawV.arr at *
  go_enter Try.func18, Try.ntmps18
  go_wp2_with (first
    | (go_at_call 39; refine (hmb _).mono ?_; rintro e w' ⟨hw, rfl⟩; obtain rfl := hw.symm)
    | (go_at_call 23; refine (hfl _).mono ?_; rintro e w' ⟨hw, rfl⟩; obtain rfl := hw.symm))
  all_goals go_ret2
  all_goals exact ⟨rfl, hb⟩

theorem mkR_nil (R : RawV) (wide dev : Bool) (L : List Int) : mkR R wide dev [] L = (0, L) := rfl
theorem mkR_out (R : RawV) (wide dev : Bool) (r : RowD) (t : List RowD) (L : List Int) (h : isInB r.inn R.m dev = false) : mkR R wide dev (r :: t) L = mkR R wide dev t L := by rw [mkR, if_pos h]
theorem mkR_bad (R : RawV) (wide dev : Bool) (r : RowD) (t : List RowD) (L : List Int) (h : isInB r.inn R.m dev = true) (h' : fldC R wide r ≠ 0) : mkR R wide dev (r :: t) L = (fldC R wide r, []) := by rw [mkR, if_neg (by simp [h]), if_pos h']
theorem mkR_lay (R : RawV) (wide dev : Bool) (r : RowD) (t : List RowD) (L : List Int) (h : isInB r.inn R.m dev = true) (h' : fldC R wide r = 0) : mkR R wide dev (r :: t) L = mkR R wide dev t (layB L r.st (fldL R wide r)) := by rw [mkR, if_neg (by simp [h]), if_neg (by simp [h'])]

theorem layB_is (L : List Int) (st : Nat) (bs : List Int) (q : Nat) (h : bs.length = q) : L.take st ++ bs.take q ++ L.drop (st + q) = layB L st bs := by
  unfold layB; rw [List.take_of_length_le (l := bs) (by omega), h]

theorem zeros_length : zeros.length = 512 := by unfold zeros; rw [List.length_replicate]
theorem zeros_ok : ∀ x ∈ zeros, 0 ≤ x ∧ x ≤ 255 := by
  intro x hx; unfold zeros at hx; rw [List.eq_of_mem_replicate hx]; omega

theorem rawB_length (R : RawV) (L : List Int) (h : L.length = 512) (hm : 0 ≤ R.m ∧ R.m ≤ 2) : (rawB R L).length = 512 := by
  unfold rawB
  have hn : (nums (markS R.m)).length = 8 := by
    obtain ⟨h0, h2⟩ := hm
    have : R.m = 0 ∨ R.m = 1 ∨ R.m = 2 := by omega
    rcases this with e | e | e <;> rw [e] <;> rfl
  rw [layB_length _ _ _ (by rw [hn, List.length_set, h]; omega), List.length_set, h]

theorem markS_size (m : Int) (hm : 0 ≤ m ∧ m ≤ 2) : (markS m).size = 8 := by
  have : m = 0 ∨ m = 1 ∨ m = 2 := by omega
  rcases this with e | e | e <;> rw [e] <;> rfl

theorem own_row512 {w : World} {B g c : Nat} {L : List Int} (h : w.ownsRow B 5 1 (.slice (some ⟨g, 0, none⟩) 512 c) 512 (u8s L)) (hl : L.length = 512) (hr : ∀ x ∈ L, 0 ≤ x ∧ x ≤ 255) : Bys w (some ⟨g, 0, none⟩) 512 c L := by
  obtain ⟨a, c', e, hb⟩ := own_bys h hl hr
  simp only [Value.slice.injEq, true_and] at e
  obtain ⟨rfl, rfl⟩ := e
  exact hb

/-- the header, or nothing -/
def resB (R : RawV) (p : Int × List Int) : List Int := if p.1 = 0 then sealL (rawB R p.2) else []

set_option maxHeartbeats 4000000 in
theorem make_rest (w : World) (R : RawV) (hR : R.ok) (wide dev : Bool) (h : 0 ≤ R.m ∧ R.m ≤ 2) (hf : flagB R.x = true) :
    Calls Try.prog 18 #[.agg R.arr, .bool wide, .bool dev] w fun e w' => ∃ a m c, e = .returned (.tuple #[.slice a m c, .int .u8 (mkR R wide dev rowsD zeros).1]) ∧ Bys w' a m c (resB R (mkR R wide dev rowsD zeros)) ∧ Below w.heap.size w w' := by
  obtain ⟨i0, hi, hz0, hz1, hz2⟩ := info_parts Try.info5
  have hb := (Below.refl w.heap.size w).alloc (Nat.le_refl _) (.cells R.arr 25)
  have hBk := Blk.new w R.arr 25
  have hmb := fun w => markBytes_ok w R.m
  have hfl := fun w => isFlag_ok R.x hR.1 hR.2.1 w
  have hms := hid (markS_size R.m h)
  rw [decide_eq_true h] at hmb
  rw [hf] at hfl
  have hm := hid h
  clear h hf
  have hRok := hid hR
  obtain ⟨hx0, hx1, -, -⟩ := hR
  have hA : Hid (R.arr = #[.int .i64 R.m, .int .u8 R.x, .string (R.T 2), .string (R.T 3), .string (R.T 4), .string (R.T 5), .string (R.T 6), .int .i64 (R.N 7), .int .i64 (R.N 8), .int .i64 (R.N 9), .int .i64 (R.N 10), .int .i64 (R.N 11), .int .i64 (R.N 12), .int .i64 (R.N 13)]) := hid rfl
  rw [hA.out]
  rw [hA.out] at hb hBk
  go_enter Try.func18, Try.ntmps18
  go_wp2_with (first
    | (go_at_call 39; refine (hmb _).mono ?_; rintro e w' ⟨hw, rfl⟩; obtain rfl := hw.symm)
    | (go_at_call 23; refine (hfl _).mono ?_; rintro e w' ⟨hw, rfl⟩; obtain rfl := hw.symm)
    | (refine wpList_make_full _ rfl (.const (.int .i64 512)) (.const (.int .i64 512)) 22 rfl (w.heap.size + 1) 5 i0 (.int .u8 0) 1 Try.underlying22 hi hz0 hz1 _ _ _ _ 512 rfl rfl rfl rfl (by rw [hz2]; omega) (by unfold maxLen; omega) (by simp) ?_; intro w1 hown hgrow)
    | (go_at_call 25; refine (fields_ok _ _).mono ?_; rintro e w2 ⟨rfl, htab, hb2⟩))
  have hown1 : w1.ownsRow (w.heap.size + 1) 5 1 (.slice (some ⟨w.heap.size + 1, 0, none⟩) 512 512) 512 (u8s zeros) := by
    rw [Nat.mul_one, madeBytes'] at hown
    simpa [zeros] using hown
  have hBn := hgrow.block
  have hB1 : Blk w1 w.heap.size R.arr 25 := by
    have hl := hBk.lt
    rw [hA.out]
    unfold Blk at hBk ⊢
    rw [hgrow.block _ hl (by simp)]; exact hBk
  have hbw1 := hb.grown hgrow hb.size (by simp)
  have hbw := hbw1.trans (hb2.mono hbw1.size)
  have hst : w.heap.size + 1 < w1.heap.size := (hown1.lt _ rfl).2
  replace hown1 := own_below hb2 hown1
  replace hB1 := hB1.below hb2
  generalize ht : w1.heap.size = t at *
  clear hown hgrow hBn hBk hb hmb hfl hbw1 hb2 ht hA
  go_loopw [32] (fun i wr => ∃ (k : Nat) (L : List Int), k ≤ 12 ∧ i = .int .i64 k ∧ Below w.heap.size w wr ∧ Blk wr w.heap.size R.arr 25 ∧ Tab wr t w.heap.size ∧ wr.ownsRow (w.heap.size + 1) 5 1 (.slice (some ⟨w.heap.size + 1, 0, none⟩) 512 512) 512 (u8s L) ∧ Hid (L.length = 512 ∧ (∀ x ∈ L, 0 ≤ x ∧ x ≤ 255) ∧ mkR R wide dev rowsD zeros = mkR R wide dev (rowsD.drop k) L)) (fun i _ => 12 - (intOf i).toNat)
  case atStart => exact ⟨0, _, by omega, rfl, hbw, hB1, htab, hown1, hid ⟨zeros_length, zeros_ok, rfl⟩⟩
  case round =>
    clear hB1 htab hbw hown1
    obtain ⟨k, L, hk, rfl, hbr, hB1, htab, hown, hr⟩ := hrel
    by_cases hlt : k < 12
    · obtain ⟨r, hmem, hd, c0, c1, c2, c3, c4, c5⟩ := htab.row k hlt
      obtain ⟨p1, p2, p3, p4, p5, p6, p7⟩ := row_places r hmem
      obtain ⟨tx, hgx⟩ : ∃ tx, tx = (if r.txt then some (⟨w.heap.size, r.fld, none⟩ : Addr) else none) := ⟨_, rfl⟩
      obtain ⟨nm, hgn⟩ : ∃ nm, nm = (if r.txt then none else some (⟨w.heap.size, r.fld, none⟩ : Addr)) := ⟨_, rfl⟩
      rw [← hgx] at c4
      rw [← hgn] at c5
      have hbytes : ∀ w', Blk w' w.heap.size R.arr 25 → Calls Try.prog 40 #[rowV r.st r.wd r.inn r.id tx nm, .bool wide] w' fun e w'' => ∃ a m c, e = .returned (.tuple #[.slice a m c, .int .u8 (fldC R wide r)]) ∧ Bys w'' a m c (fldL R wide r) ∧ Below w'.heap.size w' w'' := by
        intro w' hB
        unfold fldC fldL
        cases ht : r.txt
        · rw [ht] at hgx hgn
          subst hgx hgn
          exact bytes_num w' r.st r.wd r.inn r.id w.heap.size r.fld (R.N r.fld) (hRok.out.2.2.2 _).1 (hRok.out.2.2.2 _).2 ((hB.cell _).trans (R.num r hmem ht)) wide
        · rw [ht] at hgx hgn
          subst hgx hgn
          exact bytes_text w' r.st r.wd r.inn r.id w.heap.size r.fld (R.T r.fld) (by have := hRok.out.2.2.1 r.fld; omega) ((hB.cell _).trans (R.txt r hmem ht)) wide
      clear hgx hgn
      have hfresh := (Below.refl wr.heap.size wr).alloc (Nat.le_refl _) (.cells #[.int .i64 r.st, .int .i64 r.wd, .int .i64 r.inn, .int .i64 r.id, .pointer tx, .pointer nm] 65)
      have hbn := hbr.trans (hfresh.mono hbr.size)
      have hB1n := hB1.below hfresh
      have hm0 := hB1n.cell 0
      change _ = some (Value.int .i64 R.m) at hm0
      have htn := htab.below hfresh
      have hon := own_below hfresh hown
      have hin := fun w' => isIn_ok w' r.st r.wd r.inn r.id tx nm R.m dev
      have hof := fun w' => of_ok w' r.st r.wd r.inn r.id tx nm (b := w.heap.size + 1) (off := 0) (len := 512) (cap := 512) (by omega) (by omega) (by omega) (by omega)
      unfold rowV at hin hof hbytes
      rw [Nat.zero_add] at hof
      cases hi : isInB r.inn R.m dev
      · have E := hid (And.intro hr.out.1 (And.intro hr.out.2.1 (by rw [hr.out.2.2, hd.out, mkR_out R wide dev r _ L hi] : mkR R wide dev rowsD zeros = mkR R wide dev (rowsD.drop (k + 1)) L)))
        rw [hi] at hin
        clear hr hd hmem hi hof hbytes hown hB1 htab
        go_wp2_with (go_at_call 26; refine (hin _).mono ?_; rintro e w2 ⟨rfl, hb2⟩)
        go_roundw
        case rel => exact ⟨k + 1, L, by omega, by go_num, hbn.trans (hb2.mono hbn.size), hB1n.below hb2, htn.below hb2, own_below hb2 hon, E⟩
        case measure => simp [intOf]; omega
      · rw [hi] at hin
        by_cases hcz : fldC R wide r = 0
        · have hfl := hid (fldL_length hRok.out hmem hcz)
          have hrg := hid (fldL_range R wide r)
          have E := hid (And.intro (layB_length L r.st (fldL R wide r) (by rw [hfl.out, hr.out.1]; omega) |>.trans hr.out.1) (And.intro (layB_range L r.st _ hr.out.2.1 hrg.out) (by rw [hr.out.2.2, hd.out, mkR_lay R wide dev r _ L hi hcz] : mkR R wide dev rowsD zeros = mkR R wide dev (rowsD.drop (k + 1)) (layB L r.st (fldL R wide r)))))
          rw [hcz] at hbytes
          have hLl := hid hr.out.1
          generalize fldL R wide r = F at *
          clear hr hd hmem hi hcz hown hB1 htab
          go_wp2_with (first
            | (go_at_call 26; refine (hin _).mono ?_; rintro e w2 ⟨rfl, hb2⟩; obtain ⟨d0, d1, d2, d3, d4, d5⟩ := row_cells hb2; replace hbn := hbn.trans (hb2.mono hbn.size); replace hB1n := hB1n.below hb2; replace htn := htn.below hb2; replace hon := own_below hb2 hon; clear hb2)
            | (go_at_call 40; refine (hbytes _ hB1n).mono ?_; rintro e w3 ⟨a, m, c, rfl, hby, hb3⟩; replace d0 := cell_later hb3 d0; replace d1 := cell_later hb3 d1; replace d2 := cell_later hb3 d2; replace d3 := cell_later hb3 d3; replace d4 := cell_later hb3 d4; replace d5 := cell_later hb3 d5; replace hbn := hbn.trans (hb3.mono hbn.size); replace hB1n := hB1n.below hb3; replace htn := htn.below hb3; replace hon := own_below hb3 hon; clear hb3)
            | (go_at_call 28; refine (hof _).mono ?_; rintro e w4 ⟨rfl, hb4⟩; replace hby := hby.below hb4; replace hbn := hbn.trans (hb4.mono hbn.size); replace hB1n := hB1n.below hb4; replace htn := htn.below hb4; replace hon := own_below hb4 hon; clear hb4 d0 d1 d2 d3 d4 d5; obtain ⟨bb, oo, rfl⟩ := hby.some_of (by have := hby.1; rw [hfl.out] at this; omega); have hmm : m = r.wd := (by have := hby.1; rw [hfl.out] at this; exact this.symm); subst hmm))
          obtain ⟨w5, hcopy, hown5, hgrow5⟩ := run_copy_at (P := Try.prog) w4 (dT := 22) (sT := 22) (ty := 3) (o := r.st) (dLen := r.wd) (dCap := 512 - r.st) Try.underlying22 size5 hon hLl.out hby r.wd (Nat.min_self _).symm (by omega)
          rw [hcopy]
          simp only [Result.andThen]
          rw [Oper.upon_value]
          rw [layB_is L r.st F r.wd hfl.out] at hown5
          replace hB1n := hB1n.grown hgrow5 (by omega)
          replace htn := htn.grown hgrow5 (by omega)
          replace hbn := hbn.grown hgrow5 hbn.size (by intro q hq; cases hq; omega)
          clear hcopy hon hgrow5 hby hof hin hbytes
          go_wp2
          go_roundw
          case rel => exact ⟨k + 1, _, by omega, by go_num, hbn, hB1n, htn, hown5, E⟩
          case measure => simp [intOf]; omega
        · have E := hid (by rw [hr.out.2.2, hd.out, mkR_bad R wide dev r _ L hi hcz] : mkR R wide dev rowsD zeros = (fldC R wide r, []))
          have hcz' : (fldC R wide r != 0) = true := by simp [hcz]
          have hcz2 := hid hcz
          generalize fldC R wide r = C at *
          clear hr hd hmem hi hcz hown hB1 htab hof
          go_wp2_with (first
            | (go_at_call 26; refine (hin _).mono ?_; rintro e w2 ⟨rfl, hb2⟩; obtain ⟨d0, d1, d2, d3, d4, d5⟩ := row_cells hb2; replace hbn := hbn.trans (hb2.mono hbn.size); replace hB1n := hB1n.below hb2; clear hb2)
            | (go_at_call 40; refine (hbytes _ hB1n).mono ?_; rintro e w3 ⟨a, m, c, rfl, hby, hb3⟩))
          all_goals go_ret2
          all_goals exact ⟨none, 0, 0, ret_vc (by rw [E.out]), by rw [E.out, resB, if_neg hcz2.out]; exact Bys.mk0 (by omega), hbn.trans (hb3.mono hbn.size)⟩
    · have E := hid (by rw [hr.out.2.2, List.drop_eq_nil_iff.mpr (by show 12 ≤ k; omega), mkR_nil] : mkR R wide dev rowsD zeros = (0, L))
      have hL := hid hr.out.1
      have hLr := hid hr.out.2.1
      obtain rfl : k = 12 := by omega
      have hx1' := hB1.cell 1
      change _ = some (Value.int .u8 R.x) at hx1'
      obtain ⟨hcell, hfrz, hst1⟩ := row_store (j := 156) R.x hL.out (by omega) hown
      have hst := hid hst1
      have hbs := hbr.setCell (p := ⟨w.heap.size + 1, 156, none⟩) (by simp) (.int .u8 R.x)
      have hL2 : Hid ((L.set 156 R.x).length = 512) := hid (by rw [List.length_set]; exact hL.out)
      clear hr htab hst1 hown
      have hlr : Hid ((rawB R L).length = 512 ∧ ∀ x ∈ rawB R L, 0 ≤ x ∧ x ≤ 255) := hid ⟨rawB_length R L hL.out hm.out, layB_range _ _ _ (set_range _ _ _ hLr.out hx0 hx1) (nums_range _)⟩
      go_wp2
      obtain ⟨w6, hcopy, hown6, hgrow6⟩ := run_copy_str_at (P := Try.prog) (wr.setCell ⟨w.heap.size + 1, 156, none⟩ (.int .u8 R.x)) (dT := 22) (sT := 9) (ty := 3) (o := 257) (dLen := 8) (dCap := 255) Try.underlying22 size5 hst.out hL2.out (markS R.m) (by rw [hms.out]; omega) (by rw [hms.out]; omega)
      rw [hcopy]
      simp only [Result.andThen]
      rw [Oper.upon_value]
      have hb6 := hbs.grown hgrow6 hbs.size (by intro q hq; cases hq; simp)
      have hby6 : Bys w6 (some ⟨w.heap.size + 1, 0, none⟩) 512 512 (rawB R L) := own_row512 hown6 hlr.out.1 hlr.out.2
      clear hcopy hown6 hgrow6 hst hcell hfrz hB1 hbs
      go_wp2_with (go_at_call 41; refine (seal_ok hby6 rfl).mono ?_; rintro e w7 ⟨g, c, rfl, hown7, hb7⟩)
      all_goals go_ret2
      all_goals exact ⟨_, _, _, ret_vc (by rw [E.out]), by rw [E.out, resB, if_pos rfl]; exact own_row512 hown7 (seal_length _ hlr.out.1) (seal_range _ hlr.out.2), hb6.trans (hb7.mono hb6.size)⟩
theorem make_any (w : World) (R : RawV) (hR : R.ok) (wide dev : Bool) :
    Calls Try.prog 18 #[.agg R.arr, .bool wide, .bool dev] w fun e w' => ∃ a m c, e = .returned (.tuple #[.slice a m c, .int .u8 (makeC R wide dev)]) ∧ Bys w' a m c (makeL R wide dev) ∧ Below w.heap.size w w' := by
  unfold makeL makeC
  by_cases h : 0 ≤ R.m ∧ R.m ≤ 2
  · rw [if_neg (by simpa using h)]
    cases hf : flagB R.x
    · rw [if_pos rfl, if_neg (by omega)]
      refine (make_flag w R hR wide dev h hf).mono ?_
      rintro e w' ⟨rfl, hb⟩
      exact ⟨none, 0, 0, rfl, Bys.mk0 (by omega), hb⟩
    · rw [if_neg (by simp)]
      exact make_rest w R hR wide dev h hf
  · rw [if_pos h, if_neg (by omega)]
    refine (make_arg w R wide dev h).mono ?_
    rintro e w' ⟨rfl, hb⟩
    exact ⟨none, 0, 0, rfl, Bys.mk0 (by omega), hb⟩
end Go.Proofs.Ytgjbopbpekocpaa
