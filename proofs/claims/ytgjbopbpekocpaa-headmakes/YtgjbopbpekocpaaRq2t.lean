/-
  THE DOCUMENT's Make OF A HEADER: a header of the mark 2. Conditions: that the numbers are 64 bits wide, a flag is a byte, and the texts have at most 3000 bytes each.
-/
import Derived.Test.YtgjbopbpekocpaaRp
namespace Go.Proofs.Ytgjbopbpekocpaa
open Go.ChangeShapes Go.WideShapes Go.ChangeAt Go.RowKit
set_option linter.unusedVariables false
set_option maxRecDepth 20000

set_option maxHeartbeats 40000000 in
theorem rmake_rest2t (w : World) (R : RawV) (hR : R.ok) (wide : Bool) (hM : R.m = 2) (hf : flagB R.x = true) :
    Calls Try.prog 19 #[.agg R.rarr, .bool wide, .bool true] w fun e w' => ∃ a m c, e = .returned (.tuple #[.slice a m c, .int .i64 (mkR R wide true rowsD (rawB R zeros)).1]) ∧ Bys w' a m c (resD (mkR R wide true rowsD (rawB R zeros))) ∧ Below w.heap.size w w' := by
  obtain ⟨i0, hi, hz0, hz1, hz2⟩ := info_parts Try.info5
  have h : 0 ≤ R.m ∧ R.m ≤ 2 := by omega
  have hb := (Below.refl w.heap.size w).alloc (Nat.le_refl _) (.cells R.rarr 32)
  have hBk := Blk.new w R.rarr 32
  have hfl := fun w => known_ok w R.x hR.1 hR.2.1
  rw [hf] at hfl
  have hm := hid h
  have hM2 := hid hM
  have h0 : ¬ R.m < 0 := by omega
  have h2 : ¬ 2 < R.m := by omega
  clear h hf hM
  have hRok := hid hR
  obtain ⟨hx0, hx1, -, -⟩ := hR
  have hA : Hid (R.rarr = #[.int .i64 R.m, .int .u8 R.x, .string (R.T 2), .string (R.T 3), .string (R.T 5), .string (R.T 6), .string (R.T 4), .int .i64 (R.N 7), .int .i64 (R.N 8), .int .i64 (R.N 9), .int .i64 (R.N 10), .int .i64 (R.N 11), .int .i64 (R.N 12), .int .i64 (R.N 13)]) := hid rfl
  have htx := fun w => texts_ok w
  have hnx := fun w => numbers_ok w
  unfold textsV at htx
  unfold numbersV at hnx
  rw [hA.out]
  rw [hA.out] at hb hBk
  go_enter Try.func19, Try.ntmps19
  go_upto_if 38 with (first
    | (go_at_call 31; refine (hfl _).mono ?_; rintro e w' ⟨hw, rfl⟩; obtain rfl := hw.symm)
    | (refine wpList_make_full _ rfl (.const (.int .i64 512)) (.const (.int .i64 512)) 22 rfl (w.heap.size + 1) 5 i0 (.int .u8 0) 1 Try.underlying22 hi hz0 hz1 _ _ _ _ 512 rfl rfl rfl rfl (by rw [hz2]; omega) (by unfold maxLen; omega) (by simp) ?_; intro w1 hown hgrow; (have hown1 : w1.ownsRow (w.heap.size + 1) 5 1 (.slice (some ⟨w.heap.size + 1, 0, none⟩) 512 512) 512 (u8s zeros) := (by rw [Nat.mul_one, madeBytes'] at hown; simpa [zeros] using hown)); (have hB1 : Blk w1 w.heap.size R.rarr 32 := (by have hl := hBk.lt; rw [hA.out]; unfold Blk at hBk ⊢; rw [hgrow.block _ hl (by simp)]; exact hBk)); have hbw1 := hb.grown hgrow hb.size (by simp); (have hst : w.heap.size + 1 < w1.heap.size := (hown1.lt _ rfl).2); obtain ⟨hcell, hfrz, hst1⟩ := row_store (j := 156) R.x zeros_length (by omega) hown1; have hst1 := hid hst1; have e1 := hB1.cell 1; change _ = some (Value.int .u8 R.x) at e1; (have hB2 : Blk (w1.setCell ⟨w.heap.size + 1, 156, none⟩ (.int .u8 R.x)) w.heap.size R.rarr 32 := hB1.other (by omega) _); have e0 := hB2.cell 0; change _ = some (Value.int .i64 R.m) at e0; have hbw2 := hbw1.setCell (p := ⟨w.heap.size + 1, 156, none⟩) (by simp) (.int .u8 R.x); clear hown hgrow hB1 hbw1))
  go_cut [8] (fun v wc => v = .slice (some ⟨w.heap.size + 1, 0, none⟩) 512 512 ∧ Below w.heap.size w wc ∧ Blk wc w.heap.size R.rarr 32 ∧ wc.ownsRow (w.heap.size + 1) 5 1 (.slice (some ⟨w.heap.size + 1, 0, none⟩) 512 512) 512 (u8s (oneB R)))
  case first =>
    clear hcell hfrz e1 hA hBk hb hfl
    have hq : ¬ R.m = 1 := by have := hM2.out; omega
    have q1 : (R.m == 1) = false := by simpa using hq
    have hE : Hid (zeros.set 156 R.x = oneB R) := hid (by unfold oneB; rw [if_neg hq])
    clear hq
    go_wp2
    go_meet
    case rel => exact ⟨rfl, hbw2, hB2, by rw [← hE.out]; exact hst1.out⟩
  case rest =>
  obtain ⟨rfl, hbc, hBc, hoc⟩ := hcut
  clear hcell hfrz e1 hA hBk hb hfl hst1 hown1 hbw2 hB2 e0 hst
  have e0 := hBc.cell 0
  change _ = some (Value.int .i64 R.m) at e0
  go_upto_if 44 with (fail)
  go_cut [8] (fun v wd => v = .slice (some ⟨w.heap.size + 1, 0, none⟩) 512 512 ∧ Below w.heap.size w wd ∧ Blk wd w.heap.size R.rarr 32 ∧ wd.ownsRow (w.heap.size + 1) 5 1 (.slice (some ⟨w.heap.size + 1, 0, none⟩) 512 512) 512 (u8s (rawB R zeros)))
  case first =>
    have hq : R.m = 2 := hM2.out
    have q1 : (R.m == 2) = true := by rw [hq]; rfl
    have hE : Hid (layB (oneB R) 257 (nums ⟨#[117, 115, 116, 97, 114, 32, 32, 0]⟩) = rawB R zeros) := hid (by unfold oneB rawB; rw [if_neg (by omega), hq]; rfl)
    clear hq
    obtain ⟨w6, hcopy, hown6, hgrow6⟩ := run_copy_str_at (P := Try.prog) wc (dT := 22) (sT := 9) (ty := 3) (o := 257) (dLen := 255) (dCap := 255) Try.underlying22 size5 hoc (oneB_is R) ⟨#[117, 115, 116, 97, 114, 32, 32, 0]⟩ (by decide) (by decide)
    rw [hE.out] at hown6
    go_wp2
    go_meet
    case rel => exact ⟨rfl, hbc.grown hgrow6 hbc.size (by intro q hq; cases hq; simp), hBc.grown hgrow6 (by omega), hown6⟩
  case rest =>
  clear hbc hBc hoc e0
  obtain ⟨rfl, hbc, hBc, hoc⟩ := hcut
  have hstd : w.heap.size + 1 < wc.heap.size := (hoc.lt _ rfl).2
  have hfr := (Below.refl wc.heap.size wc).alloc (Nat.le_refl _) (.cells ordA 3)
  have hO := Blk.new wc ordA 3
  have hB1 := hBc.below hfr
  have hbw := hbc.trans (hfr.mono hbc.size)
  have how := own_below hfr hoc
  clear hbc hBc hoc hfr
  unfold ordA at hO hB1 hbw how
  go_wp2
  generalize ht : wc.heap.size = t at *
  clear ht
  go_loopw [10] (fun i wr => ∃ (k : Nat) (L : List Int), k ≤ 12 ∧ i = .int .i64 k ∧ Below w.heap.size w wr ∧ Blk wr w.heap.size R.rarr 32 ∧ Blk wr t ordA 3 ∧ wr.ownsRow (w.heap.size + 1) 5 1 (.slice (some ⟨w.heap.size + 1, 0, none⟩) 512 512) 512 (u8s L) ∧ Hid (L.length = 512 ∧ (∀ x ∈ L, 0 ≤ x ∧ x ≤ 255) ∧ mkR R wide true rowsD (rawB R zeros) = mkR R wide true (rowsD.drop k) L)) (fun i _ => 12 - (intOf i).toNat)
  case atStart => exact ⟨0, _, by omega, rfl, hbw, hB1, hO, how, hid ⟨rawB_length R zeros zeros_length hm.out, layB_range _ _ _ (set_range _ _ _ zeros_ok hx0 hx1) (nums_range _), rfl⟩⟩
  case round =>
    clear hB1 hO hbw how
    obtain ⟨k, L, hk, rfl, hbr, hB, hO, hown, hr⟩ := hrel
    by_cases hlt : k < 12
    · obtain ⟨r, v, i, hmem, hd, ha, hor⟩ := ord_row R k hlt
      have cO := (hO.cell k).trans ha
      have cM := hB.cell 0
      change _ = some (Value.int .i64 R.m) at cM
      have hki : (k : Int) < 12 := by omega
      have hwh := hid hor.which
      replace hor := hid hor
      clear hlt hk
      go_upto_region 16 with (fail)
      go_cut [12] from 49 to 162 (fun b wx => wx = wr ∧ ∃ lb, b = .bool lb ∧ Hid (lb = lateV v))
      case first =>
        have hc := hwh.out
        clear hwh hor cO cM hd ha hmem hr
        have hg := hid (ord_late hc)
        clear hc
        rcases hg.out with ⟨b1, b2, b3, b4, b5, -, hl⟩ | ⟨⟨rfl, -⟩ | ⟨rfl, -⟩ | ⟨rfl, -⟩ | ⟨rfl, -⟩ | ⟨rfl, -⟩⟩
        · replace hl := hid hl
          clear hg
          go_wp2
          go_meet
          case rel => exact ⟨rfl, _, rfl, hid (by rw [hl.out])⟩
        all_goals
          clear hg
          go_wp2
          go_meet
          case rel => exact ⟨rfl, _, rfl, hid rfl⟩
      case rest =>
      obtain ⟨hwx, lb, rfl, hlb⟩ := hcut
      obtain rfl := hwx.symm
      clear hwx
      go_upto_region 17 with (fail)
      go_cut [103] from 49 to 162 (fun b wx => wx = wr ∧ b = .bool (!isInB r.inn R.m true))
      case first =>
        have hc := hwh.out
        clear hwh hor cO hd ha hmem hr
        have hg := hid (ord_late hc)
        generalize r.inn = inn at *
        clear hc
        rcases hg.out with ⟨b1, b2, b3, b4, b5, rfl, hl⟩ | hlate
        · obtain rfl : lb = false := by rw [hlb.out]; exact hl
          clear hg hl hlb
          go_wp2
          go_meet
          case rel => exact ⟨rfl, rfl⟩
        obtain rfl : lb = true := by
          rw [hlb.out]
          rcases hlate with ⟨rfl, -⟩ | ⟨rfl, -⟩ | ⟨rfl, -⟩ | ⟨rfl, -⟩ | ⟨rfl, -⟩ <;> rfl
        clear hg hlb
        have q0 : (R.m == 0) = false := by rw [hM2.out]; rfl
        have q1 : (R.m != 1) = true := by rw [hM2.out]; rfl
        have hl2 : (((v == 104) = false ∧ (v == 5) = false ∧ (v == 6) = false) ∧ inn = 1) ∨ (v = 5 ∧ inn = 2) ∨ (v = 6 ∧ inn = 2) ∨ (v = 104 ∧ inn = 3) := by
          rcases hlate with ⟨rfl, rfl⟩ | ⟨rfl, rfl⟩ | h | h | h
          · exact .inl ⟨⟨rfl, rfl, rfl⟩, rfl⟩
          · exact .inl ⟨⟨rfl, rfl, rfl⟩, rfl⟩
          · exact .inr (.inl h)
          · exact .inr (.inr (.inl h))
          · exact .inr (.inr (.inr h))
        clear hlate
        rcases hl2 with ⟨⟨b3, b4, b5⟩, rfl⟩ | ⟨rfl, rfl⟩ | ⟨rfl, rfl⟩ | ⟨rfl, rfl⟩
        all_goals
          go_wp2
          go_meet
          case rel => exact ⟨rfl, by rw [hM2.out]; rfl⟩
      case rest =>
      obtain ⟨hwx, rfl⟩ := hcut
      obtain rfl := hwx.symm
      clear hwx hwh cO cM ha hlb
      obtain ⟨p1, p2, p3, p4, p5, p6, p7⟩ := row_places r hmem
      have hk12 : k < 12 := by omega
      cases hi : isInB r.inn R.m true
      · have E := hid (And.intro hr.out.1 (And.intro hr.out.2.1 (by rw [hr.out.2.2, hd.out, mkR_out R wide true r _ L hi] : mkR R wide true rowsD (rawB R zeros) = mkR R wide true (rowsD.drop (k + 1)) L)))
        clear hr hd hmem hor p1 p2 p3 p4 p5 p6 p7 hi
        go_wp2
        go_roundw
        case rel => exact ⟨k + 1, L, by omega, by go_num, hbr, hB, hO, hown, E⟩
        case measure => simp [intOf]; omega
      · have hL512 := hid hr.out.1
        have j0 : (0 : Int) ≤ (r.st : Int) := by omega
        have j1 : (r.st : Int) ≤ 512 := by omega
        have j2 : ¬ 512 = r.st := by omega
        have j3 : ¬ (512 : Int) = (r.st : Int) := by omega
        have j4 : (0 : Int) ≤ (i : Int) := by omega
        have hE0 : Hid ((fldC R wide r = 0 → (layB L r.st (fldL R wide r)).length = 512 ∧ (∀ x ∈ layB L r.st (fldL R wide r), 0 ≤ x ∧ x ≤ 255) ∧ mkR R wide true rowsD (rawB R zeros) = mkR R wide true (rowsD.drop (k + 1)) (layB L r.st (fldL R wide r))) ∧ (fldC R wide r ≠ 0 → mkR R wide true rowsD (rawB R zeros) = (fldC R wide r, []))) := hid ⟨fun hc => ⟨(layB_length L r.st (fldL R wide r) (by rw [fldL_length hRok.out hmem hc, hL512.out]; omega)).trans hL512.out, layB_range L r.st _ hr.out.2.1 (fldL_range R wide r), by rw [hr.out.2.2, hd.out, mkR_lay R wide true r _ L hi hc]⟩, fun hc => by rw [hr.out.2.2, hd.out, mkR_bad R wide true r _ L hi hc]⟩
        have hlen0 : fldC R wide r = 0 → (fldL R wide r).length = r.wd := fun hc => fldL_length hRok.out hmem hc
        clear p4 p5 p6 p7 hr hd hi
        cases ht : r.txt
        · obtain ⟨hv, hi7, ⟨s, d, hs1, hs2, hix⟩, hcell, h8⟩ := hor.out.num ht
          subst hs1 hs2
          have hv100 : ¬ (100 : Int) ≤ v := by omega
          have hv4 : (v != 4) = decide (r.id ≠ 8) := by
            rw [hv, Bool.eq_iff_iff]; simp [h8]; omega
          have ji : (i : Int) < 7 := by omega
          have hwd := row_num r hmem ht
          have hput := fun w' => rnput_any w' (R.N r.fld) (r.wd : Nat) wide (hRok.out.2.2.2 r.fld).1 (hRok.out.2.2.2 r.fld).2
          have hfC : fldC R wide r = numC r.id (R.N r.fld) r.wd wide := by unfold fldC; rw [ht]; rfl
          have hfL : fldL R wide r = numL r.id (R.N r.fld) r.wd wide := by unfold fldL; rw [ht]; rfl
          have hnc := hid (num_cases r.id (R.N r.fld) r.wd wide hwd.1 hwd.2)
          rw [hfC, hfL] at hE0
          rw [hfC, hfL] at hlen0
          have hlen0 := hid hlen0
          subst hv
          clear hfC hfL h8 hwd ht hmem hor
          generalize putC (R.N r.fld) r.wd wide = CC at *
          generalize putL (R.N r.fld) r.wd wide = F at *
          generalize numC r.id (R.N r.fld) r.wd wide = NC at *
          generalize numL r.id (R.N r.fld) r.wd wide = NL at *
          go_upto_region 25 with (go_at_call 37; refine (hnx _).mono ?_; rintro e w1 ⟨rfl, hb1⟩; have hfr := (Below.refl w1.heap.size w1).alloc (Nat.le_refl _) (.cells #[.int .i64 (r.st : Nat), .int .i64 (r.wd : Nat)] 68); have hPn := Blk.new w1 #[.int .i64 (r.st : Nat), .int .i64 (r.wd : Nat)] 68; have hbn := hbr.trans (hb1.mono hbr.size); replace hbn := hbn.trans (hfr.mono hbn.size); have hBn := (hB.below hb1).below hfr; have hOn := (hO.below hb1).below hfr; have hon := own_below hfr (own_below hb1 hown); have d0 := (hBn.cell (7 + i)).trans hcell; have d1 := hPn.cell 1; have d2 := hPn.cell 0; change _ = some (Value.int .i64 (r.wd : Nat)) at d1; change _ = some (Value.int .i64 (r.st : Nat)) at d2)
          go_cut [17, 18] from 49 to 162 (fun b c wx => ∃ a m cc, b = .slice a m cc ∧ c = .int .i64 CC ∧ Bys wx a m cc F ∧ Below w.heap.size w wx ∧ Blk wx w.heap.size R.rarr 32 ∧ Blk wx t ordA 3 ∧ wx.ownsRow (w.heap.size + 1) 5 1 (.slice (some ⟨w.heap.size + 1, 0, none⟩) 512 512) 512 (u8s L) ∧ wx.cell? ⟨w1.heap.size, 0, none⟩ = some (.int .i64 (r.st : Nat)))
          case first =>
            clear hB hO hown hbr hE0
            go_region_held3 (fun w' => w'.cell? ⟨w.heap.size, 7 + i, none⟩ = some (.int .i64 (R.N r.fld)) ∧ w'.cell? ⟨w1.heap.size, 1, none⟩ = some (.int .i64 (r.wd : Nat))) (go_keep)
              (first | (go_at_call 43; refine (hput _).mono ?_; rintro e w3 ⟨a, m, c, rfl, hby, hb3⟩; have f0 := cell_later (w := (w1.alloc (.cells #[.int .i64 (r.st : Nat), .int .i64 (r.wd : Nat)] 68)).drew) hb3 d0; have f1 := cell_later (w := (w1.alloc (.cells #[.int .i64 (r.st : Nat), .int .i64 (r.wd : Nat)] 68)).drew) hb3 d1; have f2 := cell_later (w := (w1.alloc (.cells #[.int .i64 (r.st : Nat), .int .i64 (r.wd : Nat)] 68)).drew) hb3 d2; have hBw := hbn.drew.trans (hb3.mono hbn.drew.size); have hB3 := Blk.below (w := (w1.alloc (.cells #[.int .i64 (r.st : Nat), .int .i64 (r.wd : Nat)] 68)).drew) hBn hb3; have hO3 := Blk.below (w := (w1.alloc (.cells #[.int .i64 (r.st : Nat), .int .i64 (r.wd : Nat)] 68)).drew) hOn hb3; have ho3 := own_below (w := (w1.alloc (.cells #[.int .i64 (r.st : Nat), .int .i64 (r.wd : Nat)] 68)).drew) hb3 hon))
            all_goals
              go_wp2
              go_meet
              case rel => exact ⟨_, _, _, rfl, rfl, hby, hBw, hB3, hO3, ho3, f2⟩
          case rest =>
          obtain ⟨a, m, cc, rfl, rfl, hby, hBw, hB3, hO3, ho3, f2⟩ := hcut
          have f0 := (hB3.cell (7 + i)).trans hcell
          clear hB hO hown hbr hfr hPn hbn hBn hOn hon d0 d1 d2 hb1 hput hix
          rcases hnc.out with ⟨hcz, hp0, hnl, hmay⟩ | ⟨hcz, hbad⟩
          · have hneg : R.N r.fld < 0 → ((i : Int) != 4) = false := by
              intro h1
              rw [hv4, decide_eq_false]
              rcases hmay with h2 | h2
              · omega
              · simpa using h2
            have hnl := hnl.symm
            subst hp0
            subst hnl
            have hlen0 := hlen0.out
            clear hnc hmay hv4
            have hlen := hid (hlen0 hcz)
            have E := hid (hE0.out.1 hcz)
            obtain ⟨bb, oo, rfl⟩ := hby.some_of (by have := hby.1; rw [hlen.out] at this; omega)
            have hmm : m = r.wd := by have := hby.1; rw [hlen.out] at this; exact this.symm
            subst hmm
            obtain ⟨w5, hcopy, hown5, hgrow5⟩ := run_copy_at (P := Try.prog) wc (dT := 22) (sT := 22) (ty := 3) (o := r.st) (dLen := 512 - r.st) (dCap := 512 - r.st) Try.underlying22 size5 ho3 hL512.out hby r.wd (Nat.min_eq_left (by omega)).symm (by omega)
            rw [layB_is L r.st F r.wd hlen.out] at hown5
            replace hB3 := hB3.grown hgrow5 (by omega)
            replace hO3 := hO3.grown hgrow5 (by omega)
            replace hBw := hBw.grown hgrow5 hBw.size (by intro q hq; cases hq; omega)
            clear ho3 hgrow5 hby hE0 hlen0
            clear hcz
            by_cases hn0 : R.N r.fld < 0
            · have hv4 := hneg hn0
              clear hneg
              go_wp2
              go_roundw
              case rel => exact ⟨k + 1, _, by omega, by go_num, hBw, hB3, hO3, hown5, E⟩
              case measure => simp [intOf]; omega
            · clear hneg
              go_wp2
              go_roundw
              case rel => exact ⟨k + 1, _, by omega, by go_num, hBw, hB3, hO3, hown5, E⟩
              case measure => simp [intOf]; omega
          · subst hcz
            have E := hid (hE0.out.2 (by decide))
            rcases hbad with hp5 | ⟨hp0, hn0, h9⟩
            · subst hp5
              clear hnc hv4 hE0 hlen0 hby ho3
              go_wp2
              go_ret2
              exact ⟨none, 0, 0, ret_vc (by rw [E.out]), by rw [E.out, resD, if_neg (by decide)]; exact Bys.mk0 (by omega), hBw⟩
            · subst hp0
              rw [decide_eq_true h9] at hv4
              clear hnc h9 hE0 hlen0 hby ho3
              go_wp2
              go_ret2
              exact ⟨none, 0, 0, ret_vc (by rw [E.out]), by rw [E.out, resD, if_neg (by decide)]; exact Bys.mk0 (by omega), hBw⟩
        · obtain ⟨hv, hi5, ⟨s, d, hs1, hs2, hix⟩, hcell⟩ := hor.out.txt ht
          subst hs1 hs2
          have hv100 : (100 : Int) ≤ v := by omega
          have hvw : IntKind.i64.wrap (v - 100) = (i : Int) := by rw [IntKind.wrap_i64]; omega
          have ji : (i : Int) < 5 := by omega
          have hput := fun w' => rtput_any (R.T r.fld) (by have := hRok.out.2.2.1 r.fld; omega) r.wd w'
          have hfC : fldC R wide r = tputC (R.T r.fld) r.wd := by unfold fldC; rw [ht]; rfl
          have hfL : fldL R wide r = txtL (R.T r.fld) r.wd := by unfold fldL; rw [ht]; rfl
          rw [hfC, hfL] at hE0
          rw [hfC, hfL] at hlen0
          have hlen0 := hid hlen0
          clear hfC hfL ht hmem hor hv
          generalize tputC (R.T r.fld) r.wd = CC at *
          generalize txtL (R.T r.fld) r.wd = F at *
          go_upto_region 20 with (go_at_call 32; refine (htx _).mono ?_; rintro e w1 ⟨rfl, hb1⟩; have hfr := (Below.refl w1.heap.size w1).alloc (Nat.le_refl _) (.cells #[.int .i64 (r.st : Nat), .int .i64 (r.wd : Nat)] 68); have hPn := Blk.new w1 #[.int .i64 (r.st : Nat), .int .i64 (r.wd : Nat)] 68; have hbn := hbr.trans (hb1.mono hbr.size); replace hbn := hbn.trans (hfr.mono hbn.size); have hBn := (hB.below hb1).below hfr; have hOn := (hO.below hb1).below hfr; have hon := own_below hfr (own_below hb1 hown); have d0 := (hBn.cell (2 + i)).trans hcell; have d1 := hPn.cell 1; have d2 := hPn.cell 0; change _ = some (Value.int .i64 (r.wd : Nat)) at d1; change _ = some (Value.int .i64 (r.st : Nat)) at d2)
          go_cut [14, 15] from 49 to 162 (fun b c wx => ∃ a m cc, b = .slice a m cc ∧ c = .int .i64 CC ∧ Bys wx a m cc F ∧ Below w.heap.size w wx ∧ Blk wx w.heap.size R.rarr 32 ∧ Blk wx t ordA 3 ∧ wx.ownsRow (w.heap.size + 1) 5 1 (.slice (some ⟨w.heap.size + 1, 0, none⟩) 512 512) 512 (u8s L) ∧ wx.cell? ⟨w1.heap.size, 0, none⟩ = some (.int .i64 (r.st : Nat)))
          case first =>
            clear hB hO hown hbr hE0
            go_region_held3 (fun w' => w'.cell? ⟨w.heap.size, 2 + i, none⟩ = some (.string (R.T r.fld)) ∧ w'.cell? ⟨w1.heap.size, 1, none⟩ = some (.int .i64 (r.wd : Nat))) (go_keep)
              (first | (go_at_call 42; refine (hput _).mono ?_; rintro e w3 ⟨a, m, c, rfl, hby, hb3⟩; have f0 := cell_later (w := (w1.alloc (.cells #[.int .i64 (r.st : Nat), .int .i64 (r.wd : Nat)] 68)).drew) hb3 d0; have f1 := cell_later (w := (w1.alloc (.cells #[.int .i64 (r.st : Nat), .int .i64 (r.wd : Nat)] 68)).drew) hb3 d1; have f2 := cell_later (w := (w1.alloc (.cells #[.int .i64 (r.st : Nat), .int .i64 (r.wd : Nat)] 68)).drew) hb3 d2; have hBw := hbn.drew.trans (hb3.mono hbn.drew.size); have hB3 := Blk.below (w := (w1.alloc (.cells #[.int .i64 (r.st : Nat), .int .i64 (r.wd : Nat)] 68)).drew) hBn hb3; have hO3 := Blk.below (w := (w1.alloc (.cells #[.int .i64 (r.st : Nat), .int .i64 (r.wd : Nat)] 68)).drew) hOn hb3; have ho3 := own_below (w := (w1.alloc (.cells #[.int .i64 (r.st : Nat), .int .i64 (r.wd : Nat)] 68)).drew) hb3 hon))
            all_goals
              go_wp2
              go_meet
              case rel => exact ⟨_, _, _, rfl, rfl, hby, hBw, hB3, hO3, ho3, f2⟩
          case rest =>
          obtain ⟨a, m, cc, rfl, rfl, hby, hBw, hB3, hO3, ho3, f2⟩ := hcut
          have f0 := (hB3.cell (2 + i)).trans hcell
          clear hB hO hown hbr hfr hPn hbn hBn hOn hon d0 d1 d2 hb1 hput hix
          by_cases hcz : CC = 0
          · have hlen0 := hlen0.out
            have hlen := hid (hlen0 hcz)
            have E := hid (hE0.out.1 hcz)
            obtain ⟨bb, oo, rfl⟩ := hby.some_of (by have := hby.1; rw [hlen.out] at this; omega)
            have hmm : m = r.wd := by have := hby.1; rw [hlen.out] at this; exact this.symm
            subst hmm
            obtain ⟨w5, hcopy, hown5, hgrow5⟩ := run_copy_at (P := Try.prog) wc (dT := 22) (sT := 22) (ty := 3) (o := r.st) (dLen := 512 - r.st) (dCap := 512 - r.st) Try.underlying22 size5 ho3 hL512.out hby r.wd (Nat.min_eq_left (by omega)).symm (by omega)
            rw [layB_is L r.st F r.wd hlen.out] at hown5
            replace hB3 := hB3.grown hgrow5 (by omega)
            replace hO3 := hO3.grown hgrow5 (by omega)
            replace hBw := hBw.grown hgrow5 hBw.size (by intro q hq; cases hq; omega)
            clear ho3 hgrow5 hby hE0 hlen0
            subst hcz
            go_wp2
            go_roundw
            case rel => exact ⟨k + 1, _, by omega, by go_num, hBw, hB3, hO3, hown5, E⟩
            case measure => simp [intOf]; omega
          · have E := hid (hE0.out.2 hcz)
            have hcz' : (CC != 0) = true := by simpa using hcz
            have hcz2 := hid hcz
            clear hE0 hlen0 hby ho3 hcz
            go_wp2
            go_ret2
            exact ⟨none, 0, 0, ret_vc (by rw [E.out]), by rw [E.out, resD, if_neg hcz2.out]; exact Bys.mk0 (by omega), hBw⟩
    · have E := hid (by rw [hr.out.2.2, List.drop_eq_nil_iff.mpr (by show 12 ≤ k; omega), mkR_nil] : mkR R wide true rowsD (rawB R zeros) = (0, L))
      have hL := hid hr.out.1
      have hLr := hid hr.out.2.1
      obtain rfl : k = 12 := by omega
      have hby := own_row512 hown hL.out hLr.out
      clear hr hown hk hlt
      go_wp2_with (go_at_call 21; refine (rseal_ok hby rfl).mono ?_; rintro e w7 ⟨g, c, rfl, hown7, hb7⟩)
      all_goals go_ret2
      all_goals exact ⟨_, _, _, ret_vc (by rw [E.out]), by rw [E.out, resD, if_pos rfl]; exact own_row512 hown7 (seal_length _ hL.out) (seal_range _ hLr.out), hbr.trans (hb7.mono hbr.size)⟩

end Go.Proofs.Ytgjbopbpekocpaa
