/-
  WHAT Get GETS OF A HEADER. Conditions: 512 bytes that can be read.
-/
import Derived.Test.YtgjbopbpekocpaaGe
import Derived.Deep.RegionHeld3
namespace Go.Proofs.Ytgjbopbpekocpaa
open Go.ChangeShapes Go.WideShapes Go.ChangeAt Go.RowKit
set_option linter.unusedVariables false
set_option maxRecDepth 20000

/-- mark and flag alone -/
def raw0 (mk x : Int) : Array Value := #[.int .i64 mk, .int .u8 x, .string ⟨#[]⟩, .string ⟨#[]⟩, .string ⟨#[]⟩, .string ⟨#[]⟩, .string ⟨#[]⟩, .int .i64 0, .int .i64 0, .int .i64 0, .int .i64 0, .int .i64 0, .int .i64 0, .int .i64 0]

/-- one row's text is got -/
def layT (l : List Int) (mk : Int) (cs : Array Value) (r : RowD) : Array Value := if r.txt && isInB r.inn mk false then cs.setIfInBounds r.fld (.string (strOfNums (upto (fieldL l r.st r.wd)))) else cs

/-- what Get gets -/
def rawG (l : List Int) (mk x : Int) : Array Value := rowsD.foldl (layT l mk) (raw0 mk x)

theorem row_cells {wr w2 : World} {a0 a1 a2 a3 a4 a5 : Value} (hb : Below (wr.alloc (.cells #[a0, a1, a2, a3, a4, a5] 65)).heap.size (wr.alloc (.cells #[a0, a1, a2, a3, a4, a5] 65)) w2) :
    w2.cell? ⟨wr.heap.size, 0, none⟩ = some a0 ∧ w2.cell? ⟨wr.heap.size, 1, none⟩ = some a1 ∧ w2.cell? ⟨wr.heap.size, 2, none⟩ = some a2 ∧ w2.cell? ⟨wr.heap.size, 3, none⟩ = some a3 ∧ w2.cell? ⟨wr.heap.size, 4, none⟩ = some a4 ∧ w2.cell? ⟨wr.heap.size, 5, none⟩ = some a5 := by
  have h := (Blk.new wr #[a0, a1, a2, a3, a4, a5] 65).below hb
  exact ⟨h.cell 0, h.cell 1, h.cell 2, h.cell 3, h.cell 4, h.cell 5⟩

/-- a text of a header, if its mark has it -/
def gt (b : Bool) (l : List Int) (st wd : Nat) : ByteArray := if b then strOfNums (upto (fieldL l st wd)) else ⟨#[]⟩

/-- mark, flag and texts of a header, as Get gets them -/
def rawL (l : List Int) (mk x : Int) : Array Value := #[.int .i64 mk, .int .u8 x, .string (gt true l 0 100), .string (gt true l 157 100), .string (gt (isInB 3 mk false) l 345 155), .string (gt (isInB 1 mk false) l 265 32), .string (gt (isInB 1 mk false) l 297 32), .int .i64 0, .int .i64 0, .int .i64 0, .int .i64 0, .int .i64 0, .int .i64 0, .int .i64 0]
def rawE (l : List Int) : Array Value := rawL l (markL (fieldL l 257 8)) (l.getD 156 0)

theorem rawG_eq (l : List Int) (mk x : Int) : rawG l mk x = rawL l mk x := by
  unfold rawG rowsD rawL
  simp only [List.foldl, layT]
  cases isInB 1 mk false <;> cases isInB 3 mk false <;> rfl

theorem start2 (w : World) (mk x : Int) : Blk ((w.alloc (.cells rawZ 25)).alloc (.cells (raw0 mk x) 25)).drew w.heap.size rawZ 25 ∧ Blk ((w.alloc (.cells rawZ 25)).alloc (.cells (raw0 mk x) 25)).drew (w.heap.size + 1) (raw0 mk x) 25 ∧ Below w.heap.size w ((w.alloc (.cells rawZ 25)).alloc (.cells (raw0 mk x) 25)).drew := by
  have hb := (Below.refl w.heap.size w).alloc (Nat.le_refl _) (.cells rawZ 25)
  refine ⟨(Blk.new w rawZ 25).below ((Below.refl _ _).alloc (Nat.le_refl _) _).drew, ?_, (hb.alloc hb.size _).drew⟩
  have h : Blk ((w.alloc (.cells rawZ 25)).alloc (.cells (raw0 mk x) 25)) (w.alloc (.cells rawZ 25)).heap.size (raw0 mk x) 25 := Blk.new _ _ _
  rw [show (w.alloc (.cells rawZ 25)).heap.size = w.heap.size + 1 by simp] at h
  exact h

set_option maxHeartbeats 2000000 in
theorem get_good {w : World} {b off n c : Nat} {l : List Int} (h : Bys w (some ⟨b, off, none⟩) n c l) (h5 : n = 512) (hz : chk l = 0) (hf : flagB (l.getD 156 0) = true) :
    Calls Try.prog 8 #[.slice (some ⟨b, off, none⟩) n c] w fun e w' => e = .returned (.tuple #[.agg (rawE l), .int .u8 0]) ∧ Below w.heap.size w w' := by
  have hb := (Below.refl w.heap.size w).alloc (Nat.le_refl _) (.cells rawZ 25)
  have hck := check_ok (h.below hb) h5
  have hn : (265 : Int) < n := by omega
  have hn1 : (156 : Int) < n := by omega
  have hc1 := h.2.1
  have hc2 := h.2.2.1
  have hn2 : (265 : Int) ≤ c := by omega
  have hn3 : (n : Int) ≤ c := by omega
  have hn4 : (c : Int) ≤ 9223372036854775807 := by omega
  have hn5 : ¬ c = 257 := by omega
  have hn6 : 512 ≤ n := by omega
  obtain ⟨hcl, hr0, hr1⟩ := (h.below hb).at 156 (by omega)
  have hlt : b < w.heap.size := blk_lt (h.at 156 (by omega)).1
  have hfl := fun w => isFlag_ok _ hr0 hr1 w
  have hmk := fun w' (hb : Below w.heap.size w w') => markOf_ok ((h.below hb).part 257 8 (by omega))
  have hp := fun w' (hb : Below w.heap.size w w') (st wd : Nat) (hn : st + wd ≤ n) => tget_walk ((h.below hb).part st wd hn)
  rw [hf] at hfl
  rw [hz] at hck
  clear h h5 hz hf
  unfold rawE
  generalize l.getD 156 0 = x at *
  generalize markL (fieldL l 257 8) = mk at *
  unfold rawZ at *
  obtain ⟨s2, hs2⟩ : ∃ s, s = gt true l 0 100 := ⟨_, rfl⟩
  obtain ⟨s3, hs3⟩ : ∃ s, s = gt true l 157 100 := ⟨_, rfl⟩
  obtain ⟨s4, hs4⟩ : ∃ s, s = gt (isInB 3 mk false) l 345 155 := ⟨_, rfl⟩
  obtain ⟨s5, hs5⟩ : ∃ s, s = gt (isInB 1 mk false) l 265 32 := ⟨_, rfl⟩
  obtain ⟨s6, hs6⟩ : ∃ s, s = gt (isInB 1 mk false) l 297 32 := ⟨_, rfl⟩
  have hG : Hid (rawG l mk x = #[.int .i64 mk, .int .u8 x, .string s2, .string s3, .string s4, .string s5, .string s6, .int .i64 0, .int .i64 0, .int .i64 0, .int .i64 0, .int .i64 0, .int .i64 0, .int .i64 0]) := hid (by rw [rawG_eq, hs2, hs3, hs4, hs5, hs6]; rfl)
  unfold rawL
  rw [← hs2, ← hs3, ← hs4, ← hs5, ← hs6]
  clear hs2 hs3 hs4 hs5 hs6
  go_enter Try.func8, Try.ntmps8
  go_upto_region 6 with (first
    | (go_at_call 22; refine hck.mono ?_; rintro e w' ⟨hw, rfl⟩; obtain rfl := hw.symm)
    | (go_at_call 23; refine (hfl _).mono ?_; rintro e w' ⟨hw, rfl⟩; obtain rfl := hw.symm))
  go_cut [5] (fun p wc => p = .pointer (some ⟨w.heap.size + 1, 0, none⟩) ∧ Blk wc w.heap.size rawZ 25 ∧ Blk wc (w.heap.size + 1) (raw0 mk x) 25 ∧ Below w.heap.size w wc)
  case first =>
    go_region_held3 (fun w' => w'.cell? ⟨b, off + 156, none⟩ = some (.int .u8 x)) (go_keep) (first | (go_at_call 24; refine (hmk _ ?_).mono ?_; (first | exact hb.drew | exact hb.drew.alloc hb.drew.size _ | exact (hb.alloc hb.size _).drew); rintro e w' ⟨hw, rfl⟩; obtain rfl := hw.symm))
    all_goals
      go_wp2
      go_meet
      case rel => exact ⟨rfl, start2 w mk x⟩
  case rest =>
    obtain ⟨rfl, hB0, hB1, hbc⟩ := hcut
    clear hck hcl hfl hmk hb hr0 hr1
    have hs1 := hB1.lt
    go_wp2_with (go_at_call 25; refine (fields_ok _ _).mono ?_; rintro e w1 ⟨rfl, htab, hb1⟩)
    have hbw := hbc.trans (hb1.mono hbc.size)
    replace hB0 := hB0.below hb1
    replace hB1 := hB1.below hb1
    generalize ht : wc.heap.size = t at *
    clear ht hb1 hbc
    go_loopw [29] (fun i wr => ∃ (k : Nat) (cs : Array Value), k ≤ 12 ∧ i = .int .i64 k ∧ Below w.heap.size w wr ∧ Blk wr w.heap.size rawZ 25 ∧ Blk wr (w.heap.size + 1) cs 25 ∧ Tab wr t (w.heap.size + 1) ∧ cs.size = 14 ∧ cs[0]? = some (.int .i64 mk) ∧ Hid (rawG l mk x = (rowsD.drop k).foldl (layT l mk) cs)) (fun i _ => 12 - (intOf i).toNat)
    case atStart => exact ⟨0, _, by omega, rfl, hbw, hB0, hB1, htab, rfl, rfl, hid rfl⟩
    case round =>
      clear hB0 hB1 htab hbw
      obtain ⟨k, cs, hk, rfl, hbr, hB0, hB1, htab, hsz, hc0, hr⟩ := hrel
      by_cases hlt : k < 12
      · obtain ⟨r, hmem, hd, c0, c1, c2, c3, c4, c5⟩ := htab.row k hlt
        obtain ⟨p1, p2, p3, p4, p5, p6, p7⟩ := row_places r hmem
        have hfresh := (Below.refl wr.heap.size wr).alloc (Nat.le_refl _) (.cells #[.int .i64 r.st, .int .i64 r.wd, .int .i64 r.inn, .int .i64 r.id, .pointer (if r.txt then some ⟨w.heap.size + 1, r.fld, none⟩ else none), .pointer (if r.txt then none else some ⟨w.heap.size + 1, r.fld, none⟩)] 65)
        have hbn := hbr.trans (hfresh.mono hbr.size)
        have hB0n := hB0.below hfresh
        have hB1n := hB1.below hfresh
        have htn := htab.below hfresh
        cases htx : r.txt
        · rw [htx] at c4 c5 hbn hB0n hB1n htn
          simp only [Bool.false_eq_true, if_false] at c4 c5 hbn hB0n hB1n htn
          have E : Hid (rawG l mk x = (rowsD.drop (k + 1)).foldl (layT l mk) cs) := hid (by rw [hr.out, hd.out, List.foldl_cons, layT, htx]; rfl)
          clear hr hd hmem htx p1 p2 p3 p4 p5 p6 p7 hfresh
          go_wp2
          go_roundw
          case rel => exact ⟨k + 1, cs, by omega, by go_num, hbn, hB0n, hB1n, htn, hsz, hc0, E⟩
          case measure => simp [intOf]; omega
        · rw [htx] at c4 c5 hbn hB0n hB1n htn hfresh
          simp only [if_true] at c4 c5 hbn hB0n hB1n htn hfresh
          have hin := fun w' => isIn_ok w' r.st r.wd r.inn r.id (some ⟨w.heap.size + 1, r.fld, none⟩) none mk false
          have hof := fun w' => of_ok w' r.st r.wd r.inn r.id (some ⟨w.heap.size + 1, r.fld, none⟩) none (b := b) (off := off) (len := n) (cap := c) (by omega) hc1 hc2 (by omega)
          have hpp := fun w' hb => hp w' hb r.st r.wd (by omega)
          have hm0 := (hB1n.cell 0).trans hc0
          have p6' := p6 htx
          unfold rowV at hin hof
          cases hi : isInB r.inn mk false
          · have E : Hid (rawG l mk x = (rowsD.drop (k + 1)).foldl (layT l mk) cs) := hid (by rw [hr.out, hd.out, List.foldl_cons, layT, htx, hi]; rfl)
            rw [hi] at hin
            clear hr hd hmem htx hi hof hpp
            go_wp2_with (go_at_call 26; refine (hin _).mono ?_; rintro e w2 ⟨rfl, hb2⟩)
            go_roundw
            case rel => exact ⟨k + 1, cs, by omega, by go_num, hbn.trans (hb2.mono hbn.size), hB0n.below hb2, hB1n.below hb2, htn.below hb2, hsz, hc0, E⟩
            case measure => simp [intOf]; omega
          · have E : Hid (rawG l mk x = (rowsD.drop (k + 1)).foldl (layT l mk) (cs.setIfInBounds r.fld (.string (strOfNums (upto (fieldL l r.st r.wd)))))) := hid (by rw [hr.out, hd.out, List.foldl_cons, layT, htx, hi]; rfl)
            rw [hi] at hin
            generalize strOfNums (upto (fieldL l r.st r.wd)) = tx at *
            have hne1 : ¬ wr.heap.size = w.heap.size + 1 := by have := hB1.lt; omega
            have hne2 : ¬ w.heap.size + 1 = wr.heap.size := by have := hB1.lt; omega
            obtain ⟨old, hold⟩ : ∃ old, cs[r.fld]? = some old := ⟨cs[r.fld]'(by omega), by simp [hsz, p5]⟩
            clear hr hd hmem htx hi hp
            go_wp2_with (go_at_call 26; refine (hin _).mono ?_; rintro e w2 ⟨rfl, hb2⟩)
            obtain ⟨d0, d1, d2, d3, d4, d5⟩ := row_cells hb2
            replace hB0n := hB0n.below hb2
            replace hB1n := hB1n.below hb2
            replace htn := htn.below hb2
            replace hbn := hbn.trans (hb2.mono hbn.size)
            clear hb2 hfresh c0 c1 c2 c3 c4 c5 hin hB0 hB1 htab hbr hm0
            go_region_held3 (fun w' => w'.cell? ⟨wr.heap.size, 0, none⟩ = some (.int .i64 r.st) ∧ w'.cell? ⟨wr.heap.size, 1, none⟩ = some (.int .i64 r.wd) ∧ w'.cell? ⟨wr.heap.size, 2, none⟩ = some (.int .i64 r.inn) ∧ w'.cell? ⟨wr.heap.size, 3, none⟩ = some (.int .i64 r.id) ∧ w'.cell? ⟨wr.heap.size, 4, none⟩ = some (.pointer (some ⟨w.heap.size + 1, r.fld, none⟩)) ∧ w'.cell? ⟨wr.heap.size, 5, none⟩ = some (.pointer none)) (go_keep)
              (first
                | (go_at_call 28; refine (hof _).mono ?_; rintro e w3 ⟨rfl, hb3⟩; have f0 := cell_later hb3 d0; have f1 := cell_later hb3 d1; have f2 := cell_later hb3 d2; have f3 := cell_later hb3 d3; have f4 := cell_later hb3 d4; have f5 := cell_later hb3 d5; have hBw := hbn.drew.trans (hb3.mono hbn.drew.size); have hB1w : Blk w3 (w.heap.size + 1) cs 25 := Blk.below (w := w2.drew) hB1n hb3; have q1 := (hB1w.cell r.fld).trans hold; have q2 := hB1w.free r.fld)
                | (go_at_call 27; refine (hpp _ hBw).mono ?_; rintro e w' ⟨hw, rfl⟩; obtain rfl := hw.symm))
            clear q1 q2 f0 f1 f2 f3 f4 f5 hold hof hpp
            go_wp2
            go_roundw
            case rel => exact ⟨k + 1, _, by omega, by go_num, hBw.setCell (by simp) _, Blk.other (Blk.below (w := w2.drew) hB0n hb3) (by omega) _, hB1w.set _, Tab.other (Tab.below (w := w2.drew) htn hb3) (by omega) _, by simp [hsz], by rw [Array.getElem?_setIfInBounds_ne (by omega)]; exact hc0, E⟩
            case measure => simp [intOf]; omega
      · have E : Hid (rawG l mk x = cs) := hid (by rw [hr.out, List.drop_eq_nil_iff.mpr (by show 12 ≤ k; omega)]; rfl)
        rw [hG.out] at E
        obtain rfl : _ = cs := E.out
        clear E hG
        have e0 := hB1.cell 0
        have e1 := hB1.cell 1
        have e2 := hB1.cell 2
        have e3 := hB1.cell 3
        have e4 := hB1.cell 4
        have e5 := hB1.cell 5
        have e6 := hB1.cell 6
        have e7 := hB1.cell 7
        have e8 := hB1.cell 8
        have e9 := hB1.cell 9
        have e10 := hB1.cell 10
        have e11 := hB1.cell 11
        have e12 := hB1.cell 12
        have e13 := hB1.cell 13
        have z0 := hB0.cell 0
        have z1 := hB0.cell 1
        have z2 := hB0.cell 2
        have z3 := hB0.cell 3
        have z4 := hB0.cell 4
        have z5 := hB0.cell 5
        have z6 := hB0.cell 6
        have z7 := hB0.cell 7
        have z8 := hB0.cell 8
        have z9 := hB0.cell 9
        have z10 := hB0.cell 10
        have z11 := hB0.cell 11
        have z12 := hB0.cell 12
        have z13 := hB0.cell 13
        have y0 := fun i => hB0.free i
        unfold rawZ at z0 z1 z2 z3 z4 z5 z6 z7 z8 z9 z10 z11 z12 z13
        obtain rfl : k = 12 := by omega
        clear hr htab hsz hp hc0
        simp at e0 e1 e2 e3 e4 e5 e6 e7 e8 e9 e10 e11 e12 e13 z0 z1 z2 z3 z4 z5 z6 z7 z8 z9 z10 z11 z12 z13
        go_wp2
        refine bodyPost_ret (v := .tuple #[.agg #[.int .i64 mk, .int .u8 x, .string s2, .string s3, .string s4, .string s5, .string s6, .int .i64 0, .int .i64 0, .int .i64 0, .int .i64 0, .int .i64 0, .int .i64 0, .int .i64 0], .int .u8 0]) ?_ rfl ⟨rfl, ?_⟩
        · simp [results, Try.results8, go_sem, z0, z1, z2, z3, z4, z5, z6, z7, z8, z9, z10, z11, z12, z13]
        · exact (((((((((((((((hbr.setCell (Nat.le_refl _) _)).setCell (Nat.le_refl _) _).setCell (Nat.le_refl _) _).setCell (Nat.le_refl _) _).setCell (Nat.le_refl _) _).setCell (Nat.le_refl _) _).setCell (Nat.le_refl _) _).setCell (Nat.le_refl _) _).setCell (Nat.le_refl _) _).setCell (Nat.le_refl _) _).setCell (Nat.le_refl _) _).setCell (Nat.le_refl _) _).setCell (Nat.le_refl _) _).setCell (Nat.le_refl _) _)
end Go.Proofs.Ytgjbopbpekocpaa
