/-
  THE DOCUMENT's Get OF A HEADER. Conditions: 512 bytes that can be read.
-/
import Derived.Test.YtgjbopbpekocpaaRe
import Derived.Test.YtgjbopbpekocpaaGg
import Derived.Deep.RegionHeld3
namespace Go.Proofs.Ytgjbopbpekocpaa
open Go.ChangeShapes Go.WideShapes Go.ChangeAt Go.RowKit
set_option linter.unusedVariables false
set_option maxRecDepth 20000

/-- where the document's texts lie -/
def textsD : List (Nat × Nat × Nat) := [(0, 0, 100), (1, 157, 100), (2, 265, 32), (3, 297, 32), (4, 345, 155)]
def textsA : Array Value := #[.int .i64 0, .int .i64 100, .int .i64 157, .int .i64 100, .int .i64 265, .int .i64 32, .int .i64 297, .int .i64 32, .int .i64 345, .int .i64 155]

theorem text_place : ∀ k, k < 5 → ∃ st wd : Nat, textsD.drop k = (k, st, wd) :: textsD.drop (k + 1) ∧ textsA[k * 2]? = some (.int .i64 st) ∧ textsA[k * 2 + 1]? = some (.int .i64 wd) ∧ st + wd ≤ 500 ∧ 0 < wd := by
  intro k hk
  match k, hk with
  | 0, _ => exact ⟨0, 100, rfl, rfl, rfl, by omega, by omega⟩
  | 1, _ => exact ⟨157, 100, rfl, rfl, rfl, by omega, by omega⟩
  | 2, _ => exact ⟨265, 32, rfl, rfl, rfl, by omega, by omega⟩
  | 3, _ => exact ⟨297, 32, rfl, rfl, rfl, by omega, by omega⟩
  | 4, _ => exact ⟨345, 155, rfl, rfl, rfl, by omega, by omega⟩

/-- has a header of this mark the text? -/
def hasT (k : Nat) (mk : Int) : Bool := decide (k < 2) || mk == 1 || (mk == 2 && decide (k < 4))

def layR (l : List Int) (mk : Int) (cs : Array Value) (p : Nat × Nat × Nat) : Array Value := if hasT p.1 mk then cs.setIfInBounds (2 + p.1) (.string (strOfNums (upto (fieldL l p.2.1 p.2.2)))) else cs
def rrawG (l : List Int) (mk x : Int) : Array Value := textsD.foldl (layR l mk) (rraw0 mk x)

/-- mark, flag and texts as the document gets them -/
def rrawL (l : List Int) (mk x : Int) : Array Value := #[.int .i64 mk, .int .u8 x, .string (gt true l 0 100), .string (gt true l 157 100), .string (gt (isInB 1 mk false) l 265 32), .string (gt (isInB 1 mk false) l 297 32), .string (gt (isInB 3 mk false) l 345 155), .int .i64 0, .int .i64 0, .int .i64 0, .int .i64 0, .int .i64 0, .int .i64 0, .int .i64 0]
def rrawE (l : List Int) : Array Value := rrawL l (markL (fieldL l 257 8)) (l.getD 156 0)

theorem rrawG_eq (l : List Int) (mk x : Int) (h : mk = 0 ∨ mk = 1 ∨ mk = 2) : rrawG l mk x = rrawL l mk x := by
  rcases h with rfl | rfl | rfl <;> rfl

theorem markL_cases (l : List Int) : markL l = 0 ∨ markL l = 1 ∨ markL l = 2 := by
  unfold markL
  split
  · simp
  · split <;> simp

set_option maxHeartbeats 2000000 in
theorem rget_good {w : World} {b off n c : Nat} {l : List Int} (h : Bys w (some ⟨b, off, none⟩) n c l) (h5 : n = 512) (hz : chk l = 0) (hf : flagB (l.getD 156 0) = true) :
    Calls Try.prog 9 #[.slice (some ⟨b, off, none⟩) n c] w fun e w' => e = .returned (.tuple #[.agg (rrawE l), .int .i64 0]) ∧ Below w.heap.size w w' := by
  have hb := (Below.refl w.heap.size w).alloc (Nat.le_refl _) (.cells rawZ 32)
  have hck := rcheck_ok (h.below hb) h5
  have hn1 : (156 : Int) < n := by omega
  have hc1 := h.2.1
  have hc2 := h.2.2.1
  have hn6 : 512 ≤ n := by omega
  obtain ⟨hcl, hr0, hr1⟩ := (h.below hb).at 156 (by omega)
  have hlt : b < w.heap.size := blk_lt (h.at 156 (by omega)).1
  have hfl := fun w => known_ok w _ hr0 hr1
  have hmk := fun w' (hb : Below w.heap.size w w') => rmark_ok (h.below hb) h5
  have hp := fun w' (hb : Below w.heap.size w w') (st wd : Nat) (hn : st + wd ≤ n) (hn' : wd ≤ 1000000) => rget_walk ((h.below hb).part st wd hn) hn'
  have hmk3 := markL_cases ((l.drop 257).take 8)
  rw [hf] at hfl
  rw [hz] at hck
  clear h h5 hz hf
  unfold rrawE
  change Calls _ _ _ _ fun e w' => e = .returned (.tuple #[.agg (rrawL l (markL ((l.drop 257).take 8)) (l.getD 156 0)), .int .i64 0]) ∧ Below w.heap.size w w'
  generalize l.getD 156 0 = x at *
  generalize markL ((l.drop 257).take 8) = mk at *
  unfold rawZ at *
  obtain ⟨s2, hs2⟩ : ∃ s, s = gt true l 0 100 := ⟨_, rfl⟩
  obtain ⟨s3, hs3⟩ : ∃ s, s = gt true l 157 100 := ⟨_, rfl⟩
  obtain ⟨s4, hs4⟩ : ∃ s, s = gt (isInB 3 mk false) l 345 155 := ⟨_, rfl⟩
  obtain ⟨s5, hs5⟩ : ∃ s, s = gt (isInB 1 mk false) l 265 32 := ⟨_, rfl⟩
  obtain ⟨s6, hs6⟩ : ∃ s, s = gt (isInB 1 mk false) l 297 32 := ⟨_, rfl⟩
  have hG : Hid (rrawG l mk x = #[.int .i64 mk, .int .u8 x, .string s2, .string s3, .string s5, .string s6, .string s4, .int .i64 0, .int .i64 0, .int .i64 0, .int .i64 0, .int .i64 0, .int .i64 0, .int .i64 0]) := hid (by rw [rrawG_eq l mk x hmk3, hs2, hs3, hs4, hs5, hs6]; rfl)
  unfold rrawL
  rw [← hs2, ← hs3, ← hs4, ← hs5, ← hs6]
  clear hs2 hs3 hs4 hs5 hs6
  go_enter Try.func9, Try.ntmps9
  go_upto_region 4 with (go_at_call 29; refine hck.mono ?_; rintro e w' ⟨hw, rfl⟩; obtain rfl := hw.symm)
  go_cut [5] (fun p wc => p = .pointer (some ⟨w.heap.size + 1, 0, none⟩) ∧ Blk wc w.heap.size rawZ 32 ∧ Blk wc (w.heap.size + 1) (rraw0 mk x) 32 ∧ Below w.heap.size w wc)
  case first =>
    go_region_held3 (fun w' => w'.cell? ⟨b, off + 156, none⟩ = some (.int .u8 x)) (go_keep) (first | (go_at_call 30; refine (hmk _ ?_).mono ?_; (first | exact hb.drew | exact hb.drew.alloc hb.drew.size _ | exact (hb.alloc hb.size _).drew); rintro e w' ⟨hw, rfl⟩; obtain rfl := hw.symm))
    all_goals
      go_wp2
      go_meet
      case rel => exact ⟨rfl, rstart2 w mk x⟩
  case rest =>
    obtain ⟨rfl, hB0, hB1, hbc⟩ := hcut
    clear hck hcl hmk hb hr0 hr1
    have hs1 := hB1.lt
    have hx := hB1.cell 1
    unfold rraw0 at hx
    simp at hx
    have htx := fun w => texts_ok w
    unfold textsV at htx
    go_wp2_with (first
      | (go_at_call 31; refine (hfl _).mono ?_; rintro e w' ⟨hw, rfl⟩; obtain rfl := hw.symm)
      | (go_at_call 32; refine (htx _).mono ?_; rintro e w1 ⟨rfl, hb1⟩))
    have hBp := Blk.new w1 textsA 69
    have hbn := (Below.refl w1.heap.size w1).alloc (Nat.le_refl _) (.cells textsA 69)
    have hbw := (hbc.trans (hb1.mono hbc.size)).alloc (hbc.trans (hb1.mono hbc.size)).size (.cells textsA 69)
    replace hB0 := (hB0.below hb1).below hbn
    replace hB1 := (hB1.below hb1).below hbn
    have hs2 : w.heap.size + 1 < w1.heap.size := by have := hb1.size; omega
    generalize ht : w1.heap.size = t at *
    unfold textsA at hbw hB0 hB1 hBp
    clear ht hb1 hbc hbn hfl htx hx
    go_loopw [7] (fun i wr => ∃ (k : Nat) (cs : Array Value), k ≤ 5 ∧ i = .int .i64 k ∧ Below w.heap.size w wr ∧ Blk wr w.heap.size rawZ 32 ∧ Blk wr (w.heap.size + 1) cs 32 ∧ Blk wr t textsA 69 ∧ cs.size = 14 ∧ cs[0]? = some (.int .i64 mk) ∧ Hid (rrawG l mk x = (textsD.drop k).foldl (layR l mk) cs)) (fun i _ => 5 - (intOf i).toNat)
    case atStart => exact ⟨0, _, by omega, rfl, hbw, hB0, hB1, hBp, rfl, rfl, hid rfl⟩
    case round =>
      clear hB0 hB1 hBp hbw
      obtain ⟨k, cs, hk, rfl, hbr, hB0, hB1, hBp, hsz, hc0, hr⟩ := hrel
      have hm0 := (hB1.cell 0).trans hc0
      by_cases hlt : k < 5
      · obtain ⟨st, wd, hd, ha0, ha1, hfit, hw0⟩ := text_place k hlt
        have hd := hid hd
        have c0 := (hBp.cell (k * 2)).trans ha0
        have c1 := (hBp.cell (k * 2 + 1)).trans ha1
        have hpp := fun w' hb => hp w' hb st wd (by omega) (by omega)
        have hcs : (k < 2 ∨ (2 ≤ k ∧ mk = 1) ∨ (2 ≤ k ∧ mk = 2 ∧ k < 4)) ∨ ((2 ≤ k ∧ mk = 0) ∨ (2 ≤ k ∧ mk = 2 ∧ 4 ≤ k)) := by omega
        rcases hcs with hyes | hno
        · have hh : hasT k mk = true := by unfold hasT; rcases hyes with h | ⟨_, rfl⟩ | ⟨_, rfl, h⟩ <;> simp [*]
          have E : Hid (rrawG l mk x = (textsD.drop (k + 1)).foldl (layR l mk) (cs.setIfInBounds (2 + k) (.string (strOfNums (upto (fieldL l st wd)))))) := hid (by rw [hr.out, hd.out, List.foldl_cons, layR, hh]; rfl)
          generalize strOfNums (upto (fieldL l st wd)) = tx at *
          clear hr hd hh ha0 ha1 hmk3
          obtain ⟨old, hold⟩ : ∃ old, cs[2 + k]? = some old := ⟨cs[2 + k]'(by omega), by rw [Array.getElem?_eq_getElem (by omega)]⟩
          have hst : ¬ c = st := by omega
          have i1 : (0 : Int) ≤ (st : Int) := by omega
          have i2 : (st : Int) ≤ (st : Int) + (wd : Int) := by omega
          have i3 : (st : Int) + (wd : Int) ≤ (c : Int) := by omega
          have i4 : IntKind.i64.wrap ((st : Int) + (wd : Int)) = (st : Int) + (wd : Int) := by rw [IntKind.wrap_i64]; omega
          have i5 : (0 : Int) ≤ (st : Int) + (wd : Int) := by omega
          have i6 : ((st : Int) + (wd : Int)).toNat = st + wd := by omega
          have i7 : ((st : Int) + (wd : Int)).toNat - st = wd := by omega
          have i8 : st + wd - st = wd := by omega
          have i9 : (n : Int) ≤ (c : Int) := by omega
          have i10 : (k : Int) < 5 := by omega
          have i11 : (0 : Int) ≤ (k : Int) := by omega
          have hne1 : ¬ t = w.heap.size + 1 := by omega
          have hne2 : ¬ w.heap.size + 1 = t := by omega
          rcases hyes with h1 | ⟨h1, rfl⟩ | ⟨h1, rfl, h2⟩
          all_goals
            go_wp2
            go_region_held3 (fun w' => w'.cell? ⟨t, k * 2, none⟩ = some (.int .i64 st) ∧ w'.cell? ⟨t, k * 2 + 1, none⟩ = some (.int .i64 wd)) (go_keep)
              (first
                | (go_at_call 33; refine (hpp _ hbr.drew).mono ?_; rintro e w3 ⟨rfl, hb3⟩; have f0 := cell_later (w := wr.drew) hb3 c0; have f1 := cell_later (w := wr.drew) hb3 c1; have hBw := hbr.drew.trans (hb3.mono hbr.drew.size); have hB1w : Blk w3 (w.heap.size + 1) cs 32 := Blk.below (w := wr.drew) hB1 hb3; have q1 := (hB1w.cell (2 + k)).trans hold; have q2 := hB1w.free (2 + k)))
            all_goals
              clear q1 q2 f0 f1 hold hpp
              go_wp2
              go_roundw
              case rel => exact ⟨k + 1, _, by omega, by go_num, hBw.setCell (by simp) _, Blk.other (Blk.below (w := wr.drew) hB0 hb3) (by omega) _, hB1w.set _, Blk.other (Blk.below (w := wr.drew) hBp hb3) (by omega) _, by simp [hsz], by rw [Array.getElem?_setIfInBounds_ne (by omega)]; exact hc0, E⟩
              case measure => simp [intOf]; omega
        · have hh : hasT k mk = false := by unfold hasT; rcases hno with ⟨h, rfl⟩ | ⟨_, rfl, h⟩ <;> simp <;> omega
          have E : Hid (rrawG l mk x = (textsD.drop (k + 1)).foldl (layR l mk) cs) := hid (by rw [hr.out, hd.out, List.foldl_cons, layR, hh]; rfl)
          clear hr hd hh ha0 ha1 hmk3
          rcases hno with ⟨h1, rfl⟩ | ⟨h1, rfl, h2⟩
          all_goals
            go_wp2
            go_roundw
            case rel => exact ⟨k + 1, cs, by omega, by go_num, hbr, hB0, hB1, hBp, hsz, hc0, E⟩
            case measure => simp [intOf]; omega
      · have E : Hid (rrawG l mk x = cs) := hid (by rw [hr.out, List.drop_eq_nil_iff.mpr (by show 5 ≤ k; omega)]; rfl)
        rw [hG.out] at E
        obtain rfl : _ = cs := E.out
        clear E hG
        have e0 := hB1.cell 0
        have e1 := hB1.cell 1
        have e2 := hB1.cell 2
        have e3 := hB1.cell 3
        have e4 := hB1.cell 4
        have e5 := hB1.cell 5
        have e6 := hB1.cell 6
        have e7 := hB1.cell 7
        have e8 := hB1.cell 8
        have e9 := hB1.cell 9
        have e10 := hB1.cell 10
        have e11 := hB1.cell 11
        have e12 := hB1.cell 12
        have e13 := hB1.cell 13
        have z0 := hB0.cell 0
        have z1 := hB0.cell 1
        have z2 := hB0.cell 2
        have z3 := hB0.cell 3
        have z4 := hB0.cell 4
        have z5 := hB0.cell 5
        have z6 := hB0.cell 6
        have z7 := hB0.cell 7
        have z8 := hB0.cell 8
        have z9 := hB0.cell 9
        have z10 := hB0.cell 10
        have z11 := hB0.cell 11
        have z12 := hB0.cell 12
        have z13 := hB0.cell 13
        have y0 := fun i => hB0.free i
        unfold rawZ at z0 z1 z2 z3 z4 z5 z6 z7 z8 z9 z10 z11 z12 z13
        obtain rfl : k = 5 := by omega
        clear hr hsz hp hc0 hm0
        simp at e0 e1 e2 e3 e4 e5 e6 e7 e8 e9 e10 e11 e12 e13 z0 z1 z2 z3 z4 z5 z6 z7 z8 z9 z10 z11 z12 z13
        go_wp2
        refine bodyPost_ret (v := .tuple #[.agg #[.int .i64 mk, .int .u8 x, .string s2, .string s3, .string s5, .string s6, .string s4, .int .i64 0, .int .i64 0, .int .i64 0, .int .i64 0, .int .i64 0, .int .i64 0, .int .i64 0], .int .i64 0]) ?_ rfl ⟨rfl, ?_⟩
        · simp [results, Try.results9, go_sem, z0, z1, z2, z3, z4, z5, z6, z7, z8, z9, z10, z11, z12, z13]
        · exact (((((((((((((((hbr.setCell (Nat.le_refl _) _)).setCell (Nat.le_refl _) _).setCell (Nat.le_refl _) _).setCell (Nat.le_refl _) _).setCell (Nat.le_refl _) _).setCell (Nat.le_refl _) _).setCell (Nat.le_refl _) _).setCell (Nat.le_refl _) _).setCell (Nat.le_refl _) _).setCell (Nat.le_refl _) _).setCell (Nat.le_refl _) _).setCell (Nat.le_refl _) _).setCell (Nat.le_refl _) _).setCell (Nat.le_refl _) _)
end Go.Proofs.Ytgjbopbpekocpaa
