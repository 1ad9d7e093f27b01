/-
  Zero AND Number, as the program answers. Conditions: that the slice can be read.
-/
import Derived.Test.YtgjbopbpekocpaaMk
import Derived.Test.YtgjbopbpekocpaaTb
namespace Go.Proofs.Ytgjbopbpekocpaa
open Go.ChangeShapes Go.WideShapes Go.ChangeAt Go.RowKit
set_option linter.unusedVariables false
set_option maxRecDepth 20000

def zeroB (l : List Int) : Bool := decide (l.length = 512) && blankB l

theorem zero_ok {w : World} {a : Option Addr} {n c : Nat} {l : List Int} (h : Bys w a n c l) : Calls Try.prog 13 #[.slice a n c] w fun e w' => w' = w ∧ e = .returned (.bool (zeroB l)) := by
  have hbl := blank_walk h
  have hl := h.1
  unfold zeroB
  by_cases h5 : l.length = 512
  · have hi : (n : Int) = 512 := by omega
    rw [decide_eq_true h5]
    clear h hl h5
    go_enter Try.func13, Try.ntmps13
    go_wp2_with (go_at_call 34; refine hbl.mono ?_; rintro e w' ⟨hw, rfl⟩; obtain rfl := hw.symm)
    all_goals go_ret
    all_goals exact ⟨rfl, rfl⟩
  · have hi : ((n : Int) == 512) = false := by simp; omega
    rw [decide_eq_false h5]
    clear h hl h5 hbl
    go_enter Try.func13, Try.ntmps13
    go_wp2
    all_goals go_ret
    all_goals exact ⟨rfl, rfl⟩

/-- a field of bytes -/
def fieldL (l : List Int) (st wd : Nat) : List Int := (l.drop st).take wd

theorem Bys.part {w : World} {b off n c : Nat} {l : List Int} (h : Bys w (some ⟨b, off, none⟩) n c l) (st wd : Nat) (hn : st + wd ≤ n) : Bys w (some ⟨b, off + st, none⟩) wd (c - st) (fieldL l st wd) :=
  (h.drop st rfl (by omega)).take wd (by omega)

/-- the number of a field, the code -/
def numV (id : Int) (o : Option Int) : Int := match o with | none => 0 | some n => if mayB id n then n else 0
def numE (id : Int) (o : Option Int) : Int := match o with | none => 5 | some n => if mayB id n then 0 else 5

/-- what Number tells, off the rows -/
def numR (l : List Int) (field : Int) : List RowD → Int × Int
  | [] => (0, 2)
  | r :: t => if r.txt then numR l field t else if r.id = field then (numV r.id (got (fieldL l r.st r.wd)), numE r.id (got (fieldL l r.st r.wd))) else numR l field t

theorem number_bad {w : World} {a : Option Addr} {n c : Nat} {l : List Int} (h : Bys w a n c l) (hne : n ≠ 512) (f : Int) : Calls Try.prog 15 #[.slice a n c, .int .i64 f] w fun e w' => w' = w ∧ e = .returned (.tuple #[.int .i64 0, .int .u8 2]) := by
  have hi : (n : Int) ≠ 512 := by omega
  clear hne h
  go_enter Try.func15, Try.ntmps15
  go_wp2
  all_goals go_ret2
  all_goals exact ⟨rfl, rfl⟩

set_option maxHeartbeats 1000000 in
theorem number_ok {w : World} {b off n c : Nat} {l : List Int} (h : Bys w (some ⟨b, off, none⟩) n c l) (h5 : n = 512) (f : Int) : Calls Try.prog 15 #[.slice (some ⟨b, off, none⟩) n c, .int .i64 f] w fun e w' => e = .returned (.tuple #[.int .i64 (numR l f rowsD).1, .int .u8 (numR l f rowsD).2]) ∧ Below w.heap.size w w' := by
  have hi : (n : Int) = 512 := by omega
  have h5' := hid h5
  have hc1 := h.2.1
  have hc2 := h.2.2.1
  have hp := fun w' (hb : Below w.heap.size w w') (st wd : Nat) (hn : st + wd ≤ n) => (h.below hb).part st wd hn
  clear h h5
  have hb0 := (Below.refl w.heap.size w).alloc (Nat.le_refl _) (.cells #[.int .i64 0, .int .u8 0, .string ⟨#[]⟩, .string ⟨#[]⟩, .string ⟨#[]⟩, .string ⟨#[]⟩, .string ⟨#[]⟩, .int .i64 0, .int .i64 0, .int .i64 0, .int .i64 0, .int .i64 0, .int .i64 0, .int .i64 0] 25)
  go_enter Try.func15, Try.ntmps15
  go_wp2_with (go_at_call 25; refine (fields_ok _ _).mono ?_; rintro e w1 ⟨rfl, htab, hb1⟩)
  have htab1 : Tab w1 (w.heap.size + 1) w.heap.size := by simpa using htab
  have hbw := hb0.trans (hb1.mono hb0.size)
  clear htab hb0 hb1
  go_loopw [17] (fun i wr => ∃ k : Nat, k ≤ 12 ∧ i = .int .i64 k ∧ Below w1.heap.size w1 wr ∧ Hid (numR l f rowsD = numR l f (rowsD.drop k))) (fun i _ => 12 - (intOf i).toNat)
  case atStart => exact ⟨0, by omega, rfl, Below.refl _ _, hid rfl⟩
  case round =>
    obtain ⟨k, hk, rfl, hbr, hr⟩ := hrel
    by_cases hlt : k < 12
    · obtain ⟨r, hmem, hd, c0, c1, c2, c3, c4, c5⟩ := (htab1.below hbr).row k hlt
      obtain ⟨p1, p2, p3, -, -, -, -⟩ := row_places r hmem
      have hbn := hbr.alloc hbr.size (.cells #[.int .i64 r.st, .int .i64 r.wd, .int .i64 r.inn, .int .i64 r.id, .pointer (if r.txt then some ⟨w.heap.size, r.fld, none⟩ else none), .pointer (if r.txt then none else some ⟨w.heap.size, r.fld, none⟩)] 65)
      cases htx : r.txt
      · rw [htx] at c4 c5 hbn
        simp only [Bool.false_eq_true, if_false] at c4 c5 hbn
        by_cases hid' : r.id = f
        · have E : Hid (numR l f rowsD = (numV r.id (got (fieldL l r.st r.wd)), numE r.id (got (fieldL l r.st r.wd)))) := hid (by rw [hr.out, hd.out, numR, if_neg (by simp [htx]), if_pos hid'])
          have hne : (r.id != f) = false := by simp [hid']
          have hbn' := hbw.trans (hbn.mono hbw.size)
          have hof := fun w' => of_ok w' r.st r.wd r.inn r.id none (some ⟨w.heap.size, r.fld, none⟩) (b := b) (off := off) (len := n) (cap := c) (by omega) hc1 hc2 (by omega)
          have hge := fun w' (hb : Below w.heap.size w w') => get_any w' _ _ _ _ (hp w' hb r.st r.wd (by omega))
          have hmt := fun w' m => mayTell_ok w' r.st r.wd r.inn r.id none (some ⟨w.heap.size, r.fld, none⟩) m
          clear hr hd hmem htx hp htab1 hid'
          unfold rowV at hof hmt
          generalize got (fieldL l r.st r.wd) = o at *
          have keep : ∀ w2, Below (wr.heap.size + 1) (wr.alloc (.cells #[.int .i64 r.st, .int .i64 r.wd, .int .i64 r.inn, .int .i64 r.id, .pointer none, .pointer (some ⟨w.heap.size, r.fld, none⟩)] 65)) w2 →
              w2.cell? ⟨wr.heap.size, 0, none⟩ = some (.int .i64 r.st) ∧ w2.cell? ⟨wr.heap.size, 1, none⟩ = some (.int .i64 r.wd) ∧ w2.cell? ⟨wr.heap.size, 2, none⟩ = some (.int .i64 r.inn) ∧ w2.cell? ⟨wr.heap.size, 3, none⟩ = some (.int .i64 r.id) ∧ w2.cell? ⟨wr.heap.size, 4, none⟩ = some (.pointer none) ∧ w2.cell? ⟨wr.heap.size, 5, none⟩ = some (.pointer (some ⟨w.heap.size, r.fld, none⟩)) := by
            intro w2 hb
            refine ⟨?_, ?_, ?_, ?_, ?_, ?_⟩
            · exact (hb.cell (p := ⟨wr.heap.size, 0, none⟩) (by simp)).trans (by simp)
            · exact (hb.cell (p := ⟨wr.heap.size, 1, none⟩) (by simp)).trans (by simp)
            · exact (hb.cell (p := ⟨wr.heap.size, 2, none⟩) (by simp)).trans (by simp)
            · exact (hb.cell (p := ⟨wr.heap.size, 3, none⟩) (by simp)).trans (by simp)
            · exact (hb.cell (p := ⟨wr.heap.size, 4, none⟩) (by simp)).trans (by simp)
            · exact (hb.cell (p := ⟨wr.heap.size, 5, none⟩) (by simp)).trans (by simp)
          cases o with
          | none =>
            go_wp2_with (first
              | (go_at_call 28; refine (hof _).mono ?_; rintro e w2 ⟨rfl, hb2⟩; have hb2' := hbn'.trans (hb2.mono hbn'.size); obtain ⟨d0, d1, d2, d3, d4, d5⟩ := keep _ (by simpa using hb2); clear hb2)
              | (go_at_call 35; refine (hge _ hb2').mono ?_; rintro e w' ⟨hw, rfl⟩; obtain rfl := hw.symm))
            all_goals go_ret2
            all_goals exact ⟨ret_two (by rw [E.out]; rfl) (by rw [E.out]; rfl), hb2'⟩
          | some m =>
            have E1 : Hid (numV r.id (some m) = if mayB r.id m then m else 0) := hid rfl
            have E2 : Hid (numE r.id (some m) = if mayB r.id m then 0 else 5) := hid rfl
            have hmt := fun w' => hmt w' m
            change ∀ w' _, Calls _ _ _ _ fun e w'' => w'' = w' ∧ e = .returned (.tuple #[.int .i64 m, .int .u8 0]) at hge
            cases hm : mayB r.id m
            all_goals
              rw [hm] at E1 E2 hmt
              go_wp2_with (first
                | (go_at_call 28; refine (hof _).mono ?_; rintro e w2 ⟨rfl, hb2⟩; have hb2' := hbn'.trans (hb2.mono hbn'.size); obtain ⟨d0, d1, d2, d3, d4, d5⟩ := keep _ (by simpa using hb2); clear hb2)
                | (go_at_call 35; refine (hge _ hb2').mono ?_; rintro e w' ⟨hw, rfl⟩; obtain rfl := hw.symm)
                | (go_at_call 36; refine (hmt _).mono ?_; rintro e w3 ⟨rfl, hb3⟩))
              all_goals go_ret2
              all_goals exact ⟨ret_two (by rw [E.out, E1.out]; rfl) (by rw [E.out, E2.out]; rfl), hb2'.trans (hb3.mono hb2'.size)⟩
        · have hne : (r.id != f) = true := by simp [hid']
          have E : Hid (numR l f rowsD = numR l f (rowsD.drop (k + 1))) := hid (by rw [hr.out, hd.out, numR, if_neg (by simp [htx]), if_neg hid'])
          clear hr hd hmem htx hid'
          go_wp2
          go_roundw
          case rel => exact ⟨k + 1, by omega, by go_num, hbn, E⟩
          case measure => simp [intOf]; omega
      · rw [htx] at c4 c5 hbn
        simp only [if_true] at c4 c5 hbn
        have E : Hid (numR l f rowsD = numR l f (rowsD.drop (k + 1))) := hid (by rw [hr.out, hd.out, numR, if_pos htx])
        clear hr hd hmem htx
        go_wp2
        go_roundw
        case rel => exact ⟨k + 1, by omega, by go_num, hbn, E⟩
        case measure => simp [intOf]; omega
    · have E : Hid (numR l f rowsD = (0, 2)) := hid (by rw [hr.out, List.drop_eq_nil_iff.mpr (by show 12 ≤ k; omega)]; rfl)
      go_wp2
      all_goals go_ret2
      all_goals exact ⟨ret_two (by rw [E.out]) (by rw [E.out]), hbw.trans (hbr.mono hbw.size)⟩
end Go.Proofs.Ytgjbopbpekocpaa
