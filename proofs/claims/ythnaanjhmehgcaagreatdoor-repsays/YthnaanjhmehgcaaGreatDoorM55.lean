/-
  THE WALK OF RepSays, up to its loop's end; AND WHAT FOLLOWS OF IT. Conditions: those that each part names.
-/
import Derived.Test.YthnaanjhmehgcaaGreatDoorM54
import Derived.Test.YthnaanjhmehgcaaGreatDoorN47
import Derived.Test.YthnaanjhmehgcaaGreatDoorM53
import Derived.Deep.LoopGhost
import Derived.Deep.WholeRow
/-
  THE WALK OF RepSays, up to its loop's end. Conditions: what the callees are handed.
-/
namespace Go.Proofs.YthnaanjhmehgcaaGreatDoor
open Go.ChangeShapes Go.WideShapes Go.ChangeAt Go.RowKit Go.Lib
set_option linter.unusedVariables false
set_option linter.unusedSimpArgs false
set_option maxRecDepth 20000

theorem cs_one (h : Hd) (a : Option Addr) (n c : Nat) : (h.cs (.slice a n c)).all (·.oneCell') = true := by kernel_rfl

set_option maxHeartbeats 16000000 in
theorem says_yes {w : World} {h : Hd} {a : Option Addr} {n c : Nat} {l R : PL} (hp0 : Pys w a n c l) (hL : Laid w) (hsm : Sml R) (hrl : R.length ≤ 1000) (hov : ovB none R = true) (N : ByteArray) (hyy : appH R (bareL R h) = { h with name := N }) (hrest : appE R [] = l)
    (pth : Bool) (hget : getK R ⟨#[112, 97, 116, 104]⟩ = if pth = true then some N else none) (hN1 : pth = true → toldS h.kind N = h.name) (hN2 : pth = false → N = h.name) (hNs : N.size ≤ 9000000000000000000)
    (P : List Int) (hP : prn R [] = some P) (hP1 : P.length ≤ 1000000) (hP2 : prs P = some R)
    (al : ∀ wr, Below w.heap.size w wr → Calls Tryz.prog 7 #[] wr fun e w' => e = .returned (.bool true) ∧ Below wr.heap.size wr w')
    (mn : ∀ wr, Below w.heap.size w wr → Calls Tryz.prog 8 #[.agg (h.cs (.slice a n c))] wr fun e w' => e = .returned (.bool false) ∧ Below wr.heap.size wr w')
    (rw : ∀ wr, Below w.heap.size w wr → Calls Tryz.prog 20 #[.agg (h.cs (.slice a n c))] wr fun e w' => e = .returned (.int .i64 0) ∧ Below wr.heap.size wr w')
    (rec : ∀ wr, Below w.heap.size w wr → Calls Tryz.prog 15 #[.agg (h.cs (.slice a n c))] wr fun e w' => (∃ a2 m c2, e = .returned (.tuple #[.slice a2 m c2, .int .u8 0]) ∧ Pys w' a2 m c2 R ∧ (a2 = none → m = 0 ∧ c2 = 0)) ∧ Below wr.heap.size wr w') :
    Calls Tryz.prog 6 #[.agg (h.cs (.slice a n c))] w fun e w' => e = .returned (.bool true) ∧ Below w.heap.size w w' := by
  have hac := below_alloc w (.cells (h.cs (.slice a n c)) 26)
  have hB : Blk (w.alloc (.cells (h.cs (.slice a n c)) 26)) w.heap.size (h.cs (.slice a n c)) 26 := heap_alloc_new _ _
  have hinf : (Tryz.prog.info? 26).map (·.size) = some (h.cs (.slice a n c)).size := by kernel_rfl
  have hone := cs_one h a n c
  unfold Hd.cs at hac hB hinf mn rw rec hone ⊢
  go_enter Tryz.func6, Tryz.ntmps6
  go_upto_region 8 with (first
    | (go_at_call 7; refine (al _ hac).mono ?_; rintro e w1 ⟨rfl, hb1⟩; replace hB := hB.below hb1; replace hac := hac.trans (hb1.mono hac.size); clear hb1)
    | (go_at_call 8; refine (mn _ hac).mono ?_; rintro e w1 ⟨rfl, hb1⟩; replace hB := hB.below hb1; replace hac := hac.trans (hb1.mono hac.size); clear hb1; obtain ⟨q0, q1, q2, q3, q4, q5, q6, q7, q8, q9, q10, q11, q12, q13⟩ := hd_cells (h := h) hB)
    | (go_at_call 20; refine (rw _ hac).mono ?_; rintro e w1 ⟨rfl, hb1⟩; replace hB := hB.below hb1; replace hac := hac.trans (hb1.mono hac.size); clear hb1; clear q0 q1 q2 q3 q4 q5 q6 q7 q8 q9 q10 q11 q12 q13)
    | (go_at_call 15; refine (rec _ hac).mono ?_; rintro e w1 ⟨⟨a2, m2, c2, rfl, hp1, -⟩, hb1⟩; replace hB := hB.below hb1; replace hac := hac.trans (hb1.mono hac.size); clear hb1)
    | (refine wpList_load_row (P := Tryz.prog) rfl 26 (.tmp 1) rfl w.heap.size rfl 26 _ (0, 0) _ hB Tryz.underlying26 rfl hinf ?_))
  clear al mn rw rec
  have hZ : Blk (w1.alloc (.cells #[.int .i64 0, .string ⟨#[]⟩, .string ⟨#[]⟩, .int .i64 0, .int .i64 0, .int .i64 0, .int .i64 0, .int .i64 0, .int .i64 0, .string ⟨#[]⟩, .string ⟨#[]⟩, .int .i64 0, .int .i64 0, .slice none 0 0] 26)) w1.heap.size _ 26 := Blk.new _ _ _
  go_upto_region 9 with (first
    | (refine wpList_load_row (P := Tryz.prog) rfl 26 (.tmp 1) rfl w.heap.size rfl 26 _ (0, 0) _ hB Tryz.underlying26 rfl hinf ?_)
    | (refine wpList_store_row (P := Tryz.prog) rfl 26 (.tmp 5) (.tmp 32) rfl w1.heap.size _ rfl rfl 26 _ hZ hinf rfl hone ?_))
  have hX : Blk ((w1.alloc (.cells #[.int .i64 0, .string ⟨#[]⟩, .string ⟨#[]⟩, .int .i64 0, .int .i64 0, .int .i64 0, .int .i64 0, .int .i64 0, .int .i64 0, .string ⟨#[]⟩, .string ⟨#[]⟩, .int .i64 0, .int .i64 0, .slice none 0 0] 26)).setRow w1.heap.size (h.cs (.slice a n c))) w1.heap.size (h.cs (.slice a n c)) 26 := setRow_heap _ _ _ _ 26 (0, 0) hZ
  have hb2 : Below w1.heap.size w1 ((w1.alloc (.cells #[.int .i64 0, .string ⟨#[]⟩, .string ⟨#[]⟩, .int .i64 0, .int .i64 0, .int .i64 0, .int .i64 0, .int .i64 0, .int .i64 0, .string ⟨#[]⟩, .string ⟨#[]⟩, .int .i64 0, .int .i64 0, .slice none 0 0] 26)).setRow w1.heap.size (h.cs (.slice a n c))) := below_setRow (below_alloc _ _) (Nat.le_refl _) _
  obtain ⟨xf, hxf⟩ : ∃ xf, xf = bareL R h := ⟨_, rfl⟩
  replace hxf := hid hxf
  have hlen := hid hp1.1
  unfold Hd.cs at hX hb2
  generalize (w1.alloc (.cells #[.int .i64 0, .string ⟨#[]⟩, .string ⟨#[]⟩, .int .i64 0, .int .i64 0, .int .i64 0, .int .i64 0, .int .i64 0, .int .i64 0, .string ⟨#[]⟩, .string ⟨#[]⟩, .int .i64 0, .int .i64 0, .slice none 0 0] 26)).setRow w1.heap.size #[.int .i64 h.kind, .string h.name, .string h.link, .int .i64 h.mode, .int .i64 h.uid, .int .i64 h.gid, .int .i64 h.size, .int .i64 h.sec, .int .i64 h.nano, .string h.user, .string h.group, .int .i64 h.major, .int .i64 h.minor, .slice a n c] = W2 at *
  clear hZ
  go_upto_block 0 with fail
  go_cut [6] from 33 to 68 (fun i wc => Blk wc w1.heap.size (xf.cs (.slice a n c)) 26 ∧ Below w1.heap.size w1 wc)
  case first =>
    go_wp2_with fail
    go_loopg [6] (m2 - 0) (fun k i wr => ∃ (q : Nat) (x : Hd), k = m2 - q ∧ i = .int .i64 (q : Nat) ∧ q ≤ m2 ∧ Blk wr w1.heap.size (x.cs (.slice a n c)) 26 ∧ Below w1.heap.size w1 wr ∧ Hid (xf = bareL (R.drop q) x))
    case atStart => exact ⟨0, h, rfl, rfl, Nat.zero_le _, hX, hb2, hxf⟩
    case round =>
      obtain ⟨q, x, hk, rfl, hq, hBx, hbx, hr⟩ := hrel
      clear hX hb2 hxf
      have hlx := hBx.lt
      by_cases hlt : q < m2
      · obtain ⟨b, off, rfl, hcx⟩ := hp1.some_of (by omega)
        obtain ⟨ky, vl, hmem, hdr, c0, c1⟩ := (hcx.below hbx).at q (by rw [hlen.out]; exact hlt)
        have hqI : (q : Int) < (m2 : Int) := by omega
        have hpc := hp1.2.1
        have hpm := hp1.2.2.1
        have hw1 : (q : Int) + 1 ≤ 9223372036854775807 := by omega
        have E1 := hid (by rw [hr.out, hdr.out, bareL] : xf = bareL (R.drop (q + 1)) (bareS ky x))
        clear hcx hdr hmem hr
        replace hk := hid hk
        rcases which_all (bs ky) with hw | hw | hw | hw | hw | hw | hw | hw | hw
        · have hb0 : bareS ky x = x := by simp [bareS, hw]
          rw [hb0] at E1
          have e0 : (ky.toList == [112, 97, 116, 104]) = false := by rw [str_is]; simp only [decide_eq_false_iff_not]; intro e; rw [e] at hw; revert hw; decide
          have e1 : (ky.toList == [108, 105, 110, 107, 112, 97, 116, 104]) = false := by rw [str_is]; simp only [decide_eq_false_iff_not]; intro e; rw [e] at hw; revert hw; decide
          have e2 : (ky.toList == [117, 110, 97, 109, 101]) = false := by rw [str_is]; simp only [decide_eq_false_iff_not]; intro e; rw [e] at hw; revert hw; decide
          have e3 : (ky.toList == [103, 110, 97, 109, 101]) = false := by rw [str_is]; simp only [decide_eq_false_iff_not]; intro e; rw [e] at hw; revert hw; decide
          have e4 : (ky.toList == [117, 105, 100]) = false := by rw [str_is]; simp only [decide_eq_false_iff_not]; intro e; rw [e] at hw; revert hw; decide
          have e5 : (ky.toList == [103, 105, 100]) = false := by rw [str_is]; simp only [decide_eq_false_iff_not]; intro e; rw [e] at hw; revert hw; decide
          have e6 : (ky.toList == [115, 105, 122, 101]) = false := by rw [str_is]; simp only [decide_eq_false_iff_not]; intro e; rw [e] at hw; revert hw; decide
          have e7 : (ky.toList == [109, 116, 105, 109, 101]) = false := by rw [str_is]; simp only [decide_eq_false_iff_not]; intro e; rw [e] at hw; revert hw; decide
          replace hw := hid hw
          go_wp2
          go_roundg (m2 - (q + 1))
          case measure => have := hk.out; omega
          case rel => exact ⟨q + 1, x, rfl, by go_num, by omega, hBx, hbx, E1⟩
        · have hb0 : bareS ky x = { x with name := oth } := by simp [bareS, hw]
          rw [hb0] at E1
          have ki : bs ky = [112, 97, 116, 104] := by rw [(which_key ky).1.1 hw]; decide
          have e0 : (ky.toList == [112, 97, 116, 104]) = true := by rw [str_is, ki]; decide
          have y1 := hBx.free 1
          have x1 : wr.cell? ⟨w1.heap.size, 1, none⟩ = some (.string x.name) := hBx.cell 1
          have hN := hBx.set (i := 1) (.string oth)
          have hNb := (hbx).setCell (p := ⟨w1.heap.size, 1, none⟩) (Nat.le_refl _) (.string oth)
          replace hw := hid hw
          clear hBx hbx ki
          go_wp2
          go_roundg (m2 - (q + 1))
          case measure => have := hk.out; omega
          case rel => exact ⟨q + 1, { x with name := oth }, rfl, by go_num, by omega, hN, hNb, E1⟩
        · have hb0 : bareS ky x = { x with link := oth } := by simp [bareS, hw]
          rw [hb0] at E1
          have ki : bs ky = [108, 105, 110, 107, 112, 97, 116, 104] := by rw [(which_key ky).2.1.1 hw]; decide
          have e0 : (ky.toList == [112, 97, 116, 104]) = false := by rw [str_is, ki]; decide
          have e1 : (ky.toList == [108, 105, 110, 107, 112, 97, 116, 104]) = true := by rw [str_is, ki]; decide
          have y2 := hBx.free 2
          have x2 : wr.cell? ⟨w1.heap.size, 2, none⟩ = some (.string x.link) := hBx.cell 2
          have hN := hBx.set (i := 2) (.string oth)
          have hNb := (hbx).setCell (p := ⟨w1.heap.size, 2, none⟩) (Nat.le_refl _) (.string oth)
          replace hw := hid hw
          clear hBx hbx ki
          go_wp2
          go_roundg (m2 - (q + 1))
          case measure => have := hk.out; omega
          case rel => exact ⟨q + 1, { x with link := oth }, rfl, by go_num, by omega, hN, hNb, E1⟩
        · have hb0 : bareS ky x = { x with user := oth } := by simp [bareS, hw]
          rw [hb0] at E1
          have ki : bs ky = [117, 110, 97, 109, 101] := by rw [(which_key ky).2.2.1.1 hw]; decide
          have e0 : (ky.toList == [112, 97, 116, 104]) = false := by rw [str_is, ki]; decide
          have e1 : (ky.toList == [108, 105, 110, 107, 112, 97, 116, 104]) = false := by rw [str_is, ki]; decide
          have e2 : (ky.toList == [117, 110, 97, 109, 101]) = true := by rw [str_is, ki]; decide
          have y9 := hBx.free 9
          have x9 : wr.cell? ⟨w1.heap.size, 9, none⟩ = some (.string x.user) := hBx.cell 9
          have hN := hBx.set (i := 9) (.string oth)
          have hNb := (hbx).setCell (p := ⟨w1.heap.size, 9, none⟩) (Nat.le_refl _) (.string oth)
          replace hw := hid hw
          clear hBx hbx ki
          go_wp2
          go_roundg (m2 - (q + 1))
          case measure => have := hk.out; omega
          case rel => exact ⟨q + 1, { x with user := oth }, rfl, by go_num, by omega, hN, hNb, E1⟩
        · have hb0 : bareS ky x = { x with group := oth } := by simp [bareS, hw]
          rw [hb0] at E1
          have ki : bs ky = [103, 110, 97, 109, 101] := by rw [(which_key ky).2.2.2.1.1 hw]; decide
          have e0 : (ky.toList == [112, 97, 116, 104]) = false := by rw [str_is, ki]; decide
          have e1 : (ky.toList == [108, 105, 110, 107, 112, 97, 116, 104]) = false := by rw [str_is, ki]; decide
          have e2 : (ky.toList == [117, 110, 97, 109, 101]) = false := by rw [str_is, ki]; decide
          have e3 : (ky.toList == [103, 110, 97, 109, 101]) = true := by rw [str_is, ki]; decide
          have y10 := hBx.free 10
          have x10 : wr.cell? ⟨w1.heap.size, 10, none⟩ = some (.string x.group) := hBx.cell 10
          have hN := hBx.set (i := 10) (.string oth)
          have hNb := (hbx).setCell (p := ⟨w1.heap.size, 10, none⟩) (Nat.le_refl _) (.string oth)
          replace hw := hid hw
          clear hBx hbx ki
          go_wp2
          go_roundg (m2 - (q + 1))
          case measure => have := hk.out; omega
          case rel => exact ⟨q + 1, { x with group := oth }, rfl, by go_num, by omega, hN, hNb, E1⟩
        · have hb0 : bareS ky x = { x with uid := 0 } := by simp [bareS, hw]
          rw [hb0] at E1
          have ki : bs ky = [117, 105, 100] := by rw [(which_key ky).2.2.2.2.1.1 hw]; decide
          have e0 : (ky.toList == [112, 97, 116, 104]) = false := by rw [str_is, ki]; decide
          have e1 : (ky.toList == [108, 105, 110, 107, 112, 97, 116, 104]) = false := by rw [str_is, ki]; decide
          have e2 : (ky.toList == [117, 110, 97, 109, 101]) = false := by rw [str_is, ki]; decide
          have e3 : (ky.toList == [103, 110, 97, 109, 101]) = false := by rw [str_is, ki]; decide
          have e4 : (ky.toList == [117, 105, 100]) = true := by rw [str_is, ki]; decide
          have y4 := hBx.free 4
          have x4 : wr.cell? ⟨w1.heap.size, 4, none⟩ = some (.int .i64 x.uid) := hBx.cell 4
          have hN := hBx.set (i := 4) (.int .i64 0)
          have hNb := (hbx).setCell (p := ⟨w1.heap.size, 4, none⟩) (Nat.le_refl _) (.int .i64 0)
          replace hw := hid hw
          clear hBx hbx ki
          go_wp2
          go_roundg (m2 - (q + 1))
          case measure => have := hk.out; omega
          case rel => exact ⟨q + 1, { x with uid := 0 }, rfl, by go_num, by omega, hN, hNb, E1⟩
        · have hb0 : bareS ky x = { x with gid := 0 } := by simp [bareS, hw]
          rw [hb0] at E1
          have ki : bs ky = [103, 105, 100] := by rw [(which_key ky).2.2.2.2.2.1.1 hw]; decide
          have e0 : (ky.toList == [112, 97, 116, 104]) = false := by rw [str_is, ki]; decide
          have e1 : (ky.toList == [108, 105, 110, 107, 112, 97, 116, 104]) = false := by rw [str_is, ki]; decide
          have e2 : (ky.toList == [117, 110, 97, 109, 101]) = false := by rw [str_is, ki]; decide
          have e3 : (ky.toList == [103, 110, 97, 109, 101]) = false := by rw [str_is, ki]; decide
          have e4 : (ky.toList == [117, 105, 100]) = false := by rw [str_is, ki]; decide
          have e5 : (ky.toList == [103, 105, 100]) = true := by rw [str_is, ki]; decide
          have y5 := hBx.free 5
          have x5 : wr.cell? ⟨w1.heap.size, 5, none⟩ = some (.int .i64 x.gid) := hBx.cell 5
          have hN := hBx.set (i := 5) (.int .i64 0)
          have hNb := (hbx).setCell (p := ⟨w1.heap.size, 5, none⟩) (Nat.le_refl _) (.int .i64 0)
          replace hw := hid hw
          clear hBx hbx ki
          go_wp2
          go_roundg (m2 - (q + 1))
          case measure => have := hk.out; omega
          case rel => exact ⟨q + 1, { x with gid := 0 }, rfl, by go_num, by omega, hN, hNb, E1⟩
        · have hb0 : bareS ky x = { x with size := 0 } := by simp [bareS, hw]
          rw [hb0] at E1
          have ki : bs ky = [115, 105, 122, 101] := by rw [(which_key ky).2.2.2.2.2.2.1.1 hw]; decide
          have e0 : (ky.toList == [112, 97, 116, 104]) = false := by rw [str_is, ki]; decide
          have e1 : (ky.toList == [108, 105, 110, 107, 112, 97, 116, 104]) = false := by rw [str_is, ki]; decide
          have e2 : (ky.toList == [117, 110, 97, 109, 101]) = false := by rw [str_is, ki]; decide
          have e3 : (ky.toList == [103, 110, 97, 109, 101]) = false := by rw [str_is, ki]; decide
          have e4 : (ky.toList == [117, 105, 100]) = false := by rw [str_is, ki]; decide
          have e5 : (ky.toList == [103, 105, 100]) = false := by rw [str_is, ki]; decide
          have e6 : (ky.toList == [115, 105, 122, 101]) = true := by rw [str_is, ki]; decide
          have y6 := hBx.free 6
          have x6 : wr.cell? ⟨w1.heap.size, 6, none⟩ = some (.int .i64 x.size) := hBx.cell 6
          have hN := hBx.set (i := 6) (.int .i64 0)
          have hNb := (hbx).setCell (p := ⟨w1.heap.size, 6, none⟩) (Nat.le_refl _) (.int .i64 0)
          replace hw := hid hw
          clear hBx hbx ki
          go_wp2
          go_roundg (m2 - (q + 1))
          case measure => have := hk.out; omega
          case rel => exact ⟨q + 1, { x with size := 0 }, rfl, by go_num, by omega, hN, hNb, E1⟩
        · have hb0 : bareS ky x = { x with sec := 0, nano := 0 } := by simp [bareS, hw]
          rw [hb0] at E1
          have ki : bs ky = [109, 116, 105, 109, 101] := by rw [(which_key ky).2.2.2.2.2.2.2.1 hw]; decide
          have e0 : (ky.toList == [112, 97, 116, 104]) = false := by rw [str_is, ki]; decide
          have e1 : (ky.toList == [108, 105, 110, 107, 112, 97, 116, 104]) = false := by rw [str_is, ki]; decide
          have e2 : (ky.toList == [117, 110, 97, 109, 101]) = false := by rw [str_is, ki]; decide
          have e3 : (ky.toList == [103, 110, 97, 109, 101]) = false := by rw [str_is, ki]; decide
          have e4 : (ky.toList == [117, 105, 100]) = false := by rw [str_is, ki]; decide
          have e5 : (ky.toList == [103, 105, 100]) = false := by rw [str_is, ki]; decide
          have e6 : (ky.toList == [115, 105, 122, 101]) = false := by rw [str_is, ki]; decide
          have e7 : (ky.toList == [109, 116, 105, 109, 101]) = true := by rw [str_is, ki]; decide
          have y7 := hBx.free 7
          have x7 : wr.cell? ⟨w1.heap.size, 7, none⟩ = some (.int .i64 x.sec) := hBx.cell 7
          have y8 := hBx.free 8
          have x8 : wr.cell? ⟨w1.heap.size, 8, none⟩ = some (.int .i64 x.nano) := hBx.cell 8
          have hN := (hBx.set (i := 7) (.int .i64 0)).set (i := 8) (.int .i64 0)
          have hNb := ((hbx).setCell (p := ⟨w1.heap.size, 7, none⟩) (Nat.le_refl _) (.int .i64 0)).setCell (p := ⟨w1.heap.size, 8, none⟩) (Nat.le_refl _) (.int .i64 0)
          replace hw := hid hw
          clear hBx hbx ki
          go_wp2
          go_roundg (m2 - (q + 1))
          case measure => have := hk.out; omega
          case rel => exact ⟨q + 1, { x with sec := 0, nano := 0 }, rfl, by go_num, by omega, hN, hNb, E1⟩
      · have e : q = m2 := by omega
        have hqI : ¬ (q : Int) < (m2 : Int) := by omega
        have hx : xf = x := by rw [hr.out, List.drop_eq_nil_of_le (by rw [hlen.out]; omega)]; rfl
        replace hr := hid hr
        replace e := hid e
        replace hk := hid hk
        replace hx := hid hx
        go_wp2_with fail
        go_meet
        case rel => exact ⟨by rw [hx.out]; exact hBx, hbx⟩
  case rest =>
    obtain ⟨hBx, hbx⟩ := hcut
    clear hX hb2
    have hac2 := hac.trans (hbx.mono hac.size)
    have hB2 := hB.below hbx
    have hp2 := hp1.below hbx
    have happ := apply_ok hp2 hsm (by have := hlen.out; omega) (hL.below hac2) hov xf a n c
    obtain ⟨yf, hyf⟩ : ∃ yf, yf = appH R xf := ⟨_, rfl⟩
    rw [← hyf] at happ
    have hyN : yf = { h with name := N } := by rw [hyf, hxf.out, hyy]
    replace hyf := hid hyf
    subst hyN
    unfold Hd.cs at hBx hB2
    have hinfx : (Tryz.prog.info? 26).map (·.size) = some (#[Value.int .i64 xf.kind, .string xf.name, .string xf.link, .int .i64 xf.mode, .int .i64 xf.uid, .int .i64 xf.gid, .int .i64 xf.size, .int .i64 xf.sec, .int .i64 xf.nano, .string xf.user, .string xf.group, .int .i64 xf.major, .int .i64 xf.minor, .slice a n c]).size := by kernel_rfl
    go_upto_region 30 with (first
      | (go_at_call 22; refine happ.mono ?_; clear happ; rintro e w2 ⟨a3, m3, c3, rfl, hp3, hb3⟩; replace hB2 := hB2.below hb3; replace hp2 := hp2.below hb3; replace hac2 := hac2.trans (hb3.mono hac2.size); (have hZ3 : Blk (w2.alloc (.cells #[.int .i64 0, .string ⟨#[]⟩, .string ⟨#[]⟩, .int .i64 0, .int .i64 0, .int .i64 0, .int .i64 0, .int .i64 0, .int .i64 0, .string ⟨#[]⟩, .string ⟨#[]⟩, .int .i64 0, .int .i64 0, .slice none 0 0] 26)) w2.heap.size _ 26 := Blk.new _ _ _); have hone3 := cs_one { h with name := N } a3 m3 c3)
      | (refine wpList_load_row (P := Tryz.prog) rfl 26 (.tmp 5) rfl w1.heap.size rfl 26 _ (0, 0) _ hBx Tryz.underlying26 rfl hinfx ?_)
      | (refine wpList_store_row (P := Tryz.prog) rfl 26 (.tmp 7) (.tmp 73) rfl w2.heap.size _ rfl rfl 26 _ hZ3 hinf rfl hone3 ?_))
    have hY : Blk ((w2.alloc (.cells #[.int .i64 0, .string ⟨#[]⟩, .string ⟨#[]⟩, .int .i64 0, .int .i64 0, .int .i64 0, .int .i64 0, .int .i64 0, .int .i64 0, .string ⟨#[]⟩, .string ⟨#[]⟩, .int .i64 0, .int .i64 0, .slice none 0 0] 26)).setRow w2.heap.size (Hd.cs { h with name := N } (.slice a3 m3 c3))) w2.heap.size (Hd.cs { h with name := N } (.slice a3 m3 c3)) 26 := setRow_heap _ _ _ _ 26 (0, 0) hZ3
    have hb4 : Below w2.heap.size w2 ((w2.alloc (.cells #[.int .i64 0, .string ⟨#[]⟩, .string ⟨#[]⟩, .int .i64 0, .int .i64 0, .int .i64 0, .int .i64 0, .int .i64 0, .int .i64 0, .string ⟨#[]⟩, .string ⟨#[]⟩, .int .i64 0, .int .i64 0, .slice none 0 0] 26)).setRow w2.heap.size (Hd.cs { h with name := N } (.slice a3 m3 c3))) := below_setRow (below_alloc _ _) (Nat.le_refl _) _
    rw [hrest] at hp3
    clear hZ3 hone3 hB hac
    generalize (w2.alloc (.cells #[.int .i64 0, .string ⟨#[]⟩, .string ⟨#[]⟩, .int .i64 0, .int .i64 0, .int .i64 0, .int .i64 0, .int .i64 0, .int .i64 0, .string ⟨#[]⟩, .string ⟨#[]⟩, .int .i64 0, .int .i64 0, .slice none 0 0] 26)).setRow w2.heap.size (Hd.cs { h with name := N } (.slice a3 m3 c3)) = W3 at *
    unfold Hd.cs at hY
    dsimp only at hY
    have hwy : w.heap.size < w2.heap.size := hB2.lt
    have zp2 := hp2
    have zp3 := hp3
    have zB := hB2
    have zac := hac2
    replace hB2 := hB2.below hb4
    replace hp2 := hp2.below hb4
    replace hp3 := hp3.below hb4
    replace hac2 := hac2.trans (hb4.mono hac2.size)
    have hyl := hY.lt
    have hgt := oget_ok hp2 ⟨#[112, 97, 116, 104]⟩
    rw [hget] at hgt
    clear hget hyy
    cases pth with
    | true =>
      have htl := fun wr => told_ok h.kind N hNs wr
      rw [hN1 rfl] at htl
      rw [if_pos rfl] at hgt
      change Calls _ _ _ _ (fun e w' => e = .returned (.tuple #[.string N, .bool true]) ∧ _) at hgt
      clear hN1 hN2
      go_upto_region 33 with (first
        | (go_at_call 23; refine hgt.mono ?_; clear hgt; rintro e w4 ⟨rfl, hb5⟩; replace hB2 := hB2.below hb5; replace hY := hY.below hb5; replace hp2 := hp2.below hb5; replace hp3 := hp3.below hb5; replace hac2 := hac2.trans (hb5.mono hac2.size); have hbz := hb4.trans (hb5.mono hb4.size); clear hb5; have q0 := (hd_cells (h := h) hB2).1; (have r1 : w4.cell? ⟨w2.heap.size, 1, none⟩ = some (.string N) := hY.cell 1); have f1 := hY.free 1)
        | (go_at_call 24; refine (htl _).mono ?_; rintro e w' ⟨hw, rfl⟩; obtain rfl := hw.symm))
      have hY5 := hY.set (i := 1) (.string h.name)
      simp only [List.setIfInBounds_toArray, List.set_cons_succ, List.set_cons_zero] at hY5
      have hbz5 := hbz.setCell (p := ⟨w2.heap.size, 1, none⟩) (Nat.le_refl _) (.string h.name)
      clear hB2 hp2 hp3 hac2 hY q0 r1 f1 hbz
      generalize w4.setCell ⟨w2.heap.size, 1, none⟩ (.string h.name) = W5 at *
      have hY := hY5
      have hp2 := zp2.below hbz5
      have hp3 := zp3.below hbz5
      have hB2 := zB.below hbz5
      have hac2 := zac.trans (hbz5.mono zac.size)
      clear zp2 zp3 zB zac hY5 hbz5
      go_wp2_with (first
        | (go_at_call 25; refine (print_ok hp2 ⟨hrl, hsm⟩ (hL.below hac2)).mono ?_; rintro e w5 ⟨a4, m4, c4, e1, hy4, hb5⟩; rw [hP] at e1 hy4; replace e1 : e = .returned (.tuple #[.slice a4 m4 c4, .int .u8 0]) := e1; replace hy4 : Bys w5 a4 m4 c4 P := hy4; subst e1; have hm4 : m4 ≤ 1000000 := (by (have := hy4.1; have : P.length = m4 := this; omega)); replace hB2 := hB2.below hb5; replace hY := hY.below hb5; replace hp2 := hp2.below hb5; replace hp3 := hp3.below hb5; replace hac2 := hac2.trans (hb5.mono hac2.size); clear hb5)
        | (go_at_call 26; refine (parse_w hy4 hm4 (hL.below hac2)).mono ?_; rintro e w6 ⟨a5, m5, c5, e2, hp5, hb6⟩; rw [hP2] at e2 hp5; replace e2 : e = .returned (.tuple #[.slice a5 m5 c5, .int .u8 0]) := e2; replace hp5 : Pys w6 a5 m5 c5 R := hp5; subst e2; replace hB2 := hB2.below hb6; replace hY := hY.below hb6; replace hp2 := hp2.below hb6; replace hp3 := hp3.below hb6; replace hac2 := hac2.trans (hb6.mono hac2.size); clear hb6)
        | (go_at_call 19; refine (same_self hp2 hp5).mono ?_; rintro e w7 ⟨rfl, hb7⟩; replace hB2 := hB2.below hb7; replace hY := hY.below hb7; replace hp3 := hp3.below hb7; replace hac2 := hac2.trans (hb7.mono hac2.size); clear hb7; obtain ⟨q0, q1, q2, q3, q4, q5, q6, q7, q8, q9, q10, q11, q12, q13⟩ := hd_cells (h := h) hB2; (obtain ⟨r0, r1, r2, r3, r4, r5, r6, r7, r8, r9, r10, r11, r12, r13⟩ := hd_cells (h := h) hY); have hit := rsame_head h hp3 (hp0.below hac2); unfold Hd.it at hit)
        | (go_at_call 27; refine hit.mono ?_; rintro e w8 ⟨rfl, hb8⟩; replace hac2 := hac2.trans (hb8.mono hac2.size)))
      go_ret
      exact ⟨rfl, hac2⟩
    | false =>
      have hN := hN2 rfl
      subst hN
      rw [if_neg (by simp)] at hgt
      change Calls _ _ _ _ (fun e w' => e = .returned (.tuple #[.string ⟨#[]⟩, .bool false]) ∧ _) at hgt
      clear hN1 hN2
      go_upto_region 33 with (first
        | (go_at_call 23; refine hgt.mono ?_; clear hgt; rintro e w4 ⟨rfl, hb5⟩; replace hB2 := hB2.below hb5; replace hY := hY.below hb5; replace hp2 := hp2.below hb5; replace hp3 := hp3.below hb5; replace hac2 := hac2.trans (hb5.mono hac2.size); clear hb5))
      go_wp2_with (first
        | (go_at_call 25; refine (print_ok hp2 ⟨hrl, hsm⟩ (hL.below hac2)).mono ?_; rintro e w5 ⟨a4, m4, c4, e1, hy4, hb5⟩; rw [hP] at e1 hy4; replace e1 : e = .returned (.tuple #[.slice a4 m4 c4, .int .u8 0]) := e1; replace hy4 : Bys w5 a4 m4 c4 P := hy4; subst e1; have hm4 : m4 ≤ 1000000 := (by (have := hy4.1; have : P.length = m4 := this; omega)); replace hB2 := hB2.below hb5; replace hY := hY.below hb5; replace hp2 := hp2.below hb5; replace hp3 := hp3.below hb5; replace hac2 := hac2.trans (hb5.mono hac2.size); clear hb5)
        | (go_at_call 26; refine (parse_w hy4 hm4 (hL.below hac2)).mono ?_; rintro e w6 ⟨a5, m5, c5, e2, hp5, hb6⟩; rw [hP2] at e2 hp5; replace e2 : e = .returned (.tuple #[.slice a5 m5 c5, .int .u8 0]) := e2; replace hp5 : Pys w6 a5 m5 c5 R := hp5; subst e2; replace hB2 := hB2.below hb6; replace hY := hY.below hb6; replace hp2 := hp2.below hb6; replace hp3 := hp3.below hb6; replace hac2 := hac2.trans (hb6.mono hac2.size); clear hb6)
        | (go_at_call 19; refine (same_self hp2 hp5).mono ?_; rintro e w7 ⟨rfl, hb7⟩; replace hB2 := hB2.below hb7; replace hY := hY.below hb7; replace hp3 := hp3.below hb7; replace hac2 := hac2.trans (hb7.mono hac2.size); clear hb7; obtain ⟨q0, q1, q2, q3, q4, q5, q6, q7, q8, q9, q10, q11, q12, q13⟩ := hd_cells (h := h) hB2; (obtain ⟨r0, r1, r2, r3, r4, r5, r6, r7, r8, r9, r10, r11, r12, r13⟩ := hd_cells (h := h) hY); have hit := rsame_head h hp3 (hp0.below hac2); unfold Hd.it at hit)
        | (go_at_call 27; refine hit.mono ?_; rintro e w8 ⟨rfl, hb8⟩; replace hac2 := hac2.trans (hb8.mono hac2.size)))
      go_ret
      exact ⟨rfl, hac2⟩


end Go.Proofs.YthnaanjhmehgcaaGreatDoor

/-
  THE WALK OF RepSays. Conditions: how long the texts may be; what the listed variables hold.
-/
namespace Go.Proofs.YthnaanjhmehgcaaGreatDoor
open Go.ChangeShapes Go.WideShapes Go.ChangeAt Go.RowKit Go.Lib
set_option linter.unusedVariables false
set_option linter.unusedSimpArgs false
set_option maxRecDepth 20000

set_option maxHeartbeats 8000000 in
theorem says_no {w : World} {h : Hd} {a : Option Addr} {n c : Nat}
    (al : ∀ wr, Below w.heap.size w wr → Calls Tryz.prog 7 #[] wr fun e w' => e = .returned (.bool true) ∧ Below wr.heap.size wr w')
    (mn : ∀ wr, Below w.heap.size w wr → Calls Tryz.prog 8 #[.agg (h.cs (.slice a n c))] wr fun e w' => e = .returned (.bool false) ∧ Below wr.heap.size wr w')
    (rw : ∀ wr, Below w.heap.size w wr → Calls Tryz.prog 20 #[.agg (h.cs (.slice a n c))] wr fun e w' => e = .returned (.int .i64 0) ∧ Below wr.heap.size wr w')
    (rec : ∀ wr, Below w.heap.size w wr → Calls Tryz.prog 15 #[.agg (h.cs (.slice a n c))] wr fun e w' => e = .returned (.tuple #[.slice none 0 0, .int .u8 13]) ∧ Below wr.heap.size wr w') :
    Calls Tryz.prog 6 #[.agg (h.cs (.slice a n c))] w fun e w' => e = .returned (.bool true) ∧ Below w.heap.size w w' := by
  have hac := below_alloc w (.cells (h.cs (.slice a n c)) 26)
  have hB : Blk (w.alloc (.cells (h.cs (.slice a n c)) 26)) w.heap.size (h.cs (.slice a n c)) 26 := heap_alloc_new _ _
  have hinf : (Tryz.prog.info? 26).map (·.size) = some (h.cs (.slice a n c)).size := by kernel_rfl
  unfold Hd.cs at hac hB hinf mn rw rec ⊢
  go_enter Tryz.func6, Tryz.ntmps6
  go_wp2_with (first
    | (go_at_call 7; refine (al _ hac).mono ?_; rintro e w1 ⟨rfl, hb1⟩; replace hB := hB.below hb1; replace hac := hac.trans (hb1.mono hac.size); clear hb1)
    | (go_at_call 8; refine (mn _ hac).mono ?_; rintro e w1 ⟨rfl, hb1⟩; replace hB := hB.below hb1; replace hac := hac.trans (hb1.mono hac.size); clear hb1; obtain ⟨q0, q1, q2, q3, q4, q5, q6, q7, q8, q9, q10, q11, q12, q13⟩ := hd_cells (h := h) hB)
    | (go_at_call 20; refine (rw _ hac).mono ?_; rintro e w1 ⟨rfl, hb1⟩; replace hB := hB.below hb1; replace hac := hac.trans (hb1.mono hac.size); clear hb1; clear q0 q1 q2 q3 q4 q5 q6 q7 q8 q9 q10 q11 q12 q13)
    | (go_at_call 15; refine (rec _ hac).mono ?_; rintro e w1 ⟨rfl, hb1⟩; replace hB := hB.below hb1; replace hac := hac.trans (hb1.mono hac.size); clear hb1)
    | (refine wpList_load_row (P := Tryz.prog) rfl 26 (.tmp 1) rfl w.heap.size rfl 26 _ (0, 0) _ hB Tryz.underlying26 rfl hinf ?_))
  all_goals go_ret
  all_goals exact ⟨rfl, hac⟩

set_option maxHeartbeats 8000000 in
theorem says_many {w : World} {h : Hd} {a : Option Addr} {n c : Nat}
    (al : ∀ wr, Below w.heap.size w wr → Calls Tryz.prog 7 #[] wr fun e w' => e = .returned (.bool true) ∧ Below wr.heap.size wr w')
    (mn : ∀ wr, Below w.heap.size w wr → Calls Tryz.prog 8 #[.agg (h.cs (.slice a n c))] wr fun e w' => e = .returned (.bool true) ∧ Below wr.heap.size wr w') :
    Calls Tryz.prog 6 #[.agg (h.cs (.slice a n c))] w fun e w' => e = .returned (.bool true) ∧ Below w.heap.size w w' := by
  have hac := below_alloc w (.cells (h.cs (.slice a n c)) 26)
  have hB : Blk (w.alloc (.cells (h.cs (.slice a n c)) 26)) w.heap.size (h.cs (.slice a n c)) 26 := heap_alloc_new _ _
  have hinf : (Tryz.prog.info? 26).map (·.size) = some (h.cs (.slice a n c)).size := by kernel_rfl
  unfold Hd.cs at hac hB hinf mn ⊢
  go_enter Tryz.func6, Tryz.ntmps6
  go_wp2_with (first
    | (go_at_call 7; refine (al _ hac).mono ?_; rintro e w1 ⟨rfl, hb1⟩; replace hB := hB.below hb1; replace hac := hac.trans (hb1.mono hac.size); clear hb1)
    | (go_at_call 8; refine (mn _ hac).mono ?_; rintro e w1 ⟨rfl, hb1⟩; replace hB := hB.below hb1; replace hac := hac.trans (hb1.mono hac.size); clear hb1; obtain ⟨q0, q1, q2, q3, q4, q5, q6, q7, q8, q9, q10, q11, q12, q13⟩ := hd_cells (h := h) hB)
    | (refine wpList_load_row (P := Tryz.prog) rfl 26 (.tmp 1) rfl w.heap.size rfl 26 _ (0, 0) _ hB Tryz.underlying26 rfl hinf ?_))
  all_goals go_ret
  all_goals exact ⟨rfl, hac⟩

set_option maxHeartbeats 8000000 in
theorem says_wrong {w : World} {h : Hd} {a : Option Addr} {n c : Nat} {W : Int}
    (al : ∀ wr, Below w.heap.size w wr → Calls Tryz.prog 7 #[] wr fun e w' => e = .returned (.bool true) ∧ Below wr.heap.size wr w')
    (mn : ∀ wr, Below w.heap.size w wr → Calls Tryz.prog 8 #[.agg (h.cs (.slice a n c))] wr fun e w' => e = .returned (.bool false) ∧ Below wr.heap.size wr w')
    (rw : ∀ wr, Below w.heap.size w wr → Calls Tryz.prog 20 #[.agg (h.cs (.slice a n c))] wr fun e w' => e = .returned (.int .i64 W) ∧ Below wr.heap.size wr w') (hw : W ≠ 0) :
    Calls Tryz.prog 6 #[.agg (h.cs (.slice a n c))] w fun e w' => e = .returned (.bool true) ∧ Below w.heap.size w w' := by
  have hac := below_alloc w (.cells (h.cs (.slice a n c)) 26)
  have hB : Blk (w.alloc (.cells (h.cs (.slice a n c)) 26)) w.heap.size (h.cs (.slice a n c)) 26 := heap_alloc_new _ _
  have hinf : (Tryz.prog.info? 26).map (·.size) = some (h.cs (.slice a n c)).size := by kernel_rfl
  have e0 : (W != 0) = true := by simpa using hw
  clear hw
  unfold Hd.cs at hac hB hinf mn rw ⊢
  go_enter Tryz.func6, Tryz.ntmps6
  go_wp2_with (first
    | (go_at_call 7; refine (al _ hac).mono ?_; rintro e w1 ⟨rfl, hb1⟩; replace hB := hB.below hb1; replace hac := hac.trans (hb1.mono hac.size); clear hb1)
    | (go_at_call 8; refine (mn _ hac).mono ?_; rintro e w1 ⟨rfl, hb1⟩; replace hB := hB.below hb1; replace hac := hac.trans (hb1.mono hac.size); clear hb1; obtain ⟨q0, q1, q2, q3, q4, q5, q6, q7, q8, q9, q10, q11, q12, q13⟩ := hd_cells (h := h) hB)
    | (go_at_call 20; refine (rw _ hac).mono ?_; rintro e w1 ⟨rfl, hb1⟩; replace hB := hB.below hb1; replace hac := hac.trans (hb1.mono hac.size); clear hb1; clear q0 q1 q2 q3 q4 q5 q6 q7 q8 q9 q10 q11 q12 q13)
    | (refine wpList_load_row (P := Tryz.prog) rfl 26 (.tmp 1) rfl w.heap.size rfl 26 _ (0, 0) _ hB Tryz.underlying26 rfl hinf ?_))
  all_goals go_ret
  all_goals exact ⟨rfl, hac⟩

theorem path_get {h : Hd} {l : PL} (e : wrongH h l = 0) (hI : I64 h) : getK (recA h l) ⟨#[112, 97, 116, 104]⟩ = if (!canN 2 h l.length 2) = true then some (valF h 2) else none := by
  have hS : Srt (recA h l) := layL_srt _ _ Srt.nil
  have hk : keyF 2 = ⟨#[112, 97, 116, 104]⟩ := rfl
  have h1 := recA_key e hI 2 (by decide)
  rw [← hk]
  cases hc : canN 2 h l.length 2
  · rw [hc, if_pos rfl] at h1
    rw [mem_getK _ _ _ hS.dst (last_mem _ _ _ h1)]; rfl
  · rw [hc, if_neg (by simp)] at h1
    cases hg : getK (recA h l) (keyF 2) with
    | none => rfl
    | some v =>
      rw [dst_last _ _ _ hS.dst (getK_mem _ _ _ hg)] at h1
      cases h1

/-- whatever is handed in -/
theorem says_walk {w : World} {a : Option Addr} {n c : Nat} {l : PL} (h : Hd) (hp : Pys w a n c l) (hnl : a = none → n = 0 ∧ c = 0) (hz : ∀ p ∈ l, p.1.size ≤ 140737488351232 ∧ p.2.size ≤ 140737488351232)
    (h1 : h.name.size ≤ 140737488351232) (h2 : h.link.size ≤ 140737488351232) (h3 : h.user.size ≤ 140737488351232) (h4 : h.group.size ≤ 140737488351232) (hI : I64 h) (hL : Laid w) :
    Calls Tryz.prog 6 #[.agg (h.cs (.slice a n c))] w fun e w' => e = .returned (.bool true) ∧ Below w.heap.size w w' := by
  have al := fun (wr : World) (hb : Below w.heap.size w wr) => alive_ok wr (hL.below hb)
  have mn := fun (wr : World) (hb : Below w.heap.size w wr) => many_all h (hp.below hb) hz h1 h2 h3 h4
  by_cases hm : 300000 < sumH h + totN l ∨ 40 < n
  · rw [decide_eq_true hm] at mn
    exact says_many al mn
  · rw [decide_eq_false hm] at mn
    have hS : Sml l := fun p hp' => by have := mem_tot l p hp'; omega
    have hn40 : n ≤ 40 := by omega
    have hsum : h.name.size + h.link.size + h.user.size + h.group.size ≤ 300000 := by unfold sumH at hm; omega
    have hw0 := fun (wr : World) (hb : Below w.heap.size w wr) => wrg_is h (hp.below hb) hS (by omega) (hL.below hb)
    have rw := fun (wr : World) (hb : Below w.heap.size w wr) => wrong_ok h (hp.below hb) hS (by omega) (hL.below hb)
    by_cases hW : wrongH h l = 0
    · have hri := fun (wr : World) (hb : Below w.heap.size w wr) => rh_of (hp.below hb) hnl hn40 hS hI hW (hL.below hb)
      have hw1 := fun (wr : World) (hb : Below w.heap.size w wr) => hW ▸ hw0 wr hb
      have hnn : l.length = n := hp.1
      rw [hW] at rw
      cases hT : txtsB h n
      · exact says_no al mn rw fun wr hb => records_no h (hw1 wr hb) (hri wr hb).r hT
      · have hre := fun (wr : World) (hb : Below w.heap.size w wr) => records_yes h (hw1 wr hb) (hri wr hb).r hT
        have hT' : txtsB h l.length = true := by rw [hnn]; exact hT
        have hR : recO h l = recA h l := by unfold recO; rw [if_pos hT']
        have hsm := (hri w (Below.refl _ _)).r.sml
        have hrl := (hri w (Below.refl _ _)).r.len
        have hov := recs_ov hW hI hT'
        have hlen := lenS_recA hW hI (by omega) (by omega)
        rw [hR] at hre hsm hrl hov
        have hrg : Rgt (recA h l) := ((ovB_iff _).1 hov).2.2
        obtain ⟨P, hP⟩ : ∃ P, prn (recA h l) [] = some P := ⟨_, prn_some _ _ hrg⟩
        obtain ⟨hP1, hP2⟩ := printed_back hsm hP
        have hback := app_back hW hI (bare_all hW hI)
        have htold := told_back hW (l := l)
        have hpg := path_get hW hI
        have hN1 : (!canN 2 h l.length 2) = true → toldS h.kind (if canN 2 h l.length 2 = false then valF h 2 else h.name) = h.name := by
          intro hc
          rw [if_pos (by simpa using hc)]; exact htold
        have hN2 : (!canN 2 h l.length 2) = false → (if canN 2 h l.length 2 = false then valF h 2 else h.name) = h.name := by
          intro hc
          rw [if_neg (by simpa using hc)]
        have hNs : (if canN 2 h l.length 2 = false then valF h 2 else h.name).size ≤ 9000000000000000000 := by
          have v2 : (valF h 2).size ≤ h.name.size + 1 := by
            obtain ⟨f0, t0, hL⟩ := fulls_ne h.kind h.name
            have hm : f0 ∈ fulls h.kind h.name := by rw [hL]; exact List.mem_cons_self ..
            have hv : valF h 2 = f0 := by show (fulls h.kind h.name).headD ⟨#[]⟩ = f0; rw [hL]; rfl
            have hs2 : (h.name ++ ⟨#[47]⟩ : ByteArray).size = h.name.size + 1 := by rw [ByteArray.size_append]; rfl
            rw [hv]
            rcases full_mem hm with rfl | rfl
            · omega
            · omega
          split <;> omega
        have hget : getK (recA h l) ⟨#[112, 97, 116, 104]⟩ = if (!canN 2 h l.length 2) = true then some (if canN 2 h l.length 2 = false then valF h 2 else h.name) else none := by
          rw [hpg]
          cases canN 2 h l.length 2 <;> rfl
        exact says_yes hp hL hsm hrl hov _ hback (recA_rest hW hI) _ hget hN1 hN2 hNs P hP (by omega) hP2 al mn rw hre
    · exact says_wrong al mn rw hW

end Go.Proofs.YthnaanjhmehgcaaGreatDoor
