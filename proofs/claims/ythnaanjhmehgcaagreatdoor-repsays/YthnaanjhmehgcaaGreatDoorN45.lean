/-
  THE DOCUMENT's WORD ON WHETHER PAIRS ARE AN OVERLAY; AND WHAT FOLLOWS OF IT. Conditions: those that each part names.
-/
import Derived.Test.YthnaanjhmehgcaaGreatDoorN37
import Derived.Test.YthnaanjhmehgcaaGreatDoorN42
import Derived.Test.YthnaanjhmehgcaaGreatDoorN22
import Derived.Test.YthnaanjhmehgcaaGreatDoorN44
import Derived.Test.YthnaanjhmehgcaaGreatDoorN21
import Derived.Laws.Tables
import Derived.Deep.CutRange
import Derived.Lib.SmallJoins
/-
  THE DOCUMENT's WORD ON WHETHER PAIRS ARE AN OVERLAY. Conditions: how many pairs there are, and how many bytes they have.
-/
namespace Go.Proofs.YthnaanjhmehgcaaGreatDoor
open Go.ChangeShapes Go.WideShapes Go.ChangeAt Go.RowKit Go.Lib
set_option linter.unusedVariables false
set_option linter.unusedSimpArgs false
set_option maxRecDepth 20000

theorem ov_lay (l : PL) : ovB none l = (rgB l && decide (layL [] (l ++ []) = l)) := by
  rw [List.append_nil, Bool.eq_iff_iff, ovB_iff, Bool.and_eq_true, rgB_iff, decide_eq_true_eq]
  constructor
  · rintro ⟨h1, h2, h3⟩
    exact ⟨h3, lay_self l h1 h2⟩
  · rintro ⟨h3, h⟩
    refine ⟨?_, ?_, h3⟩
    · rw [← h]; exact layL_srt l [] Srt.nil
    · rw [← h]; exact layL_ful l [] Ful.nil

set_option maxHeartbeats 4000000 in
theorem rright8_ok {w : World} {a : Option Addr} {n c : Nat} {l : PL} (h : Pys w a n c l) (hz : Sml l) (hn : n ≤ 1000) (hnl : a = none → n = 0 ∧ c = 0) :
    Calls Tryz.prog 72 #[.slice a n c] w fun e w' => e = .returned (.bool (ovB none l)) ∧ Below w.heap.size w w' := by
  have hm1 := h.2.1
  have hm2 := h.2.2.1
  rw [ov_lay l]
  obtain ⟨R, hR⟩ : ∃ R, R = layL [] (l ++ []) := ⟨_, rfl⟩
  have hnil := fun (w' : World) => (⟨rfl, Nat.le_refl _, by omega, .inl ⟨rfl, rfl⟩⟩ : Pys w' none 0 0 [])
  have hly := fun w' (hb : Below w.heap.size w w') => rlay_ok (h.below hb) (hnil w') hn (by omega) hnl (fun _ => ⟨rfl, rfl⟩)
  rw [← hR] at hly ⊢
  have hl := hid h.1
  have hz' := hid hz
  clear hR hz
  obtain ⟨Q, hQ⟩ : ∃ Q, Q = rgB l := ⟨_, rfl⟩
  rw [← hQ]
  have hQ0 := hid (by rw [hQ, List.drop_zero] : Q = rgB (l.drop 0))
  clear hQ
  go_enter Tryz.func72, Tryz.ntmps72
  go_wp2
  go_loopw [3] (fun x wr => ∃ k : Nat, x = .int .i64 k ∧ k ≤ n ∧ Below w.heap.size w wr ∧ Hid (Q = rgB (l.drop k))) (fun x _ => n - (RowKit.intOf x).toNat)
  case atStart => exact ⟨0, rfl, by omega, Below.refl _ _, hQ0⟩
  case round =>
    obtain ⟨k, rfl, hk, hb, hr⟩ := hrel
    by_cases hlt : k < n
    · obtain ⟨b, off, rfl, hc⟩ := h.some_of (by omega)
      obtain ⟨ky, vl, hmem, hd, c0, c1⟩ := (hc.below hb).at k (by rw [hl.out]; exact hlt)
      obtain ⟨z1, z2⟩ := hz'.out _ hmem
      simp only at z1 z2
      have hkI : (k : Int) < (n : Int) := by omega
      have hrr := rr_ok ky vl z1 z2 wr
      have hrk := rgB_drop hd.out
      cases hRt : rightP (bs ky) (bs vl)
      · have E : Q = false := by rw [hr.out, hrk, hRt]; rfl
        rw [hRt] at hrr
        subst E
        clear hr hd hmem hrk hRt hQ0
        go_wp2_with (go_at_call 105; refine hrr.mono ?_; rintro e w1 ⟨rfl, hb1⟩)
        all_goals go_ret
        all_goals exact ⟨rfl, hb.trans (hb1.mono hb.size)⟩
      · have E := hid (by rw [hr.out, hrk, hRt]; rfl : Q = rgB (l.drop (k + 1)))
        rw [hRt] at hrr
        clear hr hd hmem hrk hRt
        go_wp2_with (go_at_call 105; refine hrr.mono ?_; rintro e w1 ⟨rfl, hb1⟩)
        go_roundw
        case rel => exact ⟨k + 1, by go_num, by omega, hb.trans (hb1.mono hb.size), E⟩
        case measure => simp [RowKit.intOf]; omega
    · obtain rfl : k = n := by omega
      have E : Q = true := by rw [hr.out, List.drop_eq_nil_iff.mpr (by rw [hl.out]; exact Nat.le_refl _)]; rfl
      have hkI : ¬ (k : Int) < (k : Int) := by omega
      subst E
      clear hr hQ0
      go_wp2_with (first
        | (go_at_call 42; refine (hly _ hb).mono ?_; rintro e w1 ⟨a2, m2, c2, rfl, hp2, hb1⟩; replace hb := hb.trans (hb1.mono hb.size))
        | (go_at_call 19; refine (same_ok hp2 (h.below hb)).mono ?_; rintro e w2 ⟨rfl, hb2⟩; replace hb := hb.trans (hb2.mono hb.size)))
      all_goals go_ret
      all_goals exact ⟨rfl, hb⟩

end Go.Proofs.YthnaanjhmehgcaaGreatDoor

/-
  THE DOCUMENT's WORD ON WHICH FIELDS OF A HEAD ARE RIGHT. Conditions: how long the texts and lists may be.
-/
namespace Go.Proofs.YthnaanjhmehgcaaGreatDoor
open Go.ChangeShapes Go.WideShapes Go.ChangeAt Go.RowKit Go.Lib
set_option linter.unusedVariables false
set_option linter.unusedSimpArgs false
set_option maxRecDepth 20000

theorem hd_cells {w : World} {g : Nat} {t : TypeId} {h : Hd} {x : Value} (hB : Blk w g (h.cs x) t) :
    w.cell? ⟨g, 0, none⟩ = some (.int .i64 h.kind) ∧ w.cell? ⟨g, 1, none⟩ = some (.string h.name) ∧ w.cell? ⟨g, 2, none⟩ = some (.string h.link) ∧ w.cell? ⟨g, 3, none⟩ = some (.int .i64 h.mode) ∧ w.cell? ⟨g, 4, none⟩ = some (.int .i64 h.uid) ∧ w.cell? ⟨g, 5, none⟩ = some (.int .i64 h.gid) ∧ w.cell? ⟨g, 6, none⟩ = some (.int .i64 h.size) ∧
    w.cell? ⟨g, 7, none⟩ = some (.int .i64 h.sec) ∧ w.cell? ⟨g, 8, none⟩ = some (.int .i64 h.nano) ∧ w.cell? ⟨g, 9, none⟩ = some (.string h.user) ∧ w.cell? ⟨g, 10, none⟩ = some (.string h.group) ∧ w.cell? ⟨g, 11, none⟩ = some (.int .i64 h.major) ∧ w.cell? ⟨g, 12, none⟩ = some (.int .i64 h.minor) ∧ w.cell? ⟨g, 13, none⟩ = some x :=
  ⟨hB.cell 0, hB.cell 1, hB.cell 2, hB.cell 3, hB.cell 4, hB.cell 5, hB.cell 6, hB.cell 7, hB.cell 8, hB.cell 9, hB.cell 10, hB.cell 11, hB.cell 12, hB.cell 13⟩

abbrev zB : Array Value := #[.bool false, .bool false, .bool false, .bool false, .bool false, .bool false, .bool false, .bool false, .bool false, .bool false, .bool false, .bool false, .bool false, .bool false]

/-- what is held of the memory: the head, the result's place, the list of answers -/
structure Inv (w wc : World) (h : Hd) (x : Value) (cs : Array Value) : Prop where
  hd : Blk wc w.heap.size (h.cs x) 26
  zz : Blk wc (w.heap.size + 1) zB 63
  rr : Blk wc (w.heap.size + 2) cs 63
  bel : Below w.heap.size w wc
theorem blk_free {w : World} {g : Nat} {cs : Array Value} {t : TypeId} (h : Blk w g cs t) (i : Nat) : w.frozen? ⟨g, i, none⟩ = false := Joins.unfrozen_of_block h i
theorem Blk.other {w : World} {g k i : Nat} {cs : Array Value} {t : TypeId} (h : Blk w g cs t) (hne : g ≠ k) (v : Value) : Blk (w.setCell ⟨k, i, none⟩ v) g cs t := by
  unfold Blk at *
  rw [Below.heap_setCell w ⟨k, i, none⟩ v g hne]; exact h
theorem Inv.set {w wc : World} {h : Hd} {x : Value} {cs : Array Value} (H : Inv w wc h x cs) (i : Nat) (v : Value) : Inv w (wc.setCell ⟨w.heap.size + 2, i, none⟩ v) h x (cs.setIfInBounds i v) :=
  ⟨H.hd.other (by omega) v, H.zz.other (by omega) v, H.rr.set v, H.bel.setCell (p := ⟨w.heap.size + 2, i, none⟩) (by show w.heap.size ≤ w.heap.size + 2; omega) _⟩
theorem Inv.below {w wc w2 : World} {h : Hd} {x : Value} {cs : Array Value} (H : Inv w wc h x cs) (hb : Below wc.heap.size wc w2) : Inv w w2 h x cs :=
  ⟨H.hd.below hb, H.zz.below hb, H.rr.below hb, H.bel.trans (hb.mono H.bel.size)⟩

theorem below_setRow {B : Nat} {a w : World} (h : Below B a w) {g : Nat} (hg : B ≤ g) (cs : Array Value) : Below B a (w.setRow g cs) :=
  ⟨h.os, h.tape, h.output, by have := h.size; simpa [World.setRow] using this, fun k hk => (setRow_other w g k cs (by omega)).trans (h.block k hk)⟩

theorem bools_one (b1 b2 b3 b4 b5 b6 b7 b8 b9 b10 b11 b12 b13 : Bool) : (#[.bool false, .bool b1, .bool b2, .bool b3, .bool b4, .bool b5, .bool b6, .bool b7, .bool b8, .bool b9, .bool b10, .bool b11, .bool b12, .bool b13] : Array Value).all (·.oneCell') = true := by kernel_rfl

theorem txt_alt (s : ByteArray) : txtR s = ((s.toList == []) || namR s) := by
  unfold namR
  cases h : (s.toList == [])
  · simp
  · have e : s = ⟨#[]⟩ := by
      have h2 : s.toList = [] := by simpa using h
      rw [toList_data] at h2
      apply ByteArray.ext
      exact Array.toList_eq_nil_iff.1 h2
    subst e
    rfl

theorem which_neg (k : List UInt8) : decide (whichK k < 0) = !(kindK k != 0) := by
  rcases which_kind k with ⟨h1, h2⟩ | ⟨h1, _, h2⟩ | ⟨h1, _, h2⟩ | ⟨h1, h2⟩
  · rw [h1, h2]; rfl
  · rw [h2, decide_eq_false (by omega)]; rfl
  · rw [h2, decide_eq_false (by omega)]; rfl
  · rw [h2, h1]; rfl

set_option maxHeartbeats 16000000 in
theorem rfields_ok {w : World} {a : Option Addr} {n c : Nat} {l : PL} (h : Hd) (hp : Pys w a n c l) (hz : Sml l) (hn : n ≤ 1000) (hnl : a = none → n = 0 ∧ c = 0)
    (h1 : h.name.size ≤ 1000000) (h2 : h.link.size ≤ 1000000) (h3 : h.user.size ≤ 1000000) (h4 : h.group.size ≤ 1000000) :
    Calls Tryz.prog 30 #[.agg (h.cs (.slice a n c))] w fun e w' => e = .returned (.agg #[.bool false, .bool (kndR h.kind), .bool (fnameR h), .bool (flinkR h), .bool (decide (0 ≤ h.mode)), .bool (decide (0 ≤ h.uid)), .bool (decide (0 ≤ h.gid)), .bool (numR h.size (h.kind == 1)), .bool (decide (0 ≤ h.nano ∧ h.nano < 1000000000)), .bool (txtR h.user), .bool (txtR h.group), .bool (numR h.major (devR h.kind)), .bool (numR h.minor (devR h.kind)), .bool (fextraR l)]) ∧ Below w.heap.size w w' := by
  have c1 := rname_ok h.name h1
  have c2 := rname_ok h.link h2
  have c3 := rname_ok h.user h3
  have c4 := rname_ok h.group h4
  have c5 := rslash_ok h.name (by omega)
  have c6 := drright_ok h.sec h.nano
  have c7 := fun (wr : World) (hb : Below w.heap.size w wr) => rright8_ok (hp.below hb) hz hn hnl
  have hm1 := hp.2.1
  have hm2 := hp.2.2.1
  have hI0 : Blk ((w.alloc (.cells (h.cs (.slice a n c)) 26)).alloc (.cells zB 63)) w.heap.size (h.cs (.slice a n c)) 26 ∧ Blk ((w.alloc (.cells (h.cs (.slice a n c)) 26)).alloc (.cells zB 63)) (w.heap.size + 1) zB 63 ∧ Below w.heap.size w ((w.alloc (.cells (h.cs (.slice a n c)) 26)).alloc (.cells zB 63)) ∧ ((w.alloc (.cells (h.cs (.slice a n c)) 26)).alloc (.cells zB 63)).heap.size = w.heap.size + 2 := by
    have e : (w.alloc (.cells (h.cs (.slice a n c)) 26)).heap.size = w.heap.size + 1 := by simp
    have b1 : Blk (w.alloc (.cells (h.cs (.slice a n c)) 26)) w.heap.size (h.cs (.slice a n c)) 26 := heap_alloc_new _ _
    exact ⟨b1.below (below_alloc _ _), (two_new w _ _).2, (two_new w _ _).1, by simp⟩
  generalize hq1 : namR h.name = q1 at *
  generalize hq2 : namR h.link = q2 at *
  generalize hq3 : namR h.user = q3 at *
  generalize hq4 : namR h.group = q4 at *
  generalize hq5 : endsS h.name = q5 at *
  generalize hq8 : decide (0 ≤ h.nano ∧ h.nano < 1000000000) = q8 at c6
  replace hq8 := hid hq8
  replace hq1 := hid hq1
  replace hq2 := hid hq2
  replace hq3 := hid hq3
  replace hq4 := hid hq4
  replace hq5 := hid hq5
  unfold Hd.cs zB at hI0
  unfold Hd.cs
  go_enter Tryz.func30, Tryz.ntmps30
  go_upto_region 1 with fail
  go_cut [3] from 7 to 14 (fun v wc => v = .bool (h.kind == 2 || h.kind == 3) ∧ Blk wc w.heap.size (h.cs (.slice a n c)) 26 ∧ Blk wc (w.heap.size + 1) zB 63 ∧ Below w.heap.size w wc ∧ wc.heap.size = w.heap.size + 2)
  case first =>
    cases e2 : (h.kind == 2)
    · go_wp2
      go_meet
      case rel => exact ⟨by rw [e2]; rfl, hI0⟩
    · go_wp2
      go_meet
      case rel => exact ⟨by rw [e2]; rfl, hI0⟩
  case rest =>
  obtain ⟨rfl, hA1, hA2, hA3, hA4⟩ := hcut
  generalize hlk : (h.kind == 2 || h.kind == 3) = lk at *
  replace hlk := hid hlk
  clear hI0
  have k0 : wc.cell? ⟨w.heap.size, 0, none⟩ = some (.int .i64 h.kind) := hA1.cell 0
  go_upto_region 2 with fail
  go_cut [4] from 15 to 22 (fun v wd => v = .bool (devR h.kind) ∧ wd = wc)
  case first =>
    cases e2 : (h.kind == 4)
    · go_wp2
      go_meet
      case rel => exact ⟨by unfold devR; rw [e2]; rfl, rfl⟩
    · go_wp2
      go_meet
      case rel => exact ⟨by unfold devR; rw [e2]; rfl, rfl⟩
  case rest =>
  obtain ⟨rfl, hwd⟩ := hcut
  subst hwd
  generalize hdv : devR h.kind = dv at *
  replace hdv := hid hdv
  go_upto_region 3 with fail
  go_cut [5] from 22 to 22 (fun p wc1 => p = .pointer (some ⟨w.heap.size + 2, 0, none⟩) ∧ Inv w wc1 h (.slice a n c) zB)
  case first =>
    go_wp2
    go_meet
    case rel => exact ⟨rfl, hA1.below (below_alloc _ _), hA2.below (below_alloc _ _), by rw [← hA4]; exact heap_alloc_new _ _, hA3.trans ((below_alloc _ _).mono hA3.size)⟩
  case rest =>
  obtain ⟨rfl, hI⟩ := hcut
  clear hA1 hA2 hA3 hA4 k0
  go_upto_region 4 with fail
  go_cut [5] from 23 to 31 (fun p wc2 => p = .pointer (some ⟨w.heap.size + 2, 0, none⟩) ∧ Inv w wc2 h (.slice a n c) #[.bool false, .bool (kndR h.kind), .bool false, .bool false, .bool false, .bool false, .bool false, .bool false, .bool false, .bool false, .bool false, .bool false, .bool false, .bool false])
  case first =>
    clear c1 c2 c3 c4 c5 c6 c7 hp hz hn hnl h1 h2 h3 h4 hm1 hm2 hq1 hq2 hq3 hq4 hq5 hlk
    have k0 : wc.cell? ⟨w.heap.size, 0, none⟩ = some (.int .i64 h.kind) := hI.hd.cell 0
    have yy := blk_free hI.rr 1
    have xx : wc.cell? ⟨w.heap.size + 2, 1, none⟩ = some (.bool false) := hI.rr.cell 1
    by_cases g1 : 1 ≤ h.kind
    · by_cases g2 : h.kind ≤ 7
      · have E : kndR h.kind = true := by unfold kndR; exact decide_eq_true ⟨g1, g2⟩
        go_wp2
        go_meet
        case rel => exact ⟨rfl, by rw [E]; exact hI.set 1 _⟩
      · have E : kndR h.kind = false := by unfold kndR; exact decide_eq_false fun g => g2 g.2
        go_wp2
        go_meet
        case rel => exact ⟨rfl, by rw [E]; exact hI.set 1 _⟩
    · have E : kndR h.kind = false := by unfold kndR; exact decide_eq_false fun g => g1 g.1
      go_wp2
      go_meet
      case rel => exact ⟨rfl, by rw [E]; exact hI.set 1 _⟩
  case rest =>
  clear hI
  obtain ⟨rfl, hI⟩ := hcut
  go_upto_region 5 with fail
  go_cut [5] from 32 to 46 (fun p wc3 => p = .pointer (some ⟨w.heap.size + 2, 0, none⟩) ∧ Inv w wc3 h (.slice a n c) #[.bool false, .bool (kndR h.kind), .bool (fnameR h), .bool false, .bool false, .bool false, .bool false, .bool false, .bool false, .bool false, .bool false, .bool false, .bool false, .bool false])
  case first =>
    clear c2 c3 c4 c6 c7 hp hz hn hnl h1 h2 h3 h4 hm1 hm2 hq2 hq3 hq4 hlk
    have k0 : wc.cell? ⟨w.heap.size, 0, none⟩ = some (.int .i64 h.kind) := hI.hd.cell 0
    have k1 : wc.cell? ⟨w.heap.size, 1, none⟩ = some (.string h.name) := hI.hd.cell 1
    have yy := blk_free hI.rr 2
    have xx : wc.cell? ⟨w.heap.size + 2, 2, none⟩ = some (.bool false) := hI.rr.cell 2
    cases q1
    · have E : fnameR h = false := by unfold fnameR; rw [hq1.out]; rfl
      go_wp2_with (go_at_call 70; refine (c1 _).mono ?_; rintro e w1 ⟨rfl, hb1⟩; have hI1 := hI.below hb1; clear xx yy k0 k1; (have k0 : w1.cell? ⟨w.heap.size, 0, none⟩ = some (.int .i64 h.kind) := hI1.hd.cell 0); (have k1 : w1.cell? ⟨w.heap.size, 1, none⟩ = some (.string h.name) := hI1.hd.cell 1); have yy := blk_free hI1.rr 2; (have xx : w1.cell? ⟨w.heap.size + 2, 2, none⟩ = some (.bool false) := hI1.rr.cell 2))
      go_meet
      case rel => exact ⟨rfl, by rw [E]; exact hI1.set 2 _⟩
    · cases e2 : (h.kind == 1)
      · have E : fnameR h = true := by unfold fnameR; rw [hq1.out, e2]; rfl
        go_wp2_with (go_at_call 70; refine (c1 _).mono ?_; rintro e w1 ⟨rfl, hb1⟩; have hI1 := hI.below hb1; clear xx yy k0 k1; (have k0 : w1.cell? ⟨w.heap.size, 0, none⟩ = some (.int .i64 h.kind) := hI1.hd.cell 0); (have k1 : w1.cell? ⟨w.heap.size, 1, none⟩ = some (.string h.name) := hI1.hd.cell 1); have yy := blk_free hI1.rr 2; (have xx : w1.cell? ⟨w.heap.size + 2, 2, none⟩ = some (.bool false) := hI1.rr.cell 2))
        go_meet
        case rel => exact ⟨rfl, by rw [E]; exact hI1.set 2 _⟩
      · have E : fnameR h = !q5 := by unfold fnameR; rw [hq1.out, e2, hq5.out]; rfl
        go_wp2_with (first | (go_at_call 70; refine (c1 _).mono ?_; rintro e w1 ⟨rfl, hb1⟩; have hI1 := hI.below hb1; clear xx yy k0 k1; (have k0 : w1.cell? ⟨w.heap.size, 0, none⟩ = some (.int .i64 h.kind) := hI1.hd.cell 0); (have k1 : w1.cell? ⟨w.heap.size, 1, none⟩ = some (.string h.name) := hI1.hd.cell 1); have yy := blk_free hI1.rr 2; (have xx : w1.cell? ⟨w.heap.size + 2, 2, none⟩ = some (.bool false) := hI1.rr.cell 2)) | (go_at_call 37; refine (c5 _).mono ?_; rintro e w' ⟨hw, rfl⟩; obtain rfl := hw.symm))
        go_meet
        case rel => exact ⟨rfl, by rw [E]; exact hI1.set 2 _⟩
  case rest =>
  clear hI
  obtain ⟨rfl, hI⟩ := hcut
  go_upto_region 6 with fail
  go_cut [5] from 47 to 62 (fun p wc4 => p = .pointer (some ⟨w.heap.size + 2, 0, none⟩) ∧ Inv w wc4 h (.slice a n c) #[.bool false, .bool (kndR h.kind), .bool (fnameR h), .bool (flinkR h), .bool false, .bool false, .bool false, .bool false, .bool false, .bool false, .bool false, .bool false, .bool false, .bool false])
  case first =>
    clear c1 c3 c4 c5 c6 c7 hp hz hn hnl h1 h2 h3 h4 hm1 hm2 hq1 hq3 hq4 hq5
    have k2 : wc.cell? ⟨w.heap.size, 2, none⟩ = some (.string h.link) := hI.hd.cell 2
    have yy := blk_free hI.rr 3
    have xx : wc.cell? ⟨w.heap.size + 2, 3, none⟩ = some (.bool false) := hI.rr.cell 3
    cases lk
    · have E : flinkR h = h.link.toList.isEmpty := by unfold flinkR; rw [hlk.out]; show (h.link.toList == []) = _; cases h.link.toList <;> rfl
      go_wp2
      go_meet
      case rel => exact ⟨rfl, by rw [E]; exact hI.set 3 _⟩
    · cases q2
      · have E : flinkR h = false := by unfold flinkR; rw [hlk.out, hq2.out]; rfl
        go_wp2_with (go_at_call 70; refine (c2 _).mono ?_; rintro e w1 ⟨rfl, hb1⟩; have hI1 := hI.below hb1; clear xx yy k2; (have k2 : w1.cell? ⟨w.heap.size, 2, none⟩ = some (.string h.link) := hI1.hd.cell 2); have yy := blk_free hI1.rr 3; (have xx : w1.cell? ⟨w.heap.size + 2, 3, none⟩ = some (.bool false) := hI1.rr.cell 3))
        go_meet
        case rel => exact ⟨rfl, by rw [E]; exact hI1.set 3 _⟩
      · have E : flinkR h = true := by unfold flinkR; rw [hlk.out, hq2.out]; rfl
        go_wp2_with (go_at_call 70; refine (c2 _).mono ?_; rintro e w1 ⟨rfl, hb1⟩; have hI1 := hI.below hb1; clear xx yy k2; (have k2 : w1.cell? ⟨w.heap.size, 2, none⟩ = some (.string h.link) := hI1.hd.cell 2); have yy := blk_free hI1.rr 3; (have xx : w1.cell? ⟨w.heap.size + 2, 3, none⟩ = some (.bool false) := hI1.rr.cell 3))
        go_meet
        case rel => exact ⟨rfl, by rw [E]; exact hI1.set 3 _⟩
  case rest =>
  clear hI
  obtain ⟨rfl, hI⟩ := hcut
  go_upto_region 7 with fail
  go_cut [5] from 63 to 66 (fun p wc5 => p = .pointer (some ⟨w.heap.size + 2, 0, none⟩) ∧ Inv w wc5 h (.slice a n c) #[.bool false, .bool (kndR h.kind), .bool (fnameR h), .bool (flinkR h), .bool (decide (0 ≤ h.mode)), .bool false, .bool false, .bool false, .bool false, .bool false, .bool false, .bool false, .bool false, .bool false])
  case first =>
    clear c1 c2 c3 c4 c5 c6 c7 hp hz hn hnl h1 h2 h3 h4 hm1 hm2 hq1 hq2 hq3 hq4 hq5 hlk
    have k3 : wc.cell? ⟨w.heap.size, 3, none⟩ = some (.int .i64 h.mode) := hI.hd.cell 3
    have yy := blk_free hI.rr 4
    have xx : wc.cell? ⟨w.heap.size + 2, 4, none⟩ = some (.bool false) := hI.rr.cell 4
    go_wp2
    go_meet
    case rel => exact ⟨rfl, hI.set 4 _⟩
  case rest =>
  clear hI
  obtain ⟨rfl, hI⟩ := hcut
  go_upto_region 8 with fail
  go_cut [5] from 67 to 70 (fun p wc6 => p = .pointer (some ⟨w.heap.size + 2, 0, none⟩) ∧ Inv w wc6 h (.slice a n c) #[.bool false, .bool (kndR h.kind), .bool (fnameR h), .bool (flinkR h), .bool (decide (0 ≤ h.mode)), .bool (decide (0 ≤ h.uid)), .bool false, .bool false, .bool false, .bool false, .bool false, .bool false, .bool false, .bool false])
  case first =>
    clear c1 c2 c3 c4 c5 c6 c7 hp hz hn hnl h1 h2 h3 h4 hm1 hm2 hq1 hq2 hq3 hq4 hq5 hlk
    have k4 : wc.cell? ⟨w.heap.size, 4, none⟩ = some (.int .i64 h.uid) := hI.hd.cell 4
    have yy := blk_free hI.rr 5
    have xx : wc.cell? ⟨w.heap.size + 2, 5, none⟩ = some (.bool false) := hI.rr.cell 5
    go_wp2
    go_meet
    case rel => exact ⟨rfl, hI.set 5 _⟩
  case rest =>
  clear hI
  obtain ⟨rfl, hI⟩ := hcut
  go_upto_region 9 with fail
  go_cut [5] from 71 to 74 (fun p wc7 => p = .pointer (some ⟨w.heap.size + 2, 0, none⟩) ∧ Inv w wc7 h (.slice a n c) #[.bool false, .bool (kndR h.kind), .bool (fnameR h), .bool (flinkR h), .bool (decide (0 ≤ h.mode)), .bool (decide (0 ≤ h.uid)), .bool (decide (0 ≤ h.gid)), .bool false, .bool false, .bool false, .bool false, .bool false, .bool false, .bool false])
  case first =>
    clear c1 c2 c3 c4 c5 c6 c7 hp hz hn hnl h1 h2 h3 h4 hm1 hm2 hq1 hq2 hq3 hq4 hq5 hlk
    have k5 : wc.cell? ⟨w.heap.size, 5, none⟩ = some (.int .i64 h.gid) := hI.hd.cell 5
    have yy := blk_free hI.rr 6
    have xx : wc.cell? ⟨w.heap.size + 2, 6, none⟩ = some (.bool false) := hI.rr.cell 6
    go_wp2
    go_meet
    case rel => exact ⟨rfl, hI.set 6 _⟩
  case rest =>
  clear hI
  obtain ⟨rfl, hI⟩ := hcut
  go_upto_region 10 with fail
  go_cut [5] from 75 to 88 (fun p wc8 => p = .pointer (some ⟨w.heap.size + 2, 0, none⟩) ∧ Inv w wc8 h (.slice a n c) #[.bool false, .bool (kndR h.kind), .bool (fnameR h), .bool (flinkR h), .bool (decide (0 ≤ h.mode)), .bool (decide (0 ≤ h.uid)), .bool (decide (0 ≤ h.gid)), .bool (numR h.size (h.kind == 1)), .bool false, .bool false, .bool false, .bool false, .bool false, .bool false])
  case first =>
    clear c1 c2 c3 c4 c5 c6 c7 hp hz hn hnl h1 h2 h3 h4 hm1 hm2 hq1 hq2 hq3 hq4 hq5 hlk
    have k0 : wc.cell? ⟨w.heap.size, 0, none⟩ = some (.int .i64 h.kind) := hI.hd.cell 0
    have k6 : wc.cell? ⟨w.heap.size, 6, none⟩ = some (.int .i64 h.size) := hI.hd.cell 6
    have yy := blk_free hI.rr 7
    have xx : wc.cell? ⟨w.heap.size + 2, 7, none⟩ = some (.bool false) := hI.rr.cell 7
    by_cases g1 : h.size = 0
    · have gb : (h.size == 0) = true := by simpa using g1
      have E : numR h.size (h.kind == 1) = true := by unfold numR; rw [decide_eq_true g1]; rfl
      go_wp2
      go_meet
      case rel => exact ⟨rfl, by rw [E]; exact hI.set 7 _⟩
    · have gb : (h.size == 0) = false := by simpa using g1
      by_cases g2 : 0 < h.size
      · have E : numR h.size (h.kind == 1) = (h.kind == 1) := by unfold numR; rw [decide_eq_false g1, decide_eq_true g2]; rfl
        go_wp2
        go_meet
        case rel => exact ⟨rfl, by rw [E]; exact hI.set 7 _⟩
      · have E : numR h.size (h.kind == 1) = false := by unfold numR; rw [decide_eq_false g1, decide_eq_false g2]; rfl
        go_wp2
        go_meet
        case rel => exact ⟨rfl, by rw [E]; exact hI.set 7 _⟩
  case rest =>
  clear hI
  obtain ⟨rfl, hI⟩ := hcut
  go_upto_region 11 with fail
  go_cut [5] from 89 to 92 (fun p wc9 => p = .pointer (some ⟨w.heap.size + 2, 0, none⟩) ∧ Inv w wc9 h (.slice a n c) #[.bool false, .bool (kndR h.kind), .bool (fnameR h), .bool (flinkR h), .bool (decide (0 ≤ h.mode)), .bool (decide (0 ≤ h.uid)), .bool (decide (0 ≤ h.gid)), .bool (numR h.size (h.kind == 1)), .bool (decide (0 ≤ h.nano ∧ h.nano < 1000000000)), .bool false, .bool false, .bool false, .bool false, .bool false])
  case first =>
    clear c1 c2 c3 c4 c5 c7 hp hz hn hnl h1 h2 h3 h4 hm1 hm2 hq1 hq2 hq3 hq4 hq5 hlk
    have k7 : wc.cell? ⟨w.heap.size, 7, none⟩ = some (.int .i64 h.sec) := hI.hd.cell 7
    have k8 : wc.cell? ⟨w.heap.size, 8, none⟩ = some (.int .i64 h.nano) := hI.hd.cell 8
    have yy := blk_free hI.rr 8
    have xx : wc.cell? ⟨w.heap.size + 2, 8, none⟩ = some (.bool false) := hI.rr.cell 8
    go_wp2_with (go_at_call 71; refine (c6 _).mono ?_; rintro e w1 ⟨rfl, hb1⟩; have hI1 := hI.below hb1; clear xx yy k7 k8; (have k7 : w1.cell? ⟨w.heap.size, 7, none⟩ = some (.int .i64 h.sec) := hI1.hd.cell 7); (have k8 : w1.cell? ⟨w.heap.size, 8, none⟩ = some (.int .i64 h.nano) := hI1.hd.cell 8); have yy := blk_free hI1.rr 8; (have xx : w1.cell? ⟨w.heap.size + 2, 8, none⟩ = some (.bool false) := hI1.rr.cell 8))
    go_meet
    case rel => exact ⟨rfl, by rw [hq8.out]; exact hI1.set 8 _⟩
  case rest =>
  clear hI
  obtain ⟨rfl, hI⟩ := hcut
  go_upto_region 12 with fail
  go_cut [5] from 93 to 101 (fun p wc10 => p = .pointer (some ⟨w.heap.size + 2, 0, none⟩) ∧ Inv w wc10 h (.slice a n c) #[.bool false, .bool (kndR h.kind), .bool (fnameR h), .bool (flinkR h), .bool (decide (0 ≤ h.mode)), .bool (decide (0 ≤ h.uid)), .bool (decide (0 ≤ h.gid)), .bool (numR h.size (h.kind == 1)), .bool (decide (0 ≤ h.nano ∧ h.nano < 1000000000)), .bool (txtR h.user), .bool false, .bool false, .bool false, .bool false])
  case first =>
    clear c1 c2 c4 c5 c6 c7 hp hz hn hnl h1 h2 h3 h4 hm1 hm2 hq1 hq2 hq4 hq5 hlk
    have k9 : wc.cell? ⟨w.heap.size, 9, none⟩ = some (.string h.user) := hI.hd.cell 9
    have yy := blk_free hI.rr 9
    have xx : wc.cell? ⟨w.heap.size + 2, 9, none⟩ = some (.bool false) := hI.rr.cell 9
    cases e2 : (h.user.toList == [])
    · have E : txtR h.user = q3 := by rw [txt_alt, e2, hq3.out]; rfl
      go_wp2_with (go_at_call 70; refine (c3 _).mono ?_; rintro e w1 ⟨rfl, hb1⟩; have hI1 := hI.below hb1; clear xx yy k9; (have k9 : w1.cell? ⟨w.heap.size, 9, none⟩ = some (.string h.user) := hI1.hd.cell 9); have yy := blk_free hI1.rr 9; (have xx : w1.cell? ⟨w.heap.size + 2, 9, none⟩ = some (.bool false) := hI1.rr.cell 9))
      go_meet
      case rel => exact ⟨rfl, by rw [E]; exact hI1.set 9 _⟩
    · have E : txtR h.user = true := by rw [txt_alt, e2]; rfl
      go_wp2
      go_meet
      case rel => exact ⟨rfl, by rw [E]; exact hI.set 9 _⟩
  case rest =>
  clear hI
  obtain ⟨rfl, hI⟩ := hcut
  go_upto_region 13 with fail
  go_cut [5] from 102 to 110 (fun p wc11 => p = .pointer (some ⟨w.heap.size + 2, 0, none⟩) ∧ Inv w wc11 h (.slice a n c) #[.bool false, .bool (kndR h.kind), .bool (fnameR h), .bool (flinkR h), .bool (decide (0 ≤ h.mode)), .bool (decide (0 ≤ h.uid)), .bool (decide (0 ≤ h.gid)), .bool (numR h.size (h.kind == 1)), .bool (decide (0 ≤ h.nano ∧ h.nano < 1000000000)), .bool (txtR h.user), .bool (txtR h.group), .bool false, .bool false, .bool false])
  case first =>
    clear c1 c2 c3 c5 c6 c7 hp hz hn hnl h1 h2 h3 h4 hm1 hm2 hq1 hq2 hq3 hq5 hlk
    have k10 : wc.cell? ⟨w.heap.size, 10, none⟩ = some (.string h.group) := hI.hd.cell 10
    have yy := blk_free hI.rr 10
    have xx : wc.cell? ⟨w.heap.size + 2, 10, none⟩ = some (.bool false) := hI.rr.cell 10
    cases e2 : (h.group.toList == [])
    · have E : txtR h.group = q4 := by rw [txt_alt, e2, hq4.out]; rfl
      go_wp2_with (go_at_call 70; refine (c4 _).mono ?_; rintro e w1 ⟨rfl, hb1⟩; have hI1 := hI.below hb1; clear xx yy k10; (have k10 : w1.cell? ⟨w.heap.size, 10, none⟩ = some (.string h.group) := hI1.hd.cell 10); have yy := blk_free hI1.rr 10; (have xx : w1.cell? ⟨w.heap.size + 2, 10, none⟩ = some (.bool false) := hI1.rr.cell 10))
      go_meet
      case rel => exact ⟨rfl, by rw [E]; exact hI1.set 10 _⟩
    · have E : txtR h.group = true := by rw [txt_alt, e2]; rfl
      go_wp2
      go_meet
      case rel => exact ⟨rfl, by rw [E]; exact hI.set 10 _⟩
  case rest =>
  clear hI
  obtain ⟨rfl, hI⟩ := hcut
  go_upto_region 14 with fail
  go_cut [5] from 111 to 122 (fun p wc12 => p = .pointer (some ⟨w.heap.size + 2, 0, none⟩) ∧ Inv w wc12 h (.slice a n c) #[.bool false, .bool (kndR h.kind), .bool (fnameR h), .bool (flinkR h), .bool (decide (0 ≤ h.mode)), .bool (decide (0 ≤ h.uid)), .bool (decide (0 ≤ h.gid)), .bool (numR h.size (h.kind == 1)), .bool (decide (0 ≤ h.nano ∧ h.nano < 1000000000)), .bool (txtR h.user), .bool (txtR h.group), .bool (numR h.major (dv)), .bool false, .bool false])
  case first =>
    clear c1 c2 c3 c4 c5 c6 c7 hp hz hn hnl h1 h2 h3 h4 hm1 hm2 hq1 hq2 hq3 hq4 hq5 hlk
    have k11 : wc.cell? ⟨w.heap.size, 11, none⟩ = some (.int .i64 h.major) := hI.hd.cell 11
    have yy := blk_free hI.rr 11
    have xx : wc.cell? ⟨w.heap.size + 2, 11, none⟩ = some (.bool false) := hI.rr.cell 11
    by_cases g1 : h.major = 0
    · have gb : (h.major == 0) = true := by simpa using g1
      have E : numR h.major dv = true := by unfold numR; rw [decide_eq_true g1]; rfl
      go_wp2
      go_meet
      case rel => exact ⟨rfl, by rw [E]; exact hI.set 11 _⟩
    · have gb : (h.major == 0) = false := by simpa using g1
      by_cases g2 : 0 < h.major
      · have E : numR h.major dv = dv := by unfold numR; rw [decide_eq_false g1, decide_eq_true g2]; rfl
        go_wp2
        go_meet
        case rel => exact ⟨rfl, by rw [E]; exact hI.set 11 _⟩
      · have E : numR h.major dv = false := by unfold numR; rw [decide_eq_false g1, decide_eq_false g2]; rfl
        go_wp2
        go_meet
        case rel => exact ⟨rfl, by rw [E]; exact hI.set 11 _⟩
  case rest =>
  clear hI
  obtain ⟨rfl, hI⟩ := hcut
  go_upto_region 15 with fail
  go_cut [5] from 123 to 134 (fun p wc13 => p = .pointer (some ⟨w.heap.size + 2, 0, none⟩) ∧ Inv w wc13 h (.slice a n c) #[.bool false, .bool (kndR h.kind), .bool (fnameR h), .bool (flinkR h), .bool (decide (0 ≤ h.mode)), .bool (decide (0 ≤ h.uid)), .bool (decide (0 ≤ h.gid)), .bool (numR h.size (h.kind == 1)), .bool (decide (0 ≤ h.nano ∧ h.nano < 1000000000)), .bool (txtR h.user), .bool (txtR h.group), .bool (numR h.major (dv)), .bool (numR h.minor (dv)), .bool false])
  case first =>
    clear c1 c2 c3 c4 c5 c6 c7 hp hz hn hnl h1 h2 h3 h4 hm1 hm2 hq1 hq2 hq3 hq4 hq5 hlk
    have k12 : wc.cell? ⟨w.heap.size, 12, none⟩ = some (.int .i64 h.minor) := hI.hd.cell 12
    have yy := blk_free hI.rr 12
    have xx : wc.cell? ⟨w.heap.size + 2, 12, none⟩ = some (.bool false) := hI.rr.cell 12
    by_cases g1 : h.minor = 0
    · have gb : (h.minor == 0) = true := by simpa using g1
      have E : numR h.minor dv = true := by unfold numR; rw [decide_eq_true g1]; rfl
      go_wp2
      go_meet
      case rel => exact ⟨rfl, by rw [E]; exact hI.set 12 _⟩
    · have gb : (h.minor == 0) = false := by simpa using g1
      by_cases g2 : 0 < h.minor
      · have E : numR h.minor dv = dv := by unfold numR; rw [decide_eq_false g1, decide_eq_true g2]; rfl
        go_wp2
        go_meet
        case rel => exact ⟨rfl, by rw [E]; exact hI.set 12 _⟩
      · have E : numR h.minor dv = false := by unfold numR; rw [decide_eq_false g1, decide_eq_false g2]; rfl
        go_wp2
        go_meet
        case rel => exact ⟨rfl, by rw [E]; exact hI.set 12 _⟩
  case rest =>
  clear hI
  obtain ⟨rfl, hI⟩ := hcut
  go_upto_region 16 with fail
  go_cut [5] from 135 to 138 (fun p wc14 => p = .pointer (some ⟨w.heap.size + 2, 0, none⟩) ∧ Inv w wc14 h (.slice a n c) #[.bool false, .bool (kndR h.kind), .bool (fnameR h), .bool (flinkR h), .bool (decide (0 ≤ h.mode)), .bool (decide (0 ≤ h.uid)), .bool (decide (0 ≤ h.gid)), .bool (numR h.size (h.kind == 1)), .bool (decide (0 ≤ h.nano ∧ h.nano < 1000000000)), .bool (txtR h.user), .bool (txtR h.group), .bool (numR h.major (dv)), .bool (numR h.minor (dv)), .bool (ovB none l)])
  case first =>
    clear c1 c2 c3 c4 c5 c6 hp hz hn hnl h1 h2 h3 h4 hm1 hm2 hq1 hq2 hq3 hq4 hq5 hlk
    have k13 : wc.cell? ⟨w.heap.size, 13, none⟩ = some (.slice a n c) := hI.hd.cell 13
    have yy := blk_free hI.rr 13
    have xx : wc.cell? ⟨w.heap.size + 2, 13, none⟩ = some (.bool false) := hI.rr.cell 13
    go_wp2_with (go_at_call 72; refine (c7 _ hI.bel).mono ?_; rintro e w1 ⟨rfl, hb1⟩; have hI1 := hI.below hb1; clear xx yy k13; (have k13 : w1.cell? ⟨w.heap.size, 13, none⟩ = some (.slice a n c) := hI1.hd.cell 13); have yy := blk_free hI1.rr 13; (have xx : w1.cell? ⟨w.heap.size + 2, 13, none⟩ = some (.bool false) := hI1.rr.cell 13))
    go_meet
    case rel => exact ⟨rfl, hI1.set 13 _⟩
  case rest =>
  clear hI
  obtain ⟨rfl, hI⟩ := hcut
  have hl := hid hp.1
  go_wp2
  go_loopw [6] (fun x wr => ∃ (k : Nat) (b : Bool), x = .int .i64 k ∧ k ≤ n ∧ Inv w wr h (.slice a n c) #[.bool false, .bool (kndR h.kind), .bool (fnameR h), .bool (flinkR h), .bool (decide (0 ≤ h.mode)), .bool (decide (0 ≤ h.uid)), .bool (decide (0 ≤ h.gid)), .bool (numR h.size (h.kind == 1)), .bool (decide (0 ≤ h.nano ∧ h.nano < 1000000000)), .bool (txtR h.user), .bool (txtR h.group), .bool (numR h.major (dv)), .bool (numR h.minor (dv)), .bool b] ∧ Hid (fextraR l = (b && !anyK (l.drop k)))) (fun x _ => n - (RowKit.intOf x).toNat)
  case atStart => exact ⟨0, ovB none l, rfl, by omega, hI, hid (by unfold fextraR; rw [List.drop_zero])⟩
  case round =>
    clear hI
    obtain ⟨k, b, rfl, hk, hI, hr⟩ := hrel
    have k13 : wr.cell? ⟨w.heap.size, 13, none⟩ = some (.slice a n c) := hI.hd.cell 13
    have yy := blk_free hI.rr 13
    have xx : wr.cell? ⟨w.heap.size + 2, 13, none⟩ = some (.bool b) := hI.rr.cell 13
    by_cases hlt : k < n
    · obtain ⟨bb, off, rfl, hc⟩ := hp.some_of (by omega)
      obtain ⟨ky, vl, hmem, hd, p0, p1⟩ := (hc.below hI.bel).at k (by rw [hl.out]; exact hlt)
      have hkI : (k : Int) < (n : Int) := by omega
      cases b
      · have E := hid (by rw [hr.out]; rfl : fextraR l = (false && !anyK (l.drop (k + 1))))
        clear hr hd hmem
        go_wp2
        go_roundw
        case rel => exact ⟨k + 1, false, by go_num, by omega, hI.set 13 _, E⟩
        case measure => simp [RowKit.intOf]; omega
      · have hw := which_ok ky wr
        have hneg := which_neg (bs ky)
        have E := hid (by rw [hr.out, hd.out, anyK, hneg]; simp : fextraR l = (decide (whichK (bs ky) < 0) && !anyK (l.drop (k + 1))))
        clear hr hd hmem hneg
        generalize whichK (bs ky) = wk at *
        go_wp2_with (go_at_call 73; refine hw.mono ?_; rintro e w1 ⟨rfl, hb1⟩; have hI1 := hI.below hb1; have yy1 := blk_free hI1.rr 13; (have xx1 : w1.cell? ⟨w.heap.size + 2, 13, none⟩ = some (.bool true) := hI1.rr.cell 13))
        go_roundw
        case rel => exact ⟨k + 1, _, by go_num, by omega, hI1.set 13 _, E⟩
        case measure => simp [RowKit.intOf]; omega
    · obtain rfl : k = n := by omega
      have E : fextraR l = b := by rw [hr.out, List.drop_eq_nil_iff.mpr (by rw [hl.out]; exact Nat.le_refl _)]; simp [anyK]
      subst E
      have hinf : (Tryz.prog.info? 63).map (·.size) = some 14 := by kernel_rfl
      clear hr
      go_wp2_with (first
        | (refine wpList_load_row (P := Tryz.prog) rfl 63 (.tmp 5) rfl (w.heap.size + 2) rfl 63 _ (0, 0) _ hI.rr Tryz.underlying63 rfl hinf ?_)
        | (refine wpList_store_row (P := Tryz.prog) rfl 63 (.tmp 2) (.tmp 159) rfl (w.heap.size + 1) #[.bool false, .bool (kndR h.kind), .bool (fnameR h), .bool (flinkR h), .bool (decide (0 ≤ h.mode)), .bool (decide (0 ≤ h.uid)), .bool (decide (0 ≤ h.gid)), .bool (numR h.size (h.kind == 1)), .bool (decide (0 ≤ h.nano ∧ h.nano < 1000000000)), .bool (txtR h.user), .bool (txtR h.group), .bool (numR h.major (dv)), .bool (numR h.minor (dv)), .bool (fextraR l)] rfl rfl 63 zB hI.zz hinf rfl (bools_one _ _ _ _ _ _ _ _ _ _ _ _ _) ?_))
      rw [hdv.out]
      refine bodyPost_ret (v := .agg _) (results_cell_row (P := Tryz.prog) Tryz.results30 _ _ (w.heap.size + 1) 63 _ (0, 0) _ rfl (setRow_heap _ _ zB _ 63 (0, 0) hI.zz) Tryz.underlying63 rfl hinf) rfl ⟨by rw [hq8.out], below_setRow hI.bel (by omega) _⟩

end Go.Proofs.YthnaanjhmehgcaaGreatDoor
