/-
  THE WALK OF ItemSame, where what is handed in is small. Conditions: how long the texts and lists may be.
-/
import Derived.Test.YtbkgbnjiibhmhaaIsp
import Derived.Test.YtbkgbnjiibhmhaaCtw
import Derived.BigQuiet
namespace Go.Proofs.Ytbkgbnjiibhmhaa
open Go.ChangeShapes Go.WideShapes Go.ChangeAt Go.RowKit Go.Lib
set_option linter.unusedVariables false
set_option linter.unusedSimpArgs false
set_option maxRecDepth 20000

theorem fr_self (tm : Array Value) : ({ tmps := tm, defers := [] } : Act) = Fr tm (tm.getD 42 undef) (tm.getD 43 undef) (tm.getD 44 undef) (tm.getD 45 undef) (tm.getD 5 undef) (tm.getD 6 undef) := by
  have key : ∀ (x : Array Value) (k : Nat) (v : Value), v = x.getD k undef → x.setIfInBounds k v = x := by
    intro x k v hv
    apply Array.ext_getElem?
    intro i
    rw [Array.getElem?_setIfInBounds]
    by_cases hi : k = i
    · subst hi
      rw [if_pos rfl]
      split
      · rename_i hk
        rw [hv]; simp [hk]
      · rename_i hk
        simp; omega
    · rw [if_neg hi]
  unfold Fr
  rw [key tm 42 _ rfl, key tm 43 _ rfl, key tm 44 _ rfl, key tm 45 _ rfl, key tm 5 _ rfl, key tm 6 _ rfl]

set_option maxHeartbeats 32000000 in
theorem same_main {w : World} {a1 a2 e1 e2 : Option Addr} {n1 c1 n2 c2 m1 f1 m2 f2 : Nat} {l1 l2 : PL} {d1 d2 : List Int} (h1 h2 : Hd) (hp1 : Pys w a1 n1 c1 l1) (hp2 : Pys w a2 n2 c2 l2) (hd1 : Bys w e1 m1 f1 d1) (hd2 : Bys w e2 m2 f2 d2) (hnl : a1 = none → n1 = 0 ∧ c1 = 0) (hdl : e1 = none → m1 = 0 ∧ f1 = 0) (hn1 : n1 ≤ 40) (hmm : m1 + m2 ≤ 5000)
    (hm1 : ∀ wr, Below w.heap.size w wr → Calls Try.prog 8 #[.agg (h1.cs (.slice a1 n1 c1))] wr fun e w' => e = .returned (.bool false) ∧ Below wr.heap.size wr w')
    (hm2 : ∀ wr, Below w.heap.size w wr → Calls Try.prog 8 #[.agg (h2.cs (.slice a2 n2 c2))] wr fun e w' => e = .returned (.bool false) ∧ Below wr.heap.size wr w') :
    Calls Try.prog 3 #[.agg (h1.it (.slice a1 n1 c1) (.slice e1 m1 f1)), .agg (h2.it (.slice a2 n2 c2) (.slice e2 m2 f2))] w fun e w' => e = .returned (.bool true) ∧ Below w.heap.size w w' := by
  have hac := (two_new w (.cells (h1.it (.slice a1 n1 c1) (.slice e1 m1 f1)) 29) (.cells (h2.it (.slice a2 n2 c2) (.slice e2 m2 f2)) 29)).1
  have hB : Blk ((w.alloc (.cells (h1.it (.slice a1 n1 c1) (.slice e1 m1 f1)) 29)).alloc (.cells (h2.it (.slice a2 n2 c2) (.slice e2 m2 f2)) 29)) (w.heap.size + 1) (h2.it (.slice a2 n2 c2) (.slice e2 m2 f2)) 29 := (two_new w _ _).2
  have hA : Blk ((w.alloc (.cells (h1.it (.slice a1 n1 c1) (.slice e1 m1 f1)) 29)).alloc (.cells (h2.it (.slice a2 n2 c2) (.slice e2 m2 f2)) 29)) w.heap.size (h1.it (.slice a1 n1 c1) (.slice e1 m1 f1)) 29 := by
    have b : Blk (w.alloc (.cells (h1.it (.slice a1 n1 c1) (.slice e1 m1 f1)) 29)) w.heap.size (h1.it (.slice a1 n1 c1) (.slice e1 m1 f1)) 29 := heap_alloc_new _ _
    exact b.below (below_alloc _ _)
  have cS := fun (wr : World) (hb : Below w.heap.size w wr) => isame_ok h1 h2 (hp1.below hb) (hp2.below hb) (hd1.below hb) (hd2.below hb)
  have cR := fun (wr : World) (hb : Below w.heap.size w wr) => rsame_ok h1 h2 (hp1.below hb) (hp2.below hb) (hd1.below hb) (hd2.below hb)
  have cT := fun (wr : World) (hb : Below w.heap.size w wr) => isame_ok h1 h1 (hp1.below hb) (hp1.below hb) (hd1.below hb) (hd1.below hb)
  rw [eqI_refl] at cT
  generalize eqI h1 h2 l1 l2 d1 d2 = q at *
  have cC := fun (wr : World) (hb : Below w.heap.size w wr) => copy_ok h1 (hp1.below hb) hnl (by omega) (hd1.below hb) hdl (by omega)
  have hI : ¬ (5000 : Int) < (m1 : Int) + (m2 : Int) := by omega
  have hl1 := hid hp1.1
  have hs1 := hid hd1.1
  have hs2 := hid hd1.2.2.2.1
  unfold Hd.it at hA hB hac cS cR cT ⊢
  unfold Hd.cs at hm1 hm2
  go_enter Try.func3, Try.ntmps3
  go_upto_region 5 with (first
    | (go_at_call 7; refine (alive_ok _).mono ?_; rintro e w1 ⟨rfl, hb1⟩; replace hA := hA.below hb1; replace hB := hB.below hb1; replace hac := hac.trans (hb1.mono hac.size); clear hb1; obtain ⟨k0, k1, k2, k3, k4, k5, k6, k7, k8, k9, k10, k11, k12, k13, k14⟩ := it_cells (h := h1) hA; obtain ⟨j0, j1, j2, j3, j4, j5, j6, j7, j8, j9, j10, j11, j12, j13, j14⟩ := it_cells (h := h2) hB)
    | (go_at_call 8; first | (refine (hm1 _ hac).mono ?_; clear hm1; rintro e w2 ⟨rfl, hb2⟩; clear k0 k1 k2 k3 k4 k5 k6 k7 k8 k9 k10 k11 k12 k13 k14 j0 j1 j2 j3 j4 j5 j6 j7 j8 j9 j10 j11 j12 j13 j14; replace hA := hA.below hb2; replace hB := hB.below hb2; replace hac := hac.trans (hb2.mono hac.size); clear hb2; obtain ⟨k0, k1, k2, k3, k4, k5, k6, k7, k8, k9, k10, k11, k12, k13, k14⟩ := it_cells (h := h1) hA; obtain ⟨j0, j1, j2, j3, j4, j5, j6, j7, j8, j9, j10, j11, j12, j13, j14⟩ := it_cells (h := h2) hB) | (refine (hm2 _ hac).mono ?_; rintro e w3 ⟨rfl, hb3⟩; clear k0 k1 k2 k3 k4 k5 k6 k7 k8 k9 k10 k11 k12 k13 k14 j0 j1 j2 j3 j4 j5 j6 j7 j8 j9 j10 j11 j12 j13 j14; replace hA := hA.below hb3; replace hB := hB.below hb3; replace hac := hac.trans (hb3.mono hac.size); clear hb3; obtain ⟨k0, k1, k2, k3, k4, k5, k6, k7, k8, k9, k10, k11, k12, k13, k14⟩ := it_cells (h := h1) hA; obtain ⟨j0, j1, j2, j3, j4, j5, j6, j7, j8, j9, j10, j11, j12, j13, j14⟩ := it_cells (h := h2) hB)))
  clear k0 k1 k2 k3 k4 k5 k6 k7 k8 k9 k10 k11 k12 k13 k14 j0 j1 j2 j3 j4 j5 j6 j7 j8 j9 j10 j11 j12 j13 j14 hm2
  have rS := fun p : After w3 => cS p.out (hac.trans (p.bel.mono hac.size))
  have rR := fun p : After w3 => cR p.out (hac.trans (p.bel.mono hac.size))
  have rT := fun p : After w3 => cT p.out (hac.trans (p.bel.mono hac.size))
  have hqq : (q != q) = false := by simp
  have hne : Nonempty (After w3) := ⟨⟨_, Below.refl _ _⟩⟩
  have k0 : ∀ p : After w3, p.out.cell? ⟨w.heap.size, 0, none⟩ = some (.int .i64 h1.kind) := fun p => (hA.below p.bel).cell 0
  have k1 : ∀ p : After w3, p.out.cell? ⟨w.heap.size, 1, none⟩ = some (.string h1.name) := fun p => (hA.below p.bel).cell 1
  have k2 : ∀ p : After w3, p.out.cell? ⟨w.heap.size, 2, none⟩ = some (.string h1.link) := fun p => (hA.below p.bel).cell 2
  have k3 : ∀ p : After w3, p.out.cell? ⟨w.heap.size, 3, none⟩ = some (.int .i64 h1.mode) := fun p => (hA.below p.bel).cell 3
  have k4 : ∀ p : After w3, p.out.cell? ⟨w.heap.size, 4, none⟩ = some (.int .i64 h1.uid) := fun p => (hA.below p.bel).cell 4
  have k5 : ∀ p : After w3, p.out.cell? ⟨w.heap.size, 5, none⟩ = some (.int .i64 h1.gid) := fun p => (hA.below p.bel).cell 5
  have k6 : ∀ p : After w3, p.out.cell? ⟨w.heap.size, 6, none⟩ = some (.int .i64 h1.size) := fun p => (hA.below p.bel).cell 6
  have k7 : ∀ p : After w3, p.out.cell? ⟨w.heap.size, 7, none⟩ = some (.int .i64 h1.sec) := fun p => (hA.below p.bel).cell 7
  have k8 : ∀ p : After w3, p.out.cell? ⟨w.heap.size, 8, none⟩ = some (.int .i64 h1.nano) := fun p => (hA.below p.bel).cell 8
  have k9 : ∀ p : After w3, p.out.cell? ⟨w.heap.size, 9, none⟩ = some (.string h1.user) := fun p => (hA.below p.bel).cell 9
  have k10 : ∀ p : After w3, p.out.cell? ⟨w.heap.size, 10, none⟩ = some (.string h1.group) := fun p => (hA.below p.bel).cell 10
  have k11 : ∀ p : After w3, p.out.cell? ⟨w.heap.size, 11, none⟩ = some (.int .i64 h1.major) := fun p => (hA.below p.bel).cell 11
  have k12 : ∀ p : After w3, p.out.cell? ⟨w.heap.size, 12, none⟩ = some (.int .i64 h1.minor) := fun p => (hA.below p.bel).cell 12
  have k13 : ∀ p : After w3, p.out.cell? ⟨w.heap.size, 13, none⟩ = some (.slice a1 n1 c1) := fun p => (hA.below p.bel).cell 13
  have k14 : ∀ p : After w3, p.out.cell? ⟨w.heap.size, 14, none⟩ = some (.slice e1 m1 f1) := fun p => (hA.below p.bel).cell 14
  have j0 : ∀ p : After w3, p.out.cell? ⟨w.heap.size + 1, 0, none⟩ = some (.int .i64 h2.kind) := fun p => (hB.below p.bel).cell 0
  have j1 : ∀ p : After w3, p.out.cell? ⟨w.heap.size + 1, 1, none⟩ = some (.string h2.name) := fun p => (hB.below p.bel).cell 1
  have j2 : ∀ p : After w3, p.out.cell? ⟨w.heap.size + 1, 2, none⟩ = some (.string h2.link) := fun p => (hB.below p.bel).cell 2
  have j3 : ∀ p : After w3, p.out.cell? ⟨w.heap.size + 1, 3, none⟩ = some (.int .i64 h2.mode) := fun p => (hB.below p.bel).cell 3
  have j4 : ∀ p : After w3, p.out.cell? ⟨w.heap.size + 1, 4, none⟩ = some (.int .i64 h2.uid) := fun p => (hB.below p.bel).cell 4
  have j5 : ∀ p : After w3, p.out.cell? ⟨w.heap.size + 1, 5, none⟩ = some (.int .i64 h2.gid) := fun p => (hB.below p.bel).cell 5
  have j6 : ∀ p : After w3, p.out.cell? ⟨w.heap.size + 1, 6, none⟩ = some (.int .i64 h2.size) := fun p => (hB.below p.bel).cell 6
  have j7 : ∀ p : After w3, p.out.cell? ⟨w.heap.size + 1, 7, none⟩ = some (.int .i64 h2.sec) := fun p => (hB.below p.bel).cell 7
  have j8 : ∀ p : After w3, p.out.cell? ⟨w.heap.size + 1, 8, none⟩ = some (.int .i64 h2.nano) := fun p => (hB.below p.bel).cell 8
  have j9 : ∀ p : After w3, p.out.cell? ⟨w.heap.size + 1, 9, none⟩ = some (.string h2.user) := fun p => (hB.below p.bel).cell 9
  have j10 : ∀ p : After w3, p.out.cell? ⟨w.heap.size + 1, 10, none⟩ = some (.string h2.group) := fun p => (hB.below p.bel).cell 10
  have j11 : ∀ p : After w3, p.out.cell? ⟨w.heap.size + 1, 11, none⟩ = some (.int .i64 h2.major) := fun p => (hB.below p.bel).cell 11
  have j12 : ∀ p : After w3, p.out.cell? ⟨w.heap.size + 1, 12, none⟩ = some (.int .i64 h2.minor) := fun p => (hB.below p.bel).cell 12
  have j13 : ∀ p : After w3, p.out.cell? ⟨w.heap.size + 1, 13, none⟩ = some (.slice a2 n2 c2) := fun p => (hB.below p.bel).cell 13
  have j14 : ∀ p : After w3, p.out.cell? ⟨w.heap.size + 1, 14, none⟩ = some (.slice e2 m2 f2) := fun p => (hB.below p.bel).cell 14
  clear cS cR cT
  refine wp_region_after (by kernel_rfl) (by kernel_rfl) ?_
  repeat (go_big_quiet_step ((first
    | (go_at_call 9; first | with_reducible exact after_below _ (rS _) | with_reducible exact after_below _ (rT _))
    | (go_at_call 10; exact after_below _ (rR _)))))
  refine wpQuiet_nil ?_
  intro wq hw'
  obtain ⟨⟨z, hwq⟩, hx⟩ := hw'
  simp only at hx
  subst hx
  have hszq := Nat.le_trans (Nat.succ_le_of_lt hB.lt) hwq.size
  replace hA := hA.below hwq
  replace hac := hac.trans (hwq.mono hac.size)
  clear hB rS rR rT k0 k1 k2 k3 k4 k5 k6 k7 k8 k9 k10 k11 k12 k13 k14 j0 j1 j2 j3 j4 j5 j6 j7 j8 j9 j10 j11 j12 j13 j14 hwq
  go_upto_region 7 with fail
  unfold Hd.it at cC
  go_cut [5, 6] from 42 to 45 (fun p q wc => ∃ x1 y1 x2 y2 lo1 hi1 lo2 hi2 g5 g6, p = .pointer (some ⟨g5, 0, none⟩) ∧ q = .pointer (some ⟨g6, 0, none⟩) ∧ Cq w wc h1 (.slice a1 n1 c1) (.slice e1 m1 f1) g5 g6 lo1 hi1 lo2 hi2 n1 m1 x1 y1 x2 y2 l1 d1 ∧ Cp wc lo1 hi1 n1 m1 l1 d1 x1 y1)
  case first => as_aux_lemma =>
    refine region7 (h := h1) (A := h1.it (.slice a1 n1 c1) (.slice e1 m1 f1)) (w0 := w) (n := n1) (m := m1) (l := l1) (s := d1) rfl rfl hA rfl hac hszq hp1.1 hd1.1 hd1.2.2.2.1 _ _ _ _ _ _ (fr_self _) cC ?_
    intro x1 y1 x2 y2 lo1 hi1 lo2 hi2 g5 g6 w' H
    simp only [Fr, List.setIfInBounds_toArray, List.set_cons_succ, List.set_cons_zero]
    go_wp2
    go_meet
    case rel => exact ⟨x1, y1, x2, y2, lo1, hi1, lo2, hi2, g5, g6, rfl, rfl, Cq.of H⟩
  case rest => as_aux_lemma =>
    obtain ⟨x1, y1, x2, y2, lo1, hi1, lo2, hi2, g5, g6, rfl, rfl, HC, HP⟩ := hcut
    obtain ⟨ax1, cx1, rfl, pp1⟩ := own_pys HP.r1 hl1.out
    obtain ⟨ay1, cy1, rfl, bb1⟩ := own_bys HP.r2 hs1.out hs2.out
    obtain ⟨ax2, cx2, rfl, -⟩ := own_pys HC.c2.r1 hl1.out
    obtain ⟨ay2, cy2, rfl, -⟩ := own_bys HC.c2.r2 hs1.out hs2.out
    have HX := XR.of HP.r1 HP.t1
    have hY := HP.r2
    have hYt := HP.t2
    have cH := rsamehead_ok h1 h1 pp1 (hp1.below HC.bel)
    have cB := fun (wr : World) (hb : Below wc.heap.size wc wr) => rbeq_ok (bb1.below hb) ((hd1.below HC.bel).below hb)
    rw [eqH_refl] at cH
    clear HP cC hac hA hszq pp1 bb1
    obtain ⟨k0, k1, k2, k3, k4, k5, k6, k7, k8, k9, k10, k11, k12, k13, k14⟩ := it_cells (h := h1) HC.box
    obtain ⟨j0, j1, j2, j3, j4, j5, j6, j7, j8, j9, j10, j11, j12, j13, j14⟩ := it_cells (h := h1) HC.b5
    unfold Hd.cs at cH
    go_upto_block 0 with (first
      | (go_at_call 12; refine cH.mono ?_; rintro e w8 ⟨rfl, hb8⟩; clear k0 k1 k2 k3 k4 k5 k6 k7 k8 k9 k10 k11 k12 k13 k14 j0 j1 j2 j3 j4 j5 j6 j7 j8 j9 j10 j11 j12 j13 j14 cH; replace cB := cB _ hb8; replace HC := HC.below hb8; replace HX := HX.below hb8; replace hY := own_below hb8 hY; obtain ⟨k0, k1, k2, k3, k4, k5, k6, k7, k8, k9, k10, k11, k12, k13, k14⟩ := it_cells (h := h1) HC.box; obtain ⟨j0, j1, j2, j3, j4, j5, j6, j7, j8, j9, j10, j11, j12, j13, j14⟩ := it_cells (h := h1) HC.b5)
      | (go_at_call 13; refine cB.mono ?_; rintro e w' ⟨hw, rfl⟩; obtain rfl := hw.symm))
    clear k0 k1 k2 k3 k4 k5 k6 k7 k8 k9 k10 k11 k12 k13 k14 j0 j1 j2 j3 j4 j5 j6 j7 j8 j9 j10 j11 j12 j13 j14 cB hb8
    go_wp2
    go_loopw [7] (fun y wr => ∃ (i : Nat) (d : List Int), y = .int .i64 i ∧ i ≤ m1 ∧ d.length = m1 ∧ (∀ x ∈ d, 0 ≤ x ∧ x ≤ 255) ∧ wr.ownsRow lo1 5 1 (.slice ay1 m1 cy1) m1 (u8s d) ∧ XR wr lo1 hi1 n1 ax1 ∧ Cq w wr h1 (.slice a1 n1 c1) (.slice e1 m1 f1) g5 g6 lo1 hi1 lo2 hi2 n1 m1 (.slice ax1 n1 cx1) (.slice ay1 m1 cy1) (.slice ax2 n1 cx2) (.slice ay2 m1 cy2) l1 d1) (fun y _ => m1 - (RowKit.intOf y).toNat)
    case atStart => exact ⟨0, d1, by go_num, Nat.zero_le _, hs1.out, hs2.out, hY, HX, HC⟩
    case round =>
      clear hY HX HC
      obtain ⟨i, d, rfl, hi, hdl', hdr, hY, HX, HC⟩ := hrel
      obtain ⟨j0, j1, j2, j3, j4, j5, j6, j7, j8, j9, j10, j11, j12, j13, j14⟩ := it_cells (h := h1) HC.b5
      clear j0 j1 j2 j3 j4 j5 j6 j7 j8 j9 j10 j11 j12
      by_cases hlt : i < m1
      · obtain ⟨gy, c, e, hgy⟩ := own_shape hY (by omega)
        cases e
        have hgy2 : gy < hi1 := hYt gy rfl
        obtain ⟨cs0, hb0⟩ := own_blk hY
        obtain ⟨r1, r2, r3⟩ := row_store (255 - d.getD i 0) hdl' hlt hY
        have hdi : 0 ≤ d.getD i 0 ∧ d.getD i 0 ≤ 255 := by
          rw [List.getD_eq_getElem?_getD, List.getElem?_eq_getElem (by omega)]
          exact hdr _ (List.getElem_mem _)
        obtain ⟨z, hz⟩ : ∃ z, z = d.getD i 0 := ⟨_, rfl⟩
        rw [← hz] at r1 r3 hdi
        obtain ⟨z0, z1⟩ := hdi
        have hrel' := hid (⟨HX.bytes hb0 (i := i) (.int .u8 (255 - z)), HC.set hgy hgy2 (i := i) (.int .u8 (255 - z))⟩ : XR (wr.setCell ⟨gy, i, none⟩ (.int .u8 (255 - z))) lo1 hi1 n1 ax1 ∧ Cq w (wr.setCell ⟨gy, i, none⟩ (.int .u8 (255 - z))) h1 (.slice a1 n1 c1) (.slice e1 m1 f1) g5 g6 lo1 hi1 lo2 hi2 n1 m1 (.slice ax1 n1 cx1) (.slice (some ⟨gy, 0, none⟩) m1 cy1) (.slice ax2 n1 cx2) (.slice ay2 m1 cy2) l1 d1)
        replace r3 := hid r3
        have hdl2 := hid (show (d.set i (255 - z)).length = m1 by rw [List.length_set]; exact hdl')
        have hdr2 : Hid (∀ x ∈ d.set i (255 - z), 0 ≤ x ∧ x ≤ 255) := hid (fun x hx => by
          rcases List.mem_or_eq_of_mem_set hx with h | rfl
          · exact hdr x h
          · omega)
        have hltI : (i : Int) < (m1 : Int) := by omega
        clear hdl' hdr hb0 hz hY HX HC hlt
        go_upto_region 13 with fail
        go_region
        go_wp2
        go_roundw
        case rel => exact ⟨i + 1, d.set i (255 - z), by go_num, by omega, hdl2.out, hdr2.out, own_below (Below.refl _ _).drew r3.out, hrel'.out.1.below (Below.refl _ _).drew, hrel'.out.2.below (Below.refl _ _).drew⟩
        case measure => simp [RowKit.intOf]; omega
      · have hge : ¬ (i : Int) < (m1 : Int) := by omega
        clear hY hdl' hdr hYt hlt
        go_wp2
        go_loopw [8] (fun y wt => ∃ i2 : Nat, y = .int .i64 i2 ∧ i2 ≤ n1 ∧ XR wt lo1 hi1 n1 ax1 ∧ Cq w wt h1 (.slice a1 n1 c1) (.slice e1 m1 f1) g5 g6 lo1 hi1 lo2 hi2 n1 m1 (.slice ax1 n1 cx1) (.slice ay1 m1 cy1) (.slice ax2 n1 cx2) (.slice ay2 m1 cy2) l1 d1) (fun y _ => n1 - (RowKit.intOf y).toNat)
        case atStart => exact ⟨0, by go_num, Nat.zero_le _, HX, HC⟩
        case round =>
          clear HX HC j13 j14
          obtain ⟨i2, rfl, hi2', HX, HC⟩ := hrel
          obtain ⟨j0, j1, j2, j3, j4, j5, j6, j7, j8, j9, j10, j11, j12, j13, j14⟩ := it_cells (h := h1) HC.b5
          clear j0 j1 j2 j3 j4 j5 j6 j7 j8 j9 j10 j11 j12 j14
          by_cases hlt2 : i2 < n1
          · obtain ⟨gx, cs, rfl, hx1, hx2, hxB, hxs⟩ := HX.resolve_left (by omega)
            have hc1 := hxB.cell (i2 * 2)
            have hc2 := hxB.cell (i2 * 2 + 1)
            rw [Array.getElem?_eq_getElem (by omega)] at hc1 hc2
            have hf1 := hxB.free (i2 * 2)
            have hf2 := hxB.free (i2 * 2 + 1)
            have hltI : (i2 : Int) < (n1 : Int) := by omega
            have hrel2 := hid (⟨XR.set (XR.set (.inr ⟨gx, cs, rfl, hx1, hx2, hxB, hxs⟩) (i := i2 * 2) (.string ⟨#[61]⟩)) (i := i2 * 2 + 1) (.string ⟨#[61]⟩), Cq.set (Cq.set HC hx1 hx2 (i := i2 * 2) (.string ⟨#[61]⟩)) hx1 hx2 (i := i2 * 2 + 1) (.string ⟨#[61]⟩)⟩ : XR ((wr.setCell ⟨gx, i2 * 2, none⟩ (.string ⟨#[61]⟩)).setCell ⟨gx, i2 * 2 + 1, none⟩ (.string ⟨#[61]⟩)) lo1 hi1 n1 (some ⟨gx, 0, none⟩) ∧ Cq w ((wr.setCell ⟨gx, i2 * 2, none⟩ (.string ⟨#[61]⟩)).setCell ⟨gx, i2 * 2 + 1, none⟩ (.string ⟨#[61]⟩)) h1 (.slice a1 n1 c1) (.slice e1 m1 f1) g5 g6 lo1 hi1 lo2 hi2 n1 m1 (.slice (some ⟨gx, 0, none⟩) n1 cx1) (.slice ay1 m1 cy1) (.slice ax2 n1 cx2) (.slice ay2 m1 cy2) l1 d1)
            clear HX HC hxB
            go_wp2
            go_roundw
            case rel => exact ⟨i2 + 1, by go_num, by omega, hrel2.out.1, hrel2.out.2⟩
            case measure => simp [RowKit.intOf]; omega
          · have hge2 : ¬ (i2 : Int) < (n1 : Int) := by omega
            obtain ⟨k0, k1, k2, k3, k4, k5, k6, k7, k8, k9, k10, k11, k12, k13, k14⟩ := it_cells (h := h1) HC.box
            obtain ⟨o0, o1, o2, o3, o4, o5, o6, o7, o8, o9, o10, o11, o12, o13, o14⟩ := it_cells (h := h1) HC.b6
            obtain ⟨a', c', e', pp2⟩ := own_pys HC.c2.r1 hl1.out
            cases e'
            obtain ⟨a'', c'', e'', bb2⟩ := own_bys HC.c2.r2 hs1.out hs2.out
            cases e''
            have cR := rsame_ok h1 h1 (hp1.below HC.bel) pp2 (hd1.below HC.bel) bb2
            rw [eqI_refl] at cR
            have cS := fun (wt : World) (hb : Below wr.heap.size wr wt) => same_ok ((hp1.below HC.bel).below hb) (pp2.below hb)
            simp only [decide_true] at cS
            have hbel := HC.bel
            unfold Hd.it at cR
            clear HX HC
            go_wp2_with (first
              | (go_at_call 10; refine cR.mono ?_; rintro e w18 ⟨rfl, hb18⟩; have k13' := cell_later hb18 k13; have o13' := cell_later hb18 o13; replace cS := cS _ hb18; clear k0 k1 k2 k3 k4 k5 k6 k7 k8 k9 k10 k11 k12 k13 k14 o0 o1 o2 o3 o4 o5 o6 o7 o8 o9 o10 o11 o12 o13 o14 cR)
              | (go_at_call 14; refine cS.mono ?_; rintro e w19 ⟨rfl, hb19⟩))
            go_ret
            exact ⟨rfl, (hbel.trans (hb18.mono hbel.size)).trans (hb19.mono (Nat.le_trans hbel.size hb18.size))⟩

end Go.Proofs.Ytbkgbnjiibhmhaa
