/-
  THE WALK OF ItemSame. Conditions: how long the texts and lists may be.
-/
import Derived.Test.YtbkgbnjiibhmhaaCpc
import Derived.Test.YtbkgbnjiibhmhaaMan
import Derived.Test.YtbkgbnjiibhmhaaAlv
import Derived.Deep.RegionWith
import Derived.Deep.CutRange
namespace Go.Proofs.Ytbkgbnjiibhmhaa
open Go.ChangeShapes Go.WideShapes Go.ChangeAt Go.RowKit Go.Lib
set_option linter.unusedVariables false
set_option linter.unusedSimpArgs false
set_option maxRecDepth 20000

theorem eqI_refl (h : Hd) (l : PL) (d : List Int) : eqI h h l l d d = true := by
  unfold eqI; rw [eqH_refl]; simp

/-- where a and its two copies c and d lie: G: the world's size behind both copies -/
structure Cop (w wr : World) (h : Hd) (x y : Value) (g5 g6 B2 G n m : Nat) (x1 y1 x2 y2 : Value) (l : PL) (d : List Int) : Prop where
  box : Blk wr w.heap.size (h.it x y) 29
  b5 : Blk wr g5 (h.it x1 y1) 29
  b6 : Blk wr g6 (h.it x2 y2) 29
  r2 : wr.ownsRow B2 37 2 x2 n (pcs2 l)
  s2 : wr.ownsRow B2 5 1 y2 m (u8s d)
  base : w.heap.size + 2 ≤ B2
  top : B2 ≤ G
  g5le : G ≤ g5
  g6le : G ≤ g6
  lt2x : ∀ k, x2.ownBlock = some k → k < G
  lt2y : ∀ k, y2.ownBlock = some k → k < G
  bel : Below w.heap.size w wr

theorem Cop.below {w wr wt : World} {h : Hd} {x y : Value} {g5 g6 B2 G n m : Nat} {x1 y1 x2 y2 : Value} {l : PL} {d : List Int} (H : Cop w wr h x y g5 g6 B2 G n m x1 y1 x2 y2 l d) (hb : Below wr.heap.size wr wt) : Cop w wt h x y g5 g6 B2 G n m x1 y1 x2 y2 l d :=
  ⟨H.box.below hb, H.b5.below hb, H.b6.below hb, own_below hb H.r2, own_below hb H.s2, H.base, H.top, H.g5le, H.g6le, H.lt2x, H.lt2y, H.bel.trans (hb.mono H.bel.size)⟩

theorem own_off {w : World} {B g i : Nat} {e : TypeId} {size n : Nat} {v : Value} {xs : List Value} (h : w.ownsRow B e size v n xs) (hg : g < B) (u : Value) : (w.setCell ⟨g, i, none⟩ u).ownsRow B e size v n xs := own_setCell h hg u

/-- a store into a block of the first copy leaves all that -/
theorem Cop.set {w wr : World} {h : Hd} {x y : Value} {g5 g6 B2 G n m : Nat} {x1 y1 x2 y2 : Value} {l : PL} {d : List Int} (H : Cop w wr h x y g5 g6 B2 G n m x1 y1 x2 y2 l d) {g i : Nat} (h1 : w.heap.size + 2 ≤ g) (h2 : g < B2) (u : Value) : Cop w (wr.setCell ⟨g, i, none⟩ u) h x y g5 g6 B2 G n m x1 y1 x2 y2 l d :=
  ⟨H.box.other (by omega) u, H.b5.other (by have := H.top; have := H.g5le; omega) u, H.b6.other (by have := H.top; have := H.g6le; omega) u, own_off H.r2 h2 u, own_off H.s2 h2 u, H.base, H.top, H.g5le, H.g6le, H.lt2x, H.lt2y, H.bel.setCell (p := ⟨g, i, none⟩) (by show w.heap.size ≤ g; omega) _⟩

theorem Cop.drew {w wr : World} {h : Hd} {x y : Value} {g5 g6 B2 G n m : Nat} {x1 y1 x2 y2 : Value} {l : PL} {d : List Int} (H : Cop w wr h x y g5 g6 B2 G n m x1 y1 x2 y2 l d) : Cop w wr.drew h x y g5 g6 B2 G n m x1 y1 x2 y2 l d :=
  H.below (Below.refl _ _).drew

set_option maxHeartbeats 16000000 in
theorem same_early {b1 b2 : Bool} {w : World} {a1 a2 e1 e2 : Option Addr} {n1 c1 n2 c2 m1 f1 m2 f2 : Nat} {l1 l2 : PL} {d1 d2 : List Int} (h1 h2 : Hd) (hm1 : ∀ wr, Below w.heap.size w wr → Calls Try.prog 8 #[.agg (h1.cs (.slice a1 n1 c1))] wr fun e w' => e = .returned (.bool b1) ∧ Below wr.heap.size wr w')
    (hm2 : ∀ wr, Below w.heap.size w wr → Calls Try.prog 8 #[.agg (h2.cs (.slice a2 n2 c2))] wr fun e w' => e = .returned (.bool b2) ∧ Below wr.heap.size wr w') (hm : m1 + m2 ≤ 9223372036854775807) (hc : b1 = true ∨ b2 = true ∨ 5000 < m1 + m2) :
    Calls Try.prog 3 #[.agg (h1.it (.slice a1 n1 c1) (.slice e1 m1 f1)), .agg (h2.it (.slice a2 n2 c2) (.slice e2 m2 f2))] w fun e w' => e = .returned (.bool true) ∧ Below w.heap.size w w' := by
  have hac := (two_new w (.cells (h1.it (.slice a1 n1 c1) (.slice e1 m1 f1)) 29) (.cells (h2.it (.slice a2 n2 c2) (.slice e2 m2 f2)) 29)).1
  have hB : Blk ((w.alloc (.cells (h1.it (.slice a1 n1 c1) (.slice e1 m1 f1)) 29)).alloc (.cells (h2.it (.slice a2 n2 c2) (.slice e2 m2 f2)) 29)) (w.heap.size + 1) (h2.it (.slice a2 n2 c2) (.slice e2 m2 f2)) 29 := (two_new w _ _).2
  have hA : Blk ((w.alloc (.cells (h1.it (.slice a1 n1 c1) (.slice e1 m1 f1)) 29)).alloc (.cells (h2.it (.slice a2 n2 c2) (.slice e2 m2 f2)) 29)) w.heap.size (h1.it (.slice a1 n1 c1) (.slice e1 m1 f1)) 29 := by
    have b : Blk (w.alloc (.cells (h1.it (.slice a1 n1 c1) (.slice e1 m1 f1)) 29)) w.heap.size (h1.it (.slice a1 n1 c1) (.slice e1 m1 f1)) 29 := heap_alloc_new _ _
    exact b.below (below_alloc _ _)
  unfold Hd.it at hA hB hac ⊢
  unfold Hd.cs at hm1 hm2
  cases b1
  · cases b2
    · have hI : (5000 : Int) < (m1 : Int) + (m2 : Int) := by simp at hc; omega
      go_enter Try.func3, Try.ntmps3
      go_wp2_with (first
        | (go_at_call 7; refine (alive_ok _).mono ?_; rintro e w1 ⟨rfl, hb1⟩; replace hA := hA.below hb1; replace hB := hB.below hb1; replace hac := hac.trans (hb1.mono hac.size); clear hb1; obtain ⟨k0, k1, k2, k3, k4, k5, k6, k7, k8, k9, k10, k11, k12, k13, k14⟩ := it_cells (h := h1) hA; obtain ⟨j0, j1, j2, j3, j4, j5, j6, j7, j8, j9, j10, j11, j12, j13, j14⟩ := it_cells (h := h2) hB)
        | (go_at_call 8; first | (refine (hm1 _ hac).mono ?_; clear hm1; rintro e w2 ⟨rfl, hb2⟩; clear k0 k1 k2 k3 k4 k5 k6 k7 k8 k9 k10 k11 k12 k13 k14 j0 j1 j2 j3 j4 j5 j6 j7 j8 j9 j10 j11 j12 j13 j14; replace hA := hA.below hb2; replace hB := hB.below hb2; replace hac := hac.trans (hb2.mono hac.size); clear hb2; obtain ⟨k0, k1, k2, k3, k4, k5, k6, k7, k8, k9, k10, k11, k12, k13, k14⟩ := it_cells (h := h1) hA; obtain ⟨j0, j1, j2, j3, j4, j5, j6, j7, j8, j9, j10, j11, j12, j13, j14⟩ := it_cells (h := h2) hB) | (refine (hm2 _ hac).mono ?_; rintro e w3 ⟨rfl, hb3⟩; clear k0 k1 k2 k3 k4 k5 k6 k7 k8 k9 k10 k11 k12 k13 k14 j0 j1 j2 j3 j4 j5 j6 j7 j8 j9 j10 j11 j12 j13 j14; replace hA := hA.below hb3; replace hB := hB.below hb3; replace hac := hac.trans (hb3.mono hac.size); clear hb3; obtain ⟨k0, k1, k2, k3, k4, k5, k6, k7, k8, k9, k10, k11, k12, k13, k14⟩ := it_cells (h := h1) hA; obtain ⟨j0, j1, j2, j3, j4, j5, j6, j7, j8, j9, j10, j11, j12, j13, j14⟩ := it_cells (h := h2) hB)))
      go_ret
      exact ⟨rfl, hac⟩
    · go_enter Try.func3, Try.ntmps3
      go_wp2_with (first
        | (go_at_call 7; refine (alive_ok _).mono ?_; rintro e w1 ⟨rfl, hb1⟩; replace hA := hA.below hb1; replace hB := hB.below hb1; replace hac := hac.trans (hb1.mono hac.size); clear hb1; obtain ⟨k0, k1, k2, k3, k4, k5, k6, k7, k8, k9, k10, k11, k12, k13, k14⟩ := it_cells (h := h1) hA; obtain ⟨j0, j1, j2, j3, j4, j5, j6, j7, j8, j9, j10, j11, j12, j13, j14⟩ := it_cells (h := h2) hB)
        | (go_at_call 8; first | (refine (hm1 _ hac).mono ?_; clear hm1; rintro e w2 ⟨rfl, hb2⟩; clear k0 k1 k2 k3 k4 k5 k6 k7 k8 k9 k10 k11 k12 k13 k14 j0 j1 j2 j3 j4 j5 j6 j7 j8 j9 j10 j11 j12 j13 j14; replace hA := hA.below hb2; replace hB := hB.below hb2; replace hac := hac.trans (hb2.mono hac.size); clear hb2; obtain ⟨k0, k1, k2, k3, k4, k5, k6, k7, k8, k9, k10, k11, k12, k13, k14⟩ := it_cells (h := h1) hA; obtain ⟨j0, j1, j2, j3, j4, j5, j6, j7, j8, j9, j10, j11, j12, j13, j14⟩ := it_cells (h := h2) hB) | (refine (hm2 _ hac).mono ?_; rintro e w3 ⟨rfl, hb3⟩; clear k0 k1 k2 k3 k4 k5 k6 k7 k8 k9 k10 k11 k12 k13 k14 j0 j1 j2 j3 j4 j5 j6 j7 j8 j9 j10 j11 j12 j13 j14; replace hA := hA.below hb3; replace hB := hB.below hb3; replace hac := hac.trans (hb3.mono hac.size); clear hb3; obtain ⟨k0, k1, k2, k3, k4, k5, k6, k7, k8, k9, k10, k11, k12, k13, k14⟩ := it_cells (h := h1) hA; obtain ⟨j0, j1, j2, j3, j4, j5, j6, j7, j8, j9, j10, j11, j12, j13, j14⟩ := it_cells (h := h2) hB)))
      go_ret
      exact ⟨rfl, hac⟩
  · go_enter Try.func3, Try.ntmps3
    go_wp2_with (first
      | (go_at_call 7; refine (alive_ok _).mono ?_; rintro e w1 ⟨rfl, hb1⟩; replace hA := hA.below hb1; replace hB := hB.below hb1; replace hac := hac.trans (hb1.mono hac.size); clear hb1; obtain ⟨k0, k1, k2, k3, k4, k5, k6, k7, k8, k9, k10, k11, k12, k13, k14⟩ := it_cells (h := h1) hA; obtain ⟨j0, j1, j2, j3, j4, j5, j6, j7, j8, j9, j10, j11, j12, j13, j14⟩ := it_cells (h := h2) hB)
      | (go_at_call 8; first | (refine (hm1 _ hac).mono ?_; clear hm1; rintro e w2 ⟨rfl, hb2⟩; clear k0 k1 k2 k3 k4 k5 k6 k7 k8 k9 k10 k11 k12 k13 k14 j0 j1 j2 j3 j4 j5 j6 j7 j8 j9 j10 j11 j12 j13 j14; replace hA := hA.below hb2; replace hB := hB.below hb2; replace hac := hac.trans (hb2.mono hac.size); clear hb2; obtain ⟨k0, k1, k2, k3, k4, k5, k6, k7, k8, k9, k10, k11, k12, k13, k14⟩ := it_cells (h := h1) hA; obtain ⟨j0, j1, j2, j3, j4, j5, j6, j7, j8, j9, j10, j11, j12, j13, j14⟩ := it_cells (h := h2) hB) | (refine (hm2 _ hac).mono ?_; rintro e w3 ⟨rfl, hb3⟩; clear k0 k1 k2 k3 k4 k5 k6 k7 k8 k9 k10 k11 k12 k13 k14 j0 j1 j2 j3 j4 j5 j6 j7 j8 j9 j10 j11 j12 j13 j14; replace hA := hA.below hb3; replace hB := hB.below hb3; replace hac := hac.trans (hb3.mono hac.size); clear hb3; obtain ⟨k0, k1, k2, k3, k4, k5, k6, k7, k8, k9, k10, k11, k12, k13, k14⟩ := it_cells (h := h1) hA; obtain ⟨j0, j1, j2, j3, j4, j5, j6, j7, j8, j9, j10, j11, j12, j13, j14⟩ := it_cells (h := h2) hB)))
    go_ret
    exact ⟨rfl, hac⟩

end Go.Proofs.Ytbkgbnjiibhmhaa
