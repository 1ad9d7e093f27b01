/-
  AN ITEM AND ITS TWO COPIES, WHILE THE FIRST COPY IS CHANGED. No condition.
-/
import Derived.Test.YtbkgbnjiibhmhaaRg8
import Derived.Test.YtbkgbnjiibhmhaaMan
namespace Go.Proofs.Ytbkgbnjiibhmhaa
open Go.ChangeShapes Go.WideShapes Go.ChangeAt Go.RowKit Go.Lib
set_option linter.unusedVariables false
set_option linter.unusedSimpArgs false
set_option maxRecDepth 20000

/-- an item, its first copy's box, and the second copy: all that the first copy's rows do not touch -/
structure Cq (w wr : World) (h : Hd) (x y : Value) (g5 g6 lo1 hi1 lo2 hi2 n m : Nat) (x1 y1 x2 y2 : Value) (l : PL) (d : List Int) : Prop where
  box : Blk wr w.heap.size (h.it x y) 29
  bel : Below w.heap.size w wr
  b5 : Blk wr g5 (h.it x1 y1) 29
  b6 : Blk wr g6 (h.it x2 y2) 29
  c2 : Cp wr lo2 hi2 n m l d x2 y2
  base : w.heap.size + 2 ≤ lo1
  ord : hi1 ≤ lo2
  o5 : g5 < lo1 ∨ hi1 ≤ g5
  o6 : g6 < lo1 ∨ hi1 ≤ g6

theorem Cq.of {w wr : World} {h : Hd} {x y : Value} {g5 g6 lo1 hi1 lo2 hi2 n m : Nat} {x1 y1 x2 y2 v42 v43 v44 v45 v5 v6 : Value} {l : PL} {d : List Int} (H : St w h (h.it x y) n m l d true true true true true true true true v42 v43 v44 v45 v5 v6 x1 y1 x2 y2 lo1 hi1 lo2 hi2 g5 g6 wr) : Cq w wr h x y g5 g6 lo1 hi1 lo2 hi2 n m x1 y1 x2 y2 l d ∧ Cp wr lo1 hi1 n m l d x1 y1 :=
  ⟨⟨H.box, H.bel, by simpa using (H.p5 rfl).2, by simpa using (H.p6 rfl).2, (H.c2 rfl).2, (H.i1 rfl).1, (H.i2 rfl).1, (H.d5 rfl).2.2.1 rfl, (H.d6 rfl).2.2.1 rfl⟩, (H.c1 rfl).2⟩

theorem Cq.below {w wr wt : World} {h : Hd} {x y : Value} {g5 g6 lo1 hi1 lo2 hi2 n m : Nat} {x1 y1 x2 y2 : Value} {l : PL} {d : List Int} (H : Cq w wr h x y g5 g6 lo1 hi1 lo2 hi2 n m x1 y1 x2 y2 l d) (hb : Below wr.heap.size wr wt) : Cq w wt h x y g5 g6 lo1 hi1 lo2 hi2 n m x1 y1 x2 y2 l d :=
  ⟨H.box.below hb, H.bel.trans (hb.mono H.bel.size), H.b5.below hb, H.b6.below hb, H.c2.below hb, H.base, H.ord, H.o5, H.o6⟩

/-- a store into a block of the first copy's rows -/
theorem Cq.set {w wr : World} {h : Hd} {x y : Value} {g5 g6 lo1 hi1 lo2 hi2 n m : Nat} {x1 y1 x2 y2 : Value} {l : PL} {d : List Int} (H : Cq w wr h x y g5 g6 lo1 hi1 lo2 hi2 n m x1 y1 x2 y2 l d) {g i : Nat} (h1 : lo1 ≤ g) (h2 : g < hi1) (u : Value) : Cq w (wr.setCell ⟨g, i, none⟩ u) h x y g5 g6 lo1 hi1 lo2 hi2 n m x1 y1 x2 y2 l d := by
  have hb := H.base
  have ho := H.ord
  have h5 := H.o5
  have h6 := H.o6
  exact ⟨H.box.other (by omega) u, H.bel.setCell (p := ⟨g, i, none⟩) (by show w.heap.size ≤ g; omega) _, H.b5.other (by omega) u, H.b6.other (by omega) u, ⟨own_setCell H.c2.r1 (by omega) u, own_setCell H.c2.r2 (by omega) u, H.c2.t1, H.c2.t2, H.c2.s1, H.c2.s2⟩, hb, ho, h5, h6⟩

/-- a row of pairs whose values do not matter -/
def XR (w : World) (lo hi n : Nat) (a : Option Addr) : Prop := n = 0 ∨ ∃ g cs, a = some ⟨g, 0, none⟩ ∧ lo ≤ g ∧ g < hi ∧ Blk w g cs 37 ∧ 2 * n ≤ cs.size
theorem XR.below {w w' : World} {lo hi n : Nat} {a : Option Addr} (h : XR w lo hi n a) (hb : Below w.heap.size w w') : XR w' lo hi n a := by
  rcases h with h | ⟨g, cs, e, h1, h2, h3, h4⟩
  · exact .inl h
  · exact .inr ⟨g, cs, e, h1, h2, h3.below hb, h4⟩
theorem XR.of {w : World} {lo hi n c : Nat} {a : Option Addr} {l : PL} (h : w.ownsRow lo 37 2 (.slice a n c) n (pcs2 l)) (ht : ∀ k, (Value.slice a n c).ownBlock = some k → k < hi) : XR w lo hi n a := by
  rcases h.2 with ⟨_, h0⟩ | ⟨g, cap, cur, e, hb, hg, hn, hm, hs, ht'⟩
  · exact .inl h0
  · cases e
    exact .inr ⟨g, cur, rfl, hb, ht g rfl, hg, by omega⟩
/-- a store into a block of bytes -/
theorem XR.bytes {w : World} {lo hi n : Nat} {a : Option Addr} (h : XR w lo hi n a) {g i : Nat} {cs : Array Value} (hg : Blk w g cs 5) (u : Value) : XR (w.setCell ⟨g, i, none⟩ u) lo hi n a := by
  rcases h with h | ⟨k, ds, e, h1, h2, h3, h4⟩
  · exact .inl h
  · refine .inr ⟨k, ds, e, h1, h2, h3.other ?_ u, h4⟩
    rintro rfl
    have := h3.symm.trans hg
    simp at this
/-- a store into it -/
theorem XR.set {w : World} {lo hi n : Nat} {g i : Nat} (h : XR w lo hi n (some ⟨g, 0, none⟩)) (u : Value) : XR (w.setCell ⟨g, i, none⟩ u) lo hi n (some ⟨g, 0, none⟩) := by
  rcases h with h | ⟨k, ds, e, h1, h2, h3, h4⟩
  · exact .inl h
  · cases e
    exact .inr ⟨g, _, rfl, h1, h2, h3.set u, by simpa using h4⟩

theorem own_blk {w : World} {lo n g c : Nat} {e : TypeId} {xs : List Value} {size : Nat} (h : w.ownsRow lo e size (.slice (some ⟨g, 0, none⟩) n c) n xs) : ∃ cs, Blk w g cs e := by
  rcases h.2 with ⟨e0, h0⟩ | ⟨g, cap, cur, e, hb, hg, hn, hm, hs, ht'⟩
  · cases e0
  · cases e
    exact ⟨_, hg⟩

end Go.Proofs.Ytbkgbnjiibhmhaa
