/-
  ITEMS: item.Same, the document's Same, item.Copy: the same, in new memory. Conditions: how much there is.
-/
import Derived.Test.YtbkgbnjiibhmhaaSaa
import Derived.Test.YtbkgbnjiibhmhaaSab
import Derived.Test.YtbkgbnjiibhmhaaCln
import Derived.Laws.Tables
import Derived.Test.YtbkgbnjiibhmhaaFul
namespace Go.Proofs.Ytbkgbnjiibhmhaa
open Go.ChangeShapes Go.WideShapes Go.ChangeAt Go.RowKit Go.Lib
set_option linter.unusedVariables false
set_option linter.unusedSimpArgs false
set_option maxRecDepth 20000

/-- an item's cells -/
def Hd.it (h : Hd) (x y : Value) : Array Value := #[.int .i64 h.kind, .string h.name, .string h.link, .int .i64 h.mode, .int .i64 h.uid, .int .i64 h.gid, .int .i64 h.size, .int .i64 h.sec, .int .i64 h.nano, .string h.user, .string h.group, .int .i64 h.major, .int .i64 h.minor, x, y]

theorem it_cells {w : World} {g : Nat} {t : TypeId} {h : Hd} {x y : Value} (hB : Blk w g (h.it x y) t) :
    w.cell? ⟨g, 0, none⟩ = some (.int .i64 h.kind) ∧ w.cell? ⟨g, 1, none⟩ = some (.string h.name) ∧ w.cell? ⟨g, 2, none⟩ = some (.string h.link) ∧ w.cell? ⟨g, 3, none⟩ = some (.int .i64 h.mode) ∧ w.cell? ⟨g, 4, none⟩ = some (.int .i64 h.uid) ∧ w.cell? ⟨g, 5, none⟩ = some (.int .i64 h.gid) ∧ w.cell? ⟨g, 6, none⟩ = some (.int .i64 h.size) ∧
    w.cell? ⟨g, 7, none⟩ = some (.int .i64 h.sec) ∧ w.cell? ⟨g, 8, none⟩ = some (.int .i64 h.nano) ∧ w.cell? ⟨g, 9, none⟩ = some (.string h.user) ∧ w.cell? ⟨g, 10, none⟩ = some (.string h.group) ∧ w.cell? ⟨g, 11, none⟩ = some (.int .i64 h.major) ∧ w.cell? ⟨g, 12, none⟩ = some (.int .i64 h.minor) ∧ w.cell? ⟨g, 13, none⟩ = some x ∧ w.cell? ⟨g, 14, none⟩ = some y :=
  ⟨hB.cell 0, hB.cell 1, hB.cell 2, hB.cell 3, hB.cell 4, hB.cell 5, hB.cell 6, hB.cell 7, hB.cell 8, hB.cell 9, hB.cell 10, hB.cell 11, hB.cell 12, hB.cell 13, hB.cell 14⟩

theorem below_alloc (w : World) (o : Obj) : Below w.heap.size w (w.alloc o) := (Below.refl _ w).alloc (Nat.le_refl _) _

/-- are two items the same? -/
def eqI (h1 h2 : Hd) (l1 l2 : PL) (d1 d2 : List Int) : Bool := (eqH h1 h2 && decide (l1 = l2)) && decide (d1 = d2)


set_option maxHeartbeats 8000000 in
theorem isame_ok {w : World} {a1 a2 e1 e2 : Option Addr} {n1 c1 n2 c2 m1 f1 m2 f2 : Nat} {l1 l2 : PL} {d1 d2 : List Int} (h1 h2 : Hd) (hp1 : Pys w a1 n1 c1 l1) (hp2 : Pys w a2 n2 c2 l2) (hd1 : Bys w e1 m1 f1 d1) (hd2 : Bys w e2 m2 f2 d2) :
    Calls Try.prog 9 #[.agg (h1.it (.slice a1 n1 c1) (.slice e1 m1 f1)), .agg (h2.it (.slice a2 n2 c2) (.slice e2 m2 f2))] w fun e w' => e = .returned (.bool (eqI h1 h2 l1 l2 d1 d2)) ∧ Below w.heap.size w w' := by
  have hb0 := below_alloc w (.cells (h1.it (.slice a1 n1 c1) (.slice e1 m1 f1)) 29)
  have hb1 := hb0.alloc hb0.size (.cells (h2.it (.slice a2 n2 c2) (.slice e2 m2 f2)) 29)
  have hB1 : Blk ((w.alloc (.cells (h1.it (.slice a1 n1 c1) (.slice e1 m1 f1)) 29)).alloc (.cells (h2.it (.slice a2 n2 c2) (.slice e2 m2 f2)) 29)) w.heap.size (h1.it (.slice a1 n1 c1) (.slice e1 m1 f1)) 29 := by
    have b : Blk (w.alloc (.cells (h1.it (.slice a1 n1 c1) (.slice e1 m1 f1)) 29)) w.heap.size (h1.it (.slice a1 n1 c1) (.slice e1 m1 f1)) 29 := heap_alloc_new _ _
    exact b.below (below_alloc _ _)
  have hB2 : Blk ((w.alloc (.cells (h1.it (.slice a1 n1 c1) (.slice e1 m1 f1)) 29)).alloc (.cells (h2.it (.slice a2 n2 c2) (.slice e2 m2 f2)) 29)) (w.heap.size + 1) (h2.it (.slice a2 n2 c2) (.slice e2 m2 f2)) 29 := (two_new w _ _).2
  have hs := samehead_ok h1 h2 (hp1.below hb1) (hp2.below hb1)
  have hbq := fun (wr : World) (hb : Below w.heap.size w wr) => beq_ok (hd1.below hb) (hd2.below hb)
  unfold eqI
  generalize (eqH h1 h2 && decide (l1 = l2)) = q at *
  generalize decide (d1 = d2) = r at *
  clear hp1 hp2 hd1 hd2
  unfold Hd.it at *
  unfold Hd.cs at hs
  cases q
  · go_enter Try.func9, Try.ntmps9
    go_wp2_with (go_at_call 24; refine hs.mono ?_; rintro e w1 ⟨rfl, hbx⟩)
    go_ret
    exact ⟨rfl, hb1.trans (hbx.mono hb1.size)⟩
  · go_enter Try.func9, Try.ntmps9
    go_wp2_with (first
      | (go_at_call 24; refine hs.mono ?_; rintro e w1 ⟨rfl, hbx⟩; have hac := hb1.trans (hbx.mono hb1.size); (have k1 : w1.cell? ⟨w.heap.size, 14, none⟩ = some (.slice e1 m1 f1) := (hB1.below hbx).cell 14); (have k2 : w1.cell? ⟨w.heap.size + 1, 14, none⟩ = some (.slice e2 m2 f2) := (hB2.below hbx).cell 14))
      | (go_at_call 25; refine (hbq _ hac).mono ?_; rintro e w' ⟨hw, rfl⟩; obtain rfl := hw.symm))
    go_ret
    exact ⟨rfl, hac⟩

set_option maxHeartbeats 8000000 in
theorem rsame_ok {w : World} {a1 a2 e1 e2 : Option Addr} {n1 c1 n2 c2 m1 f1 m2 f2 : Nat} {l1 l2 : PL} {d1 d2 : List Int} (h1 h2 : Hd) (hp1 : Pys w a1 n1 c1 l1) (hp2 : Pys w a2 n2 c2 l2) (hd1 : Bys w e1 m1 f1 d1) (hd2 : Bys w e2 m2 f2 d2) :
    Calls Try.prog 10 #[.agg (h1.it (.slice a1 n1 c1) (.slice e1 m1 f1)), .agg (h2.it (.slice a2 n2 c2) (.slice e2 m2 f2))] w fun e w' => e = .returned (.bool (eqI h1 h2 l1 l2 d1 d2)) ∧ Below w.heap.size w w' := by
  have hb0 := below_alloc w (.cells (h1.it (.slice a1 n1 c1) (.slice e1 m1 f1)) 29)
  have hb1 := hb0.alloc hb0.size (.cells (h2.it (.slice a2 n2 c2) (.slice e2 m2 f2)) 29)
  have hB1 : Blk ((w.alloc (.cells (h1.it (.slice a1 n1 c1) (.slice e1 m1 f1)) 29)).alloc (.cells (h2.it (.slice a2 n2 c2) (.slice e2 m2 f2)) 29)) w.heap.size (h1.it (.slice a1 n1 c1) (.slice e1 m1 f1)) 29 := by
    have b : Blk (w.alloc (.cells (h1.it (.slice a1 n1 c1) (.slice e1 m1 f1)) 29)) w.heap.size (h1.it (.slice a1 n1 c1) (.slice e1 m1 f1)) 29 := heap_alloc_new _ _
    exact b.below (below_alloc _ _)
  have hB2 : Blk ((w.alloc (.cells (h1.it (.slice a1 n1 c1) (.slice e1 m1 f1)) 29)).alloc (.cells (h2.it (.slice a2 n2 c2) (.slice e2 m2 f2)) 29)) (w.heap.size + 1) (h2.it (.slice a2 n2 c2) (.slice e2 m2 f2)) 29 := (two_new w _ _).2
  have hs := rsamehead_ok h1 h2 (hp1.below hb1) (hp2.below hb1)
  have hbq := fun (wr : World) (hb : Below w.heap.size w wr) => rbeq_ok (hd1.below hb) (hd2.below hb)
  unfold eqI
  generalize (eqH h1 h2 && decide (l1 = l2)) = q at *
  generalize decide (d1 = d2) = r at *
  clear hp1 hp2 hd1 hd2
  unfold Hd.it at *
  unfold Hd.cs at hs
  cases q
  · go_enter Try.func10, Try.ntmps10
    go_wp2_with (go_at_call 12; refine hs.mono ?_; rintro e w1 ⟨rfl, hbx⟩)
    go_ret
    exact ⟨rfl, hb1.trans (hbx.mono hb1.size)⟩
  · go_enter Try.func10, Try.ntmps10
    go_wp2_with (first
      | (go_at_call 12; refine hs.mono ?_; rintro e w1 ⟨rfl, hbx⟩; have hac := hb1.trans (hbx.mono hb1.size); (have k1 : w1.cell? ⟨w.heap.size, 14, none⟩ = some (.slice e1 m1 f1) := (hB1.below hbx).cell 14); (have k2 : w1.cell? ⟨w.heap.size + 1, 14, none⟩ = some (.slice e2 m2 f2) := (hB2.below hbx).cell 14))
      | (go_at_call 13; refine (hbq _ hac).mono ?_; rintro e w' ⟨hw, rfl⟩; obtain rfl := hw.symm))
    go_ret
    exact ⟨rfl, hac⟩

end Go.Proofs.Ytbkgbnjiibhmhaa
