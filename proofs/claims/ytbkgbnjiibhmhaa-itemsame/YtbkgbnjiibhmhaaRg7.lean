/-
  TWO COPIES OF ONE ITEM IN ONE STATEMENT, in whatever order. Conditions: those of item.Copy.
-/
import Derived.Test.YtbkgbnjiibhmhaaReg
namespace Go.Proofs.Ytbkgbnjiibhmhaa
open Go.ChangeShapes Go.WideShapes Go.ChangeAt Go.RowKit Go.Lib
set_option linter.unusedVariables false
set_option linter.unusedSimpArgs false
set_option maxRecDepth 20000

theorem own_keep {w : World} {B g : Nat} {e : TypeId} {size n : Nat} {v : Value} {xs : List Value} (h : w.ownsRow B e size v n xs) (hne : v.ownBlock ≠ some g) (cs : Array Value) : (w.setRow g cs).ownsRow B e size v n xs := by
  obtain ⟨h1, h2 | ⟨k, cap, cur, hv, hbs, hk, hr⟩⟩ := h
  · exact ⟨h1, .inl h2⟩
  · refine ⟨h1, .inr ⟨k, cap, cur, hv, hbs, ?_, hr⟩⟩
    have : k ≠ g := fun e => hne (by rw [hv, e]; rfl)
    rw [setRow_other w g k cs this]; exact hk
theorem blk_row {w : World} {g k : Nat} {cs ds : Array Value} {t : TypeId} (h : Blk w k ds t) (hne : k ≠ g) : Blk (w.setRow g cs) k ds t := by
  unfold Blk at *
  rw [setRow_other w g k cs hne]; exact h

/-- a copy, its rows' blocks from lo up to hi -/
structure Cp (w : World) (lo hi n m : Nat) (l : PL) (s : List Int) (x y : Value) : Prop where
  r1 : w.ownsRow lo 37 2 x n (pcs2 l)
  r2 : w.ownsRow lo 5 1 y m (u8s s)
  t1 : ∀ k, x.ownBlock = some k → k < hi
  t2 : ∀ k, y.ownBlock = some k → k < hi
  s1 : ∃ a c, x = .slice a n c
  s2 : ∃ a c, y = .slice a m c
theorem Cp.below {w w' : World} {lo hi n m : Nat} {l : PL} {s : List Int} {x y : Value} (h : Cp w lo hi n m l s x y) (hb : Below w.heap.size w w') : Cp w' lo hi n m l s x y :=
  ⟨own_below hb h.r1, own_below hb h.r2, h.t1, h.t2, h.s1, h.s2⟩
theorem Cp.row {w : World} {lo hi n m g : Nat} {l : PL} {s : List Int} {x y : Value} (h : Cp w lo hi n m l s x y) (hg : g < lo ∨ hi ≤ g) (cs : Array Value) : Cp (w.setRow g cs) lo hi n m l s x y :=
  ⟨own_keep h.r1 (fun e => by have := (h.r1.lt g e).1; have := h.t1 g e; omega) cs, own_keep h.r2 (fun e => by have := (h.r2.lt g e).1; have := h.t2 g e; omega) cs, h.t1, h.t2, h.s1, h.s2⟩

/-- what holds while the operations marked are done -/
structure St (w0 : World) (h : Hd) (A : Array Value) (n m : Nat) (l : PL) (s : List Int) (f0 f1 f2 f3 f4 f5 f6 f7 : Bool) (v42 v43 v44 v45 v5 v6 x1 y1 x2 y2 : Value) (lo1 hi1 lo2 hi2 g5 g6 : Nat) (w : World) : Prop where
  box : Blk w w0.heap.size A 29
  bel : Below w0.heap.size w0 w
  sz : w0.heap.size + 2 ≤ w.heap.size
  e0 : f0 = true → v42 = .agg A
  e2 : f2 = true → v44 = .agg A
  c1 : f1 = true → v43 = .agg (h.it x1 y1) ∧ Cp w lo1 hi1 n m l s x1 y1
  c2 : f3 = true → v45 = .agg (h.it x2 y2) ∧ Cp w lo2 hi2 n m l s x2 y2
  p5 : f4 = true → v5 = .pointer (some ⟨g5, 0, none⟩) ∧ Blk w g5 (if f6 = true then h.it x1 y1 else zI) 29
  p6 : f5 = true → v6 = .pointer (some ⟨g6, 0, none⟩) ∧ Blk w g6 (if f7 = true then h.it x2 y2 else zI) 29
  i1 : f1 = true → w0.heap.size + 2 ≤ lo1 ∧ hi1 ≤ w.heap.size
  i2 : f3 = true → hi1 ≤ lo2 ∧ hi2 ≤ w.heap.size
  d5 : f4 = true → w0.heap.size + 2 ≤ g5 ∧ g5 < w.heap.size ∧ (f1 = true → g5 < lo1 ∨ hi1 ≤ g5) ∧ (f3 = true → g5 < lo2 ∨ hi2 ≤ g5)
  d6 : f5 = true → w0.heap.size + 2 ≤ g6 ∧ g6 < w.heap.size ∧ (f1 = true → g6 < lo1 ∨ hi1 ≤ g6) ∧ (f3 = true → g6 < lo2 ∨ hi2 ≤ g6)
  d56 : f4 = true → f5 = true → g5 ≠ g6
  o31 : f3 = true → f1 = true
  o6 : f6 = true → f4 = true ∧ f1 = true
  o7 : f7 = true → f5 = true ∧ f3 = true

variable {w0 : World} {h : Hd} {A : Array Value} {n m : Nat} {l : PL} {s : List Int} {f0 f1 f2 f3 f4 f5 f6 f7 : Bool} {v42 v43 v44 v45 v5 v6 x1 y1 x2 y2 : Value} {lo1 hi1 lo2 hi2 g5 g6 : Nat} {w : World}

theorem St.s0 (H : St w0 h A n m l s f0 f1 f2 f3 f4 f5 f6 f7 v42 v43 v44 v45 v5 v6 x1 y1 x2 y2 lo1 hi1 lo2 hi2 g5 g6 w) : St w0 h A n m l s true f1 f2 f3 f4 f5 f6 f7 (.agg A) v43 v44 v45 v5 v6 x1 y1 x2 y2 lo1 hi1 lo2 hi2 g5 g6 w :=
  { H with e0 := fun _ => rfl }
theorem St.s2 (H : St w0 h A n m l s f0 f1 f2 f3 f4 f5 f6 f7 v42 v43 v44 v45 v5 v6 x1 y1 x2 y2 lo1 hi1 lo2 hi2 g5 g6 w) : St w0 h A n m l s f0 f1 true f3 f4 f5 f6 f7 v42 v43 (.agg A) v45 v5 v6 x1 y1 x2 y2 lo1 hi1 lo2 hi2 g5 g6 w :=
  { H with e2 := fun _ => rfl }
theorem St.s4 (H : St w0 h A n m l s f0 f1 f2 f3 false f5 f6 f7 v42 v43 v44 v45 v5 v6 x1 y1 x2 y2 lo1 hi1 lo2 hi2 g5 g6 w) : St w0 h A n m l s f0 f1 f2 f3 true f5 f6 f7 v42 v43 v44 v45 (.pointer (some ⟨w.heap.size, 0, none⟩)) v6 x1 y1 x2 y2 lo1 hi1 lo2 hi2 w.heap.size g6 (w.alloc (.cells zI 29)) := by
  have hb := below_alloc w (.cells zI 29)
  have hz : (w.alloc (.cells zI 29)).heap.size = w.heap.size + 1 := by simp
  have h6 : f6 = false := by cases f6; rfl; have := (H.o6 rfl).1; cases this
  subst h6
  have := H.sz
  refine ⟨H.box.below hb, H.bel.trans (hb.mono H.bel.size), by omega, H.e0, H.e2, fun e => ⟨(H.c1 e).1, (H.c1 e).2.below hb⟩, fun e => ⟨(H.c2 e).1, (H.c2 e).2.below hb⟩, fun _ => ⟨rfl, heap_alloc_new _ _⟩, fun e => ⟨(H.p6 e).1, (H.p6 e).2.below hb⟩, fun e => ⟨(H.i1 e).1, by have := (H.i1 e).2; omega⟩, fun e => ⟨(H.i2 e).1, by have := (H.i2 e).2; omega⟩, fun _ => ⟨by omega, by omega, fun e => .inr (H.i1 e).2, fun e => .inr (H.i2 e).2⟩, fun e => ⟨(H.d6 e).1, by have := (H.d6 e).2.1; omega, (H.d6 e).2.2.1, (H.d6 e).2.2.2⟩, fun _ e => by have := (H.d6 e).2.1; omega, H.o31, (fun e => by cases e), H.o7⟩
theorem St.s5 (H : St w0 h A n m l s f0 f1 f2 f3 f4 false f6 f7 v42 v43 v44 v45 v5 v6 x1 y1 x2 y2 lo1 hi1 lo2 hi2 g5 g6 w) : St w0 h A n m l s f0 f1 f2 f3 f4 true f6 f7 v42 v43 v44 v45 v5 (.pointer (some ⟨w.heap.size, 0, none⟩)) x1 y1 x2 y2 lo1 hi1 lo2 hi2 g5 w.heap.size (w.alloc (.cells zI 29)) := by
  have hb := below_alloc w (.cells zI 29)
  have hz : (w.alloc (.cells zI 29)).heap.size = w.heap.size + 1 := by simp
  have h7 : f7 = false := by cases f7; rfl; have := (H.o7 rfl).1; cases this
  subst h7
  have := H.sz
  refine ⟨H.box.below hb, H.bel.trans (hb.mono H.bel.size), by omega, H.e0, H.e2, fun e => ⟨(H.c1 e).1, (H.c1 e).2.below hb⟩, fun e => ⟨(H.c2 e).1, (H.c2 e).2.below hb⟩, fun e => ⟨(H.p5 e).1, (H.p5 e).2.below hb⟩, fun _ => ⟨rfl, heap_alloc_new _ _⟩, fun e => ⟨(H.i1 e).1, by have := (H.i1 e).2; omega⟩, fun e => ⟨(H.i2 e).1, by have := (H.i2 e).2; omega⟩, fun e => ⟨(H.d5 e).1, by have := (H.d5 e).2.1; omega, (H.d5 e).2.2.1, (H.d5 e).2.2.2⟩, fun _ => ⟨by omega, by omega, fun e => .inr (H.i1 e).2, fun e => .inr (H.i2 e).2⟩, fun e _ => by have := (H.d5 e).2.1; omega, H.o31, H.o6, (fun e => by cases e)⟩
theorem St.s1 {w' : World} {x y : Value} (H : St w0 h A n m l s f0 false f2 f3 f4 f5 f6 f7 v42 v43 v44 v45 v5 v6 x1 y1 x2 y2 lo1 hi1 lo2 hi2 g5 g6 w) (hb : Below w.heap.size w w') (hx : w'.ownsRow (w.heap.size + 2) 37 2 x n (pcs2 l)) (hy : w'.ownsRow (w.heap.size + 2) 5 1 y m (u8s s)) (q1 : ∃ a c, x = .slice a n c) (q2 : ∃ a c, y = .slice a m c) :
    St w0 h A n m l s f0 true f2 f3 f4 f5 f6 f7 v42 (.agg (h.it x y)) v44 v45 v5 v6 x y x2 y2 (w.heap.size + 2) w'.heap.size lo2 hi2 g5 g6 w' := by
  have hz := hb.size
  have h3 : f3 = false := by cases f3; rfl; have := H.o31 rfl; cases this
  have h6 : f6 = false := by cases f6; rfl; have := (H.o6 rfl).2; cases this
  subst h3 h6
  have := H.sz
  refine ⟨H.box.below hb, H.bel.trans (hb.mono H.bel.size), by omega, H.e0, H.e2, fun _ => ⟨rfl, hx, hy, fun k hk => (hx.lt k hk).2, fun k hk => (hy.lt k hk).2, q1, q2⟩, (fun e => by cases e), fun e => ⟨(H.p5 e).1, (H.p5 e).2.below hb⟩, fun e => ⟨(H.p6 e).1, (H.p6 e).2.below hb⟩, fun _ => ⟨by omega, Nat.le_refl _⟩, (fun e => by cases e), fun e => ⟨(H.d5 e).1, by have := (H.d5 e).2.1; omega, fun _ => .inl (by have := (H.d5 e).2.1; omega), (fun e => by cases e)⟩, fun e => ⟨(H.d6 e).1, by have := (H.d6 e).2.1; omega, fun _ => .inl (by have := (H.d6 e).2.1; omega), (fun e => by cases e)⟩, H.d56, (fun e => by cases e), (fun e => by cases e), (fun e => by have := (H.o7 e).2; cases this)⟩
theorem St.s3 {w' : World} {x y : Value} (H : St w0 h A n m l s f0 true f2 false f4 f5 f6 f7 v42 v43 v44 v45 v5 v6 x1 y1 x2 y2 lo1 hi1 lo2 hi2 g5 g6 w) (hb : Below w.heap.size w w') (hx : w'.ownsRow (w.heap.size + 2) 37 2 x n (pcs2 l)) (hy : w'.ownsRow (w.heap.size + 2) 5 1 y m (u8s s)) (q1 : ∃ a c, x = .slice a n c) (q2 : ∃ a c, y = .slice a m c) :
    St w0 h A n m l s f0 true f2 true f4 f5 f6 f7 v42 v43 v44 (.agg (h.it x y)) v5 v6 x1 y1 x y lo1 hi1 (w.heap.size + 2) w'.heap.size g5 g6 w' := by
  have hz := hb.size
  have h7 : f7 = false := by cases f7; rfl; have := (H.o7 rfl).2; cases this
  subst h7
  have := H.sz
  refine ⟨H.box.below hb, H.bel.trans (hb.mono H.bel.size), by omega, H.e0, H.e2, fun e => ⟨(H.c1 e).1, (H.c1 e).2.below hb⟩, fun _ => ⟨rfl, hx, hy, fun k hk => (hx.lt k hk).2, fun k hk => (hy.lt k hk).2, q1, q2⟩, fun e => ⟨(H.p5 e).1, (H.p5 e).2.below hb⟩, fun e => ⟨(H.p6 e).1, (H.p6 e).2.below hb⟩, fun e => ⟨(H.i1 e).1, by have := (H.i1 e).2; omega⟩, fun _ => ⟨by have := (H.i1 rfl).2; omega, Nat.le_refl _⟩, fun e => ⟨(H.d5 e).1, by have := (H.d5 e).2.1; omega, (H.d5 e).2.2.1, fun _ => .inl (by have := (H.d5 e).2.1; omega)⟩, fun e => ⟨(H.d6 e).1, by have := (H.d6 e).2.1; omega, (H.d6 e).2.2.1, fun _ => .inl (by have := (H.d6 e).2.1; omega)⟩, H.d56, fun _ => rfl, H.o6, (fun e => by cases e)⟩
theorem St.s6 (H : St w0 h A n m l s f0 true f2 true true true false f7 v42 v43 v44 v45 v5 v6 x1 y1 x2 y2 lo1 hi1 lo2 hi2 g5 g6 w) : St w0 h A n m l s f0 true f2 true true true true f7 v42 v43 v44 v45 v5 v6 x1 y1 x2 y2 lo1 hi1 lo2 hi2 g5 g6 (w.setRow g5 (h.it x1 y1)) := by
  have d5 := H.d5 rfl
  have d6 := H.d6 rfl
  have hz : (w.setRow g5 (h.it x1 y1)).heap.size = w.heap.size := by simp [World.setRow]
  refine ⟨blk_row H.box (by omega), below_setRow H.bel (by omega) _, by have := H.sz; omega, H.e0, H.e2, fun e => ⟨(H.c1 e).1, (H.c1 e).2.row (d5.2.2.1 rfl) _⟩, fun e => ⟨(H.c2 e).1, (H.c2 e).2.row (d5.2.2.2 rfl) _⟩, fun e => ⟨(H.p5 e).1, setRow_heap _ _ _ _ _ _ (H.p5 e).2⟩, fun e => ⟨(H.p6 e).1, blk_row (H.p6 e).2 (fun q => H.d56 rfl rfl q.symm)⟩, fun e => by rw [hz]; exact H.i1 e, fun e => by rw [hz]; exact H.i2 e, fun e => by rw [hz]; exact H.d5 e, fun e => by rw [hz]; exact H.d6 e, H.d56, H.o31, fun _ => ⟨rfl, rfl⟩, H.o7⟩
theorem St.s7 (H : St w0 h A n m l s f0 true f2 true true true true false v42 v43 v44 v45 v5 v6 x1 y1 x2 y2 lo1 hi1 lo2 hi2 g5 g6 w) : St w0 h A n m l s f0 true f2 true true true true true v42 v43 v44 v45 v5 v6 x1 y1 x2 y2 lo1 hi1 lo2 hi2 g5 g6 (w.setRow g6 (h.it x2 y2)) := by
  have d5 := H.d5 rfl
  have d6 := H.d6 rfl
  have hz : (w.setRow g6 (h.it x2 y2)).heap.size = w.heap.size := by simp [World.setRow]
  refine ⟨blk_row H.box (by omega), below_setRow H.bel (by omega) _, by have := H.sz; omega, H.e0, H.e2, fun e => ⟨(H.c1 e).1, (H.c1 e).2.row (d6.2.2.1 rfl) _⟩, fun e => ⟨(H.c2 e).1, (H.c2 e).2.row (d6.2.2.2 rfl) _⟩, fun e => ⟨(H.p5 e).1, blk_row (H.p5 e).2 (H.d56 rfl rfl)⟩, fun e => ⟨(H.p6 e).1, setRow_heap _ _ _ _ _ _ (H.p6 e).2⟩, fun e => by rw [hz]; exact H.i1 e, fun e => by rw [hz]; exact H.i2 e, fun e => by rw [hz]; exact H.d5 e, fun e => by rw [hz]; exact H.d6 e, H.d56, H.o31, H.o6, fun _ => ⟨rfl, rfl⟩⟩

end Go.Proofs.Ytbkgbnjiibhmhaa
