/-
  TWO QUEUES AND THE DOCUMENT's ROWS OF THEM, WHILE VARIABLES BESIDE THEM ARE SET. Nothing of the program. No condition.
-/
import Derived.Test.YtekacaocijfepaaQrz
import Derived.Test.YtekacaocijfepaaQis
namespace Go.Proofs.Ytekacaocijfepaa
open Go.ChangeShapes Go.WideShapes Go.ChangeAt Go.RowKit Go.Conc
set_option linter.unusedVariables false
set_option linter.unusedSimpArgs false
set_option maxRecDepth 20000

/-- two queues, and the document's rows of them -/
structure Two2 (w : World) (B B' C : Nat) (q0 q1 : Value) (m0 m1 : Nat) (ch0 ch1 : Option Nat) (v0 v1 : Value) (l0 l1 : List Int) : Prop where
  a : Qu w B q0 m0 ch0 (vsi l0)
  b : Qu w B' q1 m1 ch1 (vsi l1)
  r : w.ownsRow C 3 1 v0 l0.length (vsi l0)
  s : w.ownsRow C 3 1 v1 l1.length (vsi l1)

def ActPost (w' : World) (B B' C : Nat) (q0 q1 : Value) (m0 m1 : Nat) (ch0 ch1 : Option Nat) (e : Ending) : Prop :=
  ∃ v0 v1 l0 l1, e = .returned (.tuple #[.agg #[v0, .int .i64 m0, v1, .int .i64 m1], .bool true]) ∧ Two2 w' B B' C q0 q1 m0 m1 ch0 ch1 v0 v1 l0 l1

theorem own_setT {w : World} {B n d o : Nat} {v u : Value} {xs : List Value} {cs : Array Value} {t : TypeId} {f : Nat × Nat} (h : w.ownsRow B 3 1 v n xs) (hd : w.heap[d]? = some (.cells cs t f)) (ht : t ≠ 3) : (w.setCell ⟨d, o, none⟩ u).ownsRow B 3 1 v n xs := by
  obtain ⟨h1, h2 | ⟨g, cap, cur, hv, hbs, hg, hr⟩⟩ := h
  · exact ⟨h1, .inl h2⟩
  · refine ⟨h1, .inr ⟨g, cap, cur, hv, hbs, ?_, hr⟩⟩
    have hne : g ≠ d := fun e => by subst e; rw [hd] at hg; cases hg; exact ht rfl
    rw [Below.heap_setCell _ _ _ _ hne]; exact hg

theorem cell_set_far {w : World} {d o g p : Nat} {u x : Value} (h : w.cell? ⟨g, p, none⟩ = some x) (hne : g ≠ d) : (w.setCell ⟨d, o, none⟩ u).cell? ⟨g, p, none⟩ = some x := by
  rw [← h]; exact World.cell?_of_block (w := w) (Below.heap_setCell _ _ _ _ hne)

theorem els_setT {w : World} {d o : Nat} {u : Value} {a : Option Addr} {n c : Nat} (hd : w.cell? ⟨d, 0, none⟩ = some (.slice a n c)) : ∀ {gs : List Nat} {l : List Int}, Els w gs (vsi l) → Els (w.setCell ⟨d, o, none⟩ u) gs (vsi l)
  | [], [], _ => trivial
  | g :: gs, x :: l, ⟨e, r⟩ => ⟨cell_set_far e (fun k => by subst k; rw [hd] at e; cases e), els_setT hd r⟩
  | [], _ :: _, e => e.elim
  | _ :: _, [], e => e.elim

theorem qu_setT {w : World} {B d o cap : Nat} {q u : Value} {ch : Option Nat} {l : List Int} {a : Option Addr} {n c : Nat} (h : Qu w B q cap ch (vsi l)) (hd : w.cell? ⟨d, 0, none⟩ = some (.slice a n c)) : Qu (w.setCell ⟨d, o, none⟩ u) B q cap ch (vsi l) := by
  rcases h with h | ⟨hd', k, s, r, gs, h0, h1, h2, h3, h4, h5, h6, h7, h8⟩
  · exact .inl h
  · refine .inr ⟨hd', k, s, r, gs, h0, h1, h2, h3, h4, h5, cell_set_far h6 (fun e => by subst e; rw [hd] at h6; cases h6), ?_, els_setT hd h8⟩
    rw [Below.heap_setCell _ _ _ _ (fun e => by
      obtain ⟨_, _, _, hb⟩ := block_of_cell hd
      simp only at e hb
      rw [← e, h7] at hb; cases hb)]
    exact h7

theorem Near.setCell {S : Nat → Prop} {a w : World} (h : Near S a w) {d o : Nat} (hd : a.heap.size ≤ d) (u : Value) : Near S a (w.setCell ⟨d, o, none⟩ u) :=
  ⟨h.os, h.tape, h.output, by have := h.size; simpa [World.setCell] using this, fun k p hk hS => by
    have := (Array.getElem?_eq_some_iff.mp hk).1
    rw [Below.heap_setCell _ _ _ _ (by show k ≠ d; omega)]
    exact h.keep k p hk hS⟩

/-- what a box of cells holds, set in one place -/
theorem box_set {w : World} {d o : Nat} {cs : Array Value} {t : TypeId} {f : Nat × Nat} (h : w.heap[d]? = some (.cells cs t f)) (u : Value) : (w.setCell ⟨d, o, none⟩ u).heap[d]? = some (.cells (cs.setIfInBounds o u) t f) := by
  have hlt := (Array.getElem?_eq_some_iff.mp h).1
  simp [World.setCell, Array.getElem?_modify, h]

theorem box_cell {w : World} {d o : Nat} {cs : Array Value} {t : TypeId} {f : Nat × Nat} (h : w.heap[d]? = some (.cells cs t f)) : w.cell? ⟨d, o, none⟩ = cs[o]? := by
  unfold World.cell?; rw [h]; simp

theorem Near.box {S : Nat → Prop} {w w' : World} (h : Near S w w') {d : Nat} {cs : Array Value} {t : TypeId} {f : Nat × Nat} (hd : w.heap[d]? = some (.cells cs t f)) : w'.heap[d]? = some (.cells cs t f) := h.keep _ _ hd (fun e => by cases e)

theorem own_al' {w : World} {base : Nat} {e : TypeId} {size n : Nat} {v : Value} {xs : List Value} (h : w.ownsRow base e size v n xs) (o : Obj) : (w.alloc o).ownsRow base e size v n xs := own_below ((Below.refl _ _).alloc (Nat.le_refl _) _) h

theorem Two2.setT {w : World} {B B' C d o : Nat} {q0 q1 v0 v1 u : Value} {m0 m1 : Nat} {ch0 ch1 : Option Nat} {l0 l1 : List Int} (H : Two2 w B B' C q0 q1 m0 m1 ch0 ch1 v0 v1 l0 l1) {cs : Array Value} {t : TypeId} {f : Nat × Nat} {a : Option Addr} {n c : Nat}
    (hd : w.heap[d]? = some (.cells cs t f)) (ht : t ≠ 3) (h0 : cs[0]? = some (.slice a n c)) : Two2 (w.setCell ⟨d, o, none⟩ u) B B' C q0 q1 m0 m1 ch0 ch1 v0 v1 l0 l1 :=
  ⟨qu_setT H.a ((box_cell hd).trans h0), qu_setT H.b ((box_cell hd).trans h0), own_setT H.r hd ht, own_setT H.s hd ht⟩

theorem heap_set_ne {w : World} {d o k : Nat} {u : Value} {p : Obj} (h : w.heap[k]? = some p) (hne : k ≠ d) : (w.setCell ⟨d, o, none⟩ u).heap[k]? = some p := by rw [Below.heap_setCell _ _ _ _ hne]; exact h
theorem heap_al {w : World} {k : Nat} {p o : Obj} (h : w.heap[k]? = some p) : (w.alloc o).heap[k]? = some p := blk_keep ((Below.refl _ _).alloc (Nat.le_refl _) _) h

theorem gen_world {prog : Program} {c : Code} {Q : Exit → Act → World → Prop} {a : Act} {X : World} (P0 : World → Prop) (h : P0 X) (k : ∀ X, P0 X → c.wp prog Q a X) : c.wp prog Q a X := k X h

/-- a box set in two places ahead of an alloc -/
def Set2 (w : World) (d o : Nat) (u u' : Value) (ob : Obj) : World := ((w.setCell ⟨d, o, none⟩ u).setCell ⟨d, o + 1, none⟩ u').alloc ob
theorem qu_set2 {w : World} {B d o cap : Nat} {q u u' : Value} {ob : Obj} {ch : Option Nat} {l : List Int} (h : Qu w B q cap ch (vsi l)) {cs : Array Value} {t : TypeId} {f : Nat × Nat} (hd : w.heap[d]? = some (.cells cs t f)) {a : Option Addr} {n c : Nat} (h0 : cs[0]? = some (.slice a n c))
    {a' : Option Addr} {n' c' : Nat} (h1 : (cs.setIfInBounds o u)[0]? = some (.slice a' n' c')) : Qu (Set2 w d o u u' ob) B q cap ch (vsi l) := by
  have d1 := box_set (o := o) hd u
  exact (qu_setT (qu_setT h ((box_cell hd).trans h0)) ((box_cell d1).trans h1)).below ((Below.refl _ _).alloc (Nat.le_refl _) _)
theorem own_set2 {w : World} {B d o n : Nat} {v u u' : Value} {ob : Obj} {xs : List Value} (h : w.ownsRow B 3 1 v n xs) {cs : Array Value} {t : TypeId} {f : Nat × Nat} (hd : w.heap[d]? = some (.cells cs t f)) (ht : t ≠ 3) : (Set2 w d o u u' ob).ownsRow B 3 1 v n xs :=
  own_al' (own_setT (own_setT h hd ht) (box_set (o := o) hd u) ht) ob
theorem box_set2 {w : World} {d o : Nat} {u u' : Value} {ob : Obj} {cs : Array Value} {t : TypeId} {f : Nat × Nat} (hd : w.heap[d]? = some (.cells cs t f)) : (Set2 w d o u u' ob).heap[d]? = some (.cells ((cs.setIfInBounds o u).setIfInBounds (o + 1) u') t f) := heap_al (box_set (o := o + 1) (box_set (o := o) hd u) u')
theorem new_set2 {w : World} {d o : Nat} {u u' : Value} {ob : Obj} : (Set2 w d o u u' ob).heap[w.heap.size]? = some ob := by
  have h := heap_alloc_new ((w.setCell ⟨d, o, none⟩ u).setCell ⟨d, o + 1, none⟩ u') ob
  have e : ((w.setCell ⟨d, o, none⟩ u).setCell ⟨d, o + 1, none⟩ u').heap.size = w.heap.size := by simp [World.setCell]
  rw [e] at h; exact h
theorem heap_set2 {w : World} {d o k : Nat} {u u' : Value} {ob p : Obj} (h : w.heap[k]? = some p) (hne : k ≠ d) : (Set2 w d o u u' ob).heap[k]? = some p := heap_al (heap_set_ne (heap_set_ne h hne) hne)
theorem below_set2 {w w0 : World} {b d o : Nat} {u u' : Value} {ob : Obj} (h : Below b w0 w) (hb : b ≤ w.heap.size) (hd : b ≤ d) : Below b w0 (Set2 w d o u u' ob) :=
  ((h.setCell (p := ⟨d, o, none⟩) hd _).setCell (p := ⟨d, o + 1, none⟩) hd _).alloc (by simpa [World.setCell] using hb) _
/-- a box set in two places behind another one -/
def Set4 (w : World) (e : Nat) (x x' : Value) (d o : Nat) (u u' : Value) : World := (((w.setCell ⟨e, 0, none⟩ x).setCell ⟨e, 1, none⟩ x').setCell ⟨d, o, none⟩ u).setCell ⟨d, o + 1, none⟩ u'
theorem qu_set4 {w : World} {B e d o cap : Nat} {q x' u u' : Value} {ch : Option Nat} {l : List Int} (h : Qu w B q cap ch (vsi l)) {cs ds : Array Value} {t r : TypeId} {f : Nat × Nat} (he : w.heap[e]? = some (.cells ds r f)) {a : Option Addr} {n c : Nat} (h0 : ds[0]? = some (.slice a n c)) {xa : Option Addr} {xn xc : Nat}
    (hd : w.heap[d]? = some (.cells cs t f)) (hne : d ≠ e) {a1 : Option Addr} {n1 c1 : Nat} (h1 : cs[0]? = some (.slice a1 n1 c1)) {a2 : Option Addr} {n2 c2 : Nat} (h2 : (cs.setIfInBounds o u)[0]? = some (.slice a2 n2 c2)) : Qu (Set4 w e (.slice xa xn xc) x' d o u u') B q cap ch (vsi l) := by
  have e1 := box_set (o := 0) he (.slice xa xn xc)
  have hlt : 0 < ds.size := (Array.getElem?_eq_some_iff.mp h0).1
  have k1 : (ds.setIfInBounds 0 (.slice xa xn xc))[0]? = some (.slice xa xn xc) := by simp [hlt]
  have d1 := heap_set_ne (o := 1) (u := x') (heap_set_ne (o := 0) (u := .slice xa xn xc) hd hne) hne
  have d2 := box_set (o := o) d1 u
  exact qu_setT (qu_setT (qu_setT (qu_setT h ((box_cell he).trans h0)) ((box_cell e1).trans k1)) ((box_cell d1).trans h1)) ((box_cell d2).trans h2)
theorem own_set4 {w : World} {B e d o n : Nat} {v x x' u u' : Value} {xs : List Value} (h : w.ownsRow B 3 1 v n xs) {cs ds : Array Value} {t r : TypeId} {f : Nat × Nat} (he : w.heap[e]? = some (.cells ds r f)) (hr : r ≠ 3) (hd : w.heap[d]? = some (.cells cs t f)) (hne : d ≠ e) (ht : t ≠ 3) : (Set4 w e x x' d o u u').ownsRow B 3 1 v n xs := by
  have d1 := heap_set_ne (o := 1) (u := x') (heap_set_ne (o := 0) (u := x) hd hne) hne
  exact own_setT (own_setT (own_setT (own_setT h he hr) (box_set (o := 0) he x) hr) d1 ht) (box_set (o := o) d1 u) ht
theorem box_set4 {w : World} {e d o : Nat} {x x' u u' : Value} {cs : Array Value} {t : TypeId} {f : Nat × Nat} (hd : w.heap[d]? = some (.cells cs t f)) (hne : d ≠ e) : (Set4 w e x x' d o u u').heap[d]? = some (.cells ((cs.setIfInBounds o u).setIfInBounds (o + 1) u') t f) :=
  box_set (o := o + 1) (box_set (o := o) (heap_set_ne (o := 1) (u := x') (heap_set_ne (o := 0) (u := x) hd hne) hne) u) u'
theorem heap_set4 {w : World} {e d o k : Nat} {x x' u u' : Value} {p : Obj} (h : w.heap[k]? = some p) (h1 : k ≠ e) (h2 : k ≠ d) : (Set4 w e x x' d o u u').heap[k]? = some p := heap_set_ne (heap_set_ne (heap_set_ne (heap_set_ne h h1) h1) h2) h2
theorem below_set4 {w w0 : World} {b e d o : Nat} {x x' u u' : Value} (h : Below b w0 w) (he : b ≤ e) (hd : b ≤ d) : Below b w0 (Set4 w e x x' d o u u') :=
  (((h.setCell (p := ⟨e, 0, none⟩) he _).setCell (p := ⟨e, 1, none⟩) he _).setCell (p := ⟨d, o, none⟩) hd _).setCell (p := ⟨d, o + 1, none⟩) hd _

theorem near_set {S : Nat → Prop} {a w : World} {d : Nat} (h : Near S a w) (hd : a.heap.size ≤ d) (u0 u1 u2 u3 : Value) : Near S a ((((w.setCell ⟨d, 0, none⟩ u0).setCell ⟨d, 1, none⟩ u1).setCell ⟨d, 2, none⟩ u2).setCell ⟨d, 3, none⟩ u3) :=
  (((h.setCell hd _).setCell hd _).setCell hd _).setCell hd _
/-- of an older world's beginning nothing has turned -/
theorem Near.since {S : Nat → Prop} {w X X' : World} {b : Nat} (hb : b = w.heap.size) (h : Below b w X) (hn : Near S X X') : Near S w X' := by
  subst hb
  exact (Near.of_below h).trans hn

/-- what stands while an act's variables are set -/
structure Bse (w X : World) (b B B' C : Nat) (q0 q1 : Value) (m0 m1 : Nat) (ch0 ch1 : Option Nat) (l0 l1 : List Int) (s : Value) (L : List Int) (s' : Value) (L' : List Int) (o0 o1 o2 o3 : Obj) : Prop where
  bl : Below b w X
  qa : Qu X B q0 m0 ch0 (vsi l0)
  qb : Qu X B' q1 m1 ch1 (vsi l1)
  r : X.ownsRow C 3 1 s L.length (vsi L)
  r' : X.ownsRow C 3 1 s' L'.length (vsi L')
  h0 : X.heap[b]? = some o0
  h1 : X.heap[b + 1]? = some o1
  h2 : X.heap[b + 1 + 1]? = some o2
  h3 : X.heap[b + 1 + 1 + 1]? = some o3
  sz : b + 4 ≤ X.heap.size
theorem Bse.al {w X : World} {b B B' C : Nat} {q0 q1 : Value} {m0 m1 : Nat} {ch0 ch1 : Option Nat} {l0 l1 : List Int} {s : Value} {L : List Int} {s' : Value} {L' : List Int} {o0 o1 o2 o3 : Obj} (H : Bse w X b B B' C q0 q1 m0 m1 ch0 ch1 l0 l1 s L s' L' o0 o1 o2 o3) (o : Obj) :
    Bse w (X.alloc o) b B B' C q0 q1 m0 m1 ch0 ch1 l0 l1 s L s' L' o0 o1 o2 o3 := by
  have hX : Below X.heap.size X (X.alloc o) := (Below.refl _ _).alloc (Nat.le_refl _) _
  have := H.sz
  exact ⟨H.bl.alloc (by omega) _, H.qa.below hX, H.qb.below hX, own_al' H.r _, own_al' H.r' _, heap_al H.h0, heap_al H.h1, heap_al H.h2, heap_al H.h3, by simp; omega⟩
theorem Bse.set2 {w X : World} {b B B' C : Nat} {q0 q1 : Value} {m0 m1 : Nat} {ch0 ch1 : Option Nat} {l0 l1 : List Int} {s : Value} {L : List Int} {s' : Value} {L' : List Int} {o0 o1 o2 o3 : Obj} (H : Bse w X b B B' C q0 q1 m0 m1 ch0 ch1 l0 l1 s L s' L' o0 o1 o2 o3) {e : Nat} {x : Value} {t : TypeId} {f : Nat × Nat} {a : Option Addr} {n c : Nat}
    (he : X.heap[e]? = some (.cells #[.slice a n c, x] t f)) (ht : t ≠ 3) (hge : b + 4 ≤ e) (a' : Option Addr) (n' c' : Nat) (u' : Value) :
    Bse w ((X.setCell ⟨e, 0, none⟩ (.slice a' n' c')).setCell ⟨e, 1, none⟩ u') b B B' C q0 q1 m0 m1 ch0 ch1 l0 l1 s L s' L' o0 o1 o2 o3 := by
  have e1 := box_set (o := 0) he (.slice a' n' c')
  exact ⟨(H.bl.setCell (p := ⟨e, 0, none⟩) (by show b ≤ e; omega) _).setCell (p := ⟨e, 1, none⟩) (by show b ≤ e; omega) _, qu_setT (qu_setT H.qa ((box_cell he).trans rfl)) ((box_cell e1).trans rfl), qu_setT (qu_setT H.qb ((box_cell he).trans rfl)) ((box_cell e1).trans rfl),
    own_setT (own_setT H.r he ht) e1 ht, own_setT (own_setT H.r' he ht) e1 ht, heap_set_ne (heap_set_ne H.h0 (by omega)) (by omega), heap_set_ne (heap_set_ne H.h1 (by omega)) (by omega), heap_set_ne (heap_set_ne H.h2 (by omega)) (by omega), heap_set_ne (heap_set_ne H.h3 (by omega)) (by omega), by have := H.sz; simpa [World.setCell] using this⟩
theorem Bse.setm {w X : World} {b B B' C : Nat} {q0 q1 : Value} {m0 m1 : Nat} {ch0 ch1 : Option Nat} {l0 l1 : List Int} {s : Value} {L : List Int} {s' : Value} {L' : List Int} {o0 o2 o3 : Obj} {cs : Array Value} {t : TypeId} {f : Nat × Nat} (H : Bse w X b B B' C q0 q1 m0 m1 ch0 ch1 l0 l1 s L s' L' o0 (.cells cs t f) o2 o3) (ht : t ≠ 3) (o : Nat) (u u' : Value) {a : Option Addr} {n c : Nat} (g0 : cs[0]? = some (.slice a n c))
    {a' : Option Addr} {n' c' : Nat} (g1 : (cs.setIfInBounds o u)[0]? = some (.slice a' n' c')) :
    Bse w ((X.setCell ⟨b + 1, o, none⟩ u).setCell ⟨b + 1, o + 1, none⟩ u') b B B' C q0 q1 m0 m1 ch0 ch1 l0 l1 s L s' L' o0 (.cells ((cs.setIfInBounds o u).setIfInBounds (o + 1) u') t f) o2 o3 := by
  have e1 := box_set (o := o) H.h1 u
  exact ⟨(H.bl.setCell (p := ⟨b + 1, o, none⟩) (Nat.le_succ b) _).setCell (p := ⟨b + 1, o + 1, none⟩) (Nat.le_succ b) _, qu_setT (qu_setT H.qa ((box_cell H.h1).trans g0)) ((box_cell e1).trans g1), qu_setT (qu_setT H.qb ((box_cell H.h1).trans g0)) ((box_cell e1).trans g1),
    own_setT (own_setT H.r H.h1 ht) e1 ht, own_setT (own_setT H.r' H.h1 ht) e1 ht, heap_set_ne (heap_set_ne H.h0 (by omega)) (by omega), box_set (o := o + 1) e1 u', heap_set_ne (heap_set_ne H.h2 (by omega)) (by omega), heap_set_ne (heap_set_ne H.h3 (by omega)) (by omega), by have := H.sz; simpa [World.setCell] using this⟩
theorem box_two {w : World} {e : Nat} {x y A M : Value} {t : TypeId} {f : Nat × Nat} (he : w.heap[e]? = some (.cells #[x, y] t f)) : ((w.setCell ⟨e, 0, none⟩ A).setCell ⟨e, 1, none⟩ M).heap[e]? = some (.cells #[A, M] t f) := by
  have := box_set (o := 1) (box_set (o := 0) he A) M
  simpa using this
theorem new2 (X : World) (o p : Obj) : ((X.alloc o).alloc p).heap[X.heap.size + 1]? = some p := by
  have := heap_alloc_new (X.alloc o) p
  simp only [World.size_alloc] at this
  exact this
theorem new3 (X : World) (o p : Addr) (u v : Value) (q : Obj) : (((X.setCell o u).setCell p v).alloc q).heap[X.heap.size]? = some q := by
  have h := heap_alloc_new ((X.setCell o u).setCell p v) q
  have e : ((X.setCell o u).setCell p v).heap.size = X.heap.size := by simp [World.setCell]
  rw [e] at h; exact h

/-- .. behind the store of the result -/
theorem Two2.res {w : World} {B B' C d : Nat} {q0 q1 v0 v1 u1 u3 : Value} {m0 m1 : Nat} {ch0 ch1 : Option Nat} {l0 l1 : List Int} (H : Two2 w B B' C q0 q1 m0 m1 ch0 ch1 v0 v1 l0 l1) {x1 x2 x3 : Value} {t : TypeId} {f : Nat × Nat} {a : Option Addr} {n c : Nat}
    {a' : Option Addr} {n' c' : Nat} {u2 : Value} (hd : w.heap[d]? = some (.cells #[.slice a n c, x1, x2, x3] t f)) (ht : t ≠ 3) :
    Two2 ((((w.setCell ⟨d, 0, none⟩ (.slice a' n' c')).setCell ⟨d, 1, none⟩ u1).setCell ⟨d, 2, none⟩ u2).setCell ⟨d, 3, none⟩ u3) B B' C q0 q1 m0 m1 ch0 ch1 v0 v1 l0 l1 := by
  have d1 := box_set (o := 0) hd (.slice a' n' c')
  have d2 := box_set (o := 1) d1 u1
  have d3 := box_set (o := 2) d2 u2
  exact (((H.setT hd ht rfl).setT d1 ht rfl).setT d2 ht rfl).setT d3 ht rfl

end Go.Proofs.Ytekacaocijfepaa
