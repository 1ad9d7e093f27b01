/-
  ONE ACT ON TWO QUEUES: ALL. Conditions: the lengths.
-/
import Derived.Test.YtekacaocijfepaaQab
namespace Go.Proofs.Ytekacaocijfepaa
open Go.ChangeShapes Go.WideShapes Go.ChangeAt Go.RowKit Go.Conc
set_option linter.unusedVariables false
set_option linter.unusedSimpArgs false
set_option maxRecDepth 20000

set_option maxHeartbeats 8000000 in
theorem act_all0 (k N : Int) (hk : k % 5 = 4) (hk0 : 0 ≤ k) (hk1 : k ≤ 255) {w : World} {B B' C : Nat} {q0 q1 v0 v1 : Value} {m0 m1 : Nat} {ch0 ch1 : Option Nat} {l0 l1 : List Int} (hC : C ≤ w.heap.size) (H : Two2 w B B' C q0 q1 m0 m1 ch0 ch1 v0 v1 l0 l1)
    (hS : ∀ c, ch1 = some c → ¬ Of ch0 c) (hS' : ∀ c, ch0 = some c → ¬ Of ch1 c) :
    Calls Try.prog 8 #[.agg #[q0, q1], .agg #[v0, .int .i64 m0, v1, .int .i64 m1], .agg #[.int .u8 k, .int .i64 N, .bool false]] w fun e w' => ActPost w' B B' C q0 q1 m0 m1 ch0 ch1 e ∧ Near (Two ch0 ch1) w w' := by
  have hkt : k.tmod 5 = 4 := by rw [Int.tmod_eq_emod_of_nonneg hk0]; exact hk
  obtain ⟨va, vc, rfl⟩ := own_slice H.r
  obtain ⟨va', vc', rfl⟩ := own_slice H.s
  have hl0 := H.a.len
  have hl1 := H.b.len
  rw [vsi_len] at hl0 hl1
  obtain ⟨n0, hn0⟩ : ∃ n0, n0 = l0.length := ⟨_, rfl⟩
  obtain ⟨n1, hn1⟩ : ∃ n1, n1 = l1.length := ⟨_, rfl⟩
  rw [← hn0] at H hl0
  rw [← hn1] at H hl1
  rw [← hn0, ← hn1]
  replace hn0 := hid hn0
  replace hn1 := hid hn1
  go_enter Try.func8, Try.ntmps8
  go_upto_region 30 with fail
  obtain ⟨z0, z1, z2, z3, hsz, hb0⟩ := four_allocs w (.cells #[q0, q1] 26) (.cells #[.slice va n0 vc, .int .i64 m0, .slice va' n1 vc', .int .i64 m1] 30) (.cells #[.int .u8 k, .int .i64 N, .bool false] 35) (.cells #[.slice none 0 0, .int .i64 0, .slice none 0 0, .int .i64 0] 30)
  have HW : Two2 ((((w.alloc (.cells #[q0, q1] 26)).alloc (.cells #[.slice va n0 vc, .int .i64 m0, .slice va' n1 vc', .int .i64 m1] 30)).alloc (.cells #[.int .u8 k, .int .i64 N, .bool false] 35)).alloc (.cells #[.slice none 0 0, .int .i64 0, .slice none 0 0, .int .i64 0] 30)) B B' C q0 q1 m0 m1 ch0 ch1 (.slice va n0 vc) (.slice va' n1 vc') l0 l1 := ⟨H.a.below hb0, H.b.below hb0, own_below hb0 H.r, own_below hb0 H.s⟩
  generalize ((((w.alloc (.cells #[q0, q1] 26)).alloc (.cells #[.slice va n0 vc, .int .i64 m0, .slice va' n1 vc', .int .i64 m1] 30)).alloc (.cells #[.int .u8 k, .int .i64 N, .bool false] 35)).alloc (.cells #[.slice none 0 0, .int .i64 0, .slice none 0 0, .int .i64 0] 30)) = W at *
  generalize hbw : w.heap.size = b at *
  replace hbw := hid hbw
  have hs4 : b + 4 ≤ W.heap.size := by omega
  have hCW : C ≤ W.heap.size := by omega
  clear hsz H
  have pk : ∀ X : World, Below W.heap.size W X → (X.cell? ⟨b, 0, none⟩ = some q0 ∧ X.cell? ⟨b, 1, none⟩ = some q1) ∧ (X.cell? ⟨b + 1, 0, none⟩ = some (.slice va n0 vc) ∧ X.cell? ⟨b + 1, 1, none⟩ = some (.int .i64 m0) ∧ X.cell? ⟨b + 1, 2, none⟩ = some (.slice va' n1 vc') ∧ X.cell? ⟨b + 1, 3, none⟩ = some (.int .i64 m1)) ∧ X.cell? ⟨b + 1 + 1, 1, none⟩ = some (.int .i64 N) ∧
      (X.frozen? ⟨b + 1, 0, none⟩ = false ∧ X.frozen? ⟨b + 1, 1, none⟩ = false ∧ X.frozen? ⟨b + 1, 2, none⟩ = false ∧ X.frozen? ⟨b + 1, 3, none⟩ = false) ∧ (b < X.heap.size ∧ b + 1 < X.heap.size ∧ b + 1 + 1 < X.heap.size ∧ b + 1 + 1 + 1 < X.heap.size) ∧ X.heap[b + 1]? = some (.cells #[.slice va n0 vc, .int .i64 m0, .slice va' n1 vc', .int .i64 m1] 30 (0, 0)) ∧
      X.heap[b + 1 + 1 + 1]? = some (.cells #[.slice none 0 0, .int .i64 0, .slice none 0 0, .int .i64 0] 30 (0, 0)) ∧ X.heap[b]? = some (.cells #[q0, q1] 26 (0, 0)) := fun X hX => by
    have y0 := blk_keep hX z0
    have y1 := blk_keep hX z1
    have y2 := blk_keep hX z2
    have y3 := blk_keep hX z3
    have ys := hX.size
    refine ⟨⟨(box_cell y0).trans rfl, (box_cell y0).trans rfl⟩, ⟨(box_cell y1).trans rfl, (box_cell y1).trans rfl, (box_cell y1).trans rfl, (box_cell y1).trans rfl⟩, (box_cell y2).trans rfl, ⟨?_, ?_, ?_, ?_⟩, ⟨by omega, by omega, by omega, by omega⟩, y1, y3, y0⟩ <;> (unfold World.frozen?; rw [y1]; rfl)
  have pk2 : ∀ X : World, Below W.heap.size W X → X.heap[b + 1 + 1]? = some (.cells #[.int .u8 k, .int .i64 N, .bool false] 35 (0, 0)) := fun X hX => blk_keep hX z2
  obtain ⟨⟨k0, k1⟩, ⟨k2, k3, k4, k5⟩, k6, ⟨f0, f1, f2, f3⟩, ⟨t0, t1, t2, t3⟩, y1, y3, y0⟩ := pk W (Below.refl _ _)
  go_upto_region 32 with fail
  have d1 := box_set (o := 0) y1 (.slice none 0 0)
  refine gen_world (fun X => Below b w X ∧ Qu X B q0 m0 ch0 (vsi l0) ∧ Qu X B' q1 m1 ch1 (vsi l1) ∧ X.ownsRow C 3 1 (.slice va n0 vc) l0.length (vsi l0) ∧ X.ownsRow C 3 1 (.slice va' n1 vc') l1.length (vsi l1) ∧ X.heap[b + 1]? = some (.cells #[.slice none 0 0, .int .i64 m0, .slice va' n1 vc', .int .i64 m1] 30 (0, 0)) ∧
    X.heap[b + 1 + 1 + 1]? = some (.cells #[.slice none 0 0, .int .i64 0, .slice none 0 0, .int .i64 0] 30 (0, 0)) ∧ X.heap[b]? = some (.cells #[q0, q1] 26 (0, 0))) ?_ ?_
  · exact ⟨(hb0.setCell (p := ⟨b + 1, 0, none⟩) (Nat.le_succ b) _).setCell (p := ⟨b + 1, 1, none⟩) (Nat.le_succ b) _, qu_setT (qu_setT HW.a ((box_cell y1).trans rfl)) ((box_cell d1).trans rfl), qu_setT (qu_setT HW.b ((box_cell y1).trans rfl)) ((box_cell d1).trans rfl), own_setT (own_setT HW.r y1 (by decide)) d1 (by decide), own_setT (own_setT HW.s y1 (by decide)) d1 (by decide), box_set (o := 1) d1 _, heap_set_ne (heap_set_ne y3 (by omega)) (by omega), heap_set_ne (heap_set_ne y0 (by omega)) (by omega)⟩
  · clear y1 y3 y0 d1 k0 k1 k2 k3 k4 k5 k6 f0 f1 f2 f3 t0 t1 t2 t3 HW
    rintro X ⟨hXb, qa, qb, ri, rb, z1', z3', z0'⟩
    have g0 : X.cell? ⟨b, 0, none⟩ = some q0 := (box_cell z0').trans rfl
    have p0 : X.cell? ⟨b + 1, 0, none⟩ = some (.slice none 0 0) := (box_cell z1').trans rfl
    have p1 : X.cell? ⟨b + 1, 1, none⟩ = some (.int .i64 m0) := (box_cell z1').trans rfl
    have p2 : X.cell? ⟨b + 1, 2, none⟩ = some (.slice va' n1 vc') := (box_cell z1').trans rfl
    have p3 : X.cell? ⟨b + 1, 3, none⟩ = some (.int .i64 m1) := (box_cell z1').trans rfl
    have hXd : Below X.heap.size X X.drew := (Below.refl _ _).drew
    have hp' := all_i l0 (qa.below hXd)
    have hl' : l0.length ≤ 4096 := by have := hn0.out; omega
    have nw0 : ¬ b = b + 1 := by omega
    have nv0 : ¬ b + 1 = b := by omega
    have nw1 : ¬ b = b + 1 + 1 := by omega
    have nv1 : ¬ b + 1 + 1 = b := by omega
    have nw2 : ¬ b = b + 1 + 1 + 1 := by omega
    have nv2 : ¬ b + 1 + 1 + 1 = b := by omega
    have nw3 : ¬ b + 1 = b + 1 + 1 := by omega
    have nv3 : ¬ b + 1 + 1 = b + 1 := by omega
    have nw4 : ¬ b + 1 = b + 1 + 1 + 1 := by omega
    have nv4 : ¬ b + 1 + 1 + 1 = b + 1 := by omega
    have nw5 : ¬ b + 1 + 1 = b + 1 + 1 + 1 := by omega
    have nv5 : ¬ b + 1 + 1 + 1 = b + 1 + 1 := by omega
    go_region_held3 (fun w' => w'.cell? ⟨b, 0, none⟩ = some q0 ∧ w'.cell? ⟨b + 1, 0, none⟩ = some (.slice none 0 0) ∧ w'.cell? ⟨b + 1, 1, none⟩ = some (.int .i64 m0) ∧ w'.cell? ⟨b + 1, 2, none⟩ = some (.slice va' n1 vc') ∧ w'.cell? ⟨b + 1, 3, none⟩ = some (.int .i64 m1)) (go_keep) (first | (go_at_call 21; refine hp'.mono ?_; clear hp'; rintro e w3 ⟨⟨v, rfl, hov⟩, qa3, hn3'⟩; obtain ⟨a2, c2, rfl⟩ := own_slice hov; have hn3 : Near (Of ch0) X w3 := (Near.of_below hXd).trans hn3'; have x0 := hn3.cell g0; have x2 := hn3.cell p0; have x3 := hn3.cell p1; have x4 := hn3.cell p2; have x5 := hn3.cell p3) | (go_at_call 25; refine (same_ok l0 hl' hov (hn3.own ri)).mono ?_; rintro e w4 ⟨rfl, hb4⟩; have hn4 : Near (Of ch0) X w4 := hn3.trans (Near.of_below hb4); clear x0 x2 x3 x4 x5; have x0 := hn4.cell g0; have x2 := hn4.cell p0; have x3 := hn4.cell p1; have x4 := hn4.cell p2; have x5 := hn4.cell p3; have y3 := hn4.box z3'; have u0 := (box_cell y3 (o := 0)).trans rfl; have u1 := (box_cell y3 (o := 1)).trans rfl; have u2 := (box_cell y3 (o := 2)).trans rfl; have u3 := (box_cell y3 (o := 3)).trans rfl; have f0 : w4.frozen? ⟨b + 1 + 1 + 1, 0, none⟩ = false := (by unfold World.frozen?; rw [y3]; rfl); have f1 : w4.frozen? ⟨b + 1 + 1 + 1, 1, none⟩ = false := (by unfold World.frozen?; rw [y3]; rfl); have f2 : w4.frozen? ⟨b + 1 + 1 + 1, 2, none⟩ = false := (by unfold World.frozen?; rw [y3]; rfl); have f3 : w4.frozen? ⟨b + 1 + 1 + 1, 3, none⟩ = false := (by unfold World.frozen?; rw [y3]; rfl)))
    go_wp2
    have qb4 := qb.near hn4 hS
    have qa4 := qa3.below hb4
    have rn : w4.ownsRow C 3 1 (.slice none 0 0) ([] : List Int).length (vsi []) := ⟨rfl, .inl ⟨rfl, rfl⟩⟩
    have H3 : Two2 w4 B B' C q0 q1 m0 m1 ch0 ch1 (.slice none 0 0) (.slice va' n1 vc') [] l1 := ⟨qa4, qb4, rn, hn4.own rb⟩
    have hH := H3.res (u1 := .int .i64 m0) (u2 := .slice va' n1 vc') (u3 := .int .i64 m1) (a' := none) (n' := 0) (c' := 0) y3 (by decide)
    refine bodyPost_ret (v := .tuple #[.agg #[.slice none 0 0, .int .i64 m0, .slice va' n1 vc', .int .i64 m1], .bool true]) ?_ rfl ⟨⟨_, _, _, _, rfl, hH⟩, near_set ((Near.since hbw.out.symm hXb hn4).mono (fun c h => .inl h)) (by rw [hbw.out]; omega) _ _ _ _⟩
    simp [results, Try.results8, go_sem, u0, u1, u2, u3]

set_option maxHeartbeats 8000000 in
theorem act_all1 (k N : Int) (hk : k % 5 = 4) (hk0 : 0 ≤ k) (hk1 : k ≤ 255) {w : World} {B B' C : Nat} {q0 q1 v0 v1 : Value} {m0 m1 : Nat} {ch0 ch1 : Option Nat} {l0 l1 : List Int} (hC : C ≤ w.heap.size) (H : Two2 w B B' C q0 q1 m0 m1 ch0 ch1 v0 v1 l0 l1)
    (hS : ∀ c, ch1 = some c → ¬ Of ch0 c) (hS' : ∀ c, ch0 = some c → ¬ Of ch1 c) :
    Calls Try.prog 8 #[.agg #[q0, q1], .agg #[v0, .int .i64 m0, v1, .int .i64 m1], .agg #[.int .u8 k, .int .i64 N, .bool true]] w fun e w' => ActPost w' B B' C q0 q1 m0 m1 ch0 ch1 e ∧ Near (Two ch0 ch1) w w' := by
  have hkt : k.tmod 5 = 4 := by rw [Int.tmod_eq_emod_of_nonneg hk0]; exact hk
  obtain ⟨va, vc, rfl⟩ := own_slice H.r
  obtain ⟨va', vc', rfl⟩ := own_slice H.s
  have hl0 := H.a.len
  have hl1 := H.b.len
  rw [vsi_len] at hl0 hl1
  obtain ⟨n0, hn0⟩ : ∃ n0, n0 = l0.length := ⟨_, rfl⟩
  obtain ⟨n1, hn1⟩ : ∃ n1, n1 = l1.length := ⟨_, rfl⟩
  rw [← hn0] at H hl0
  rw [← hn1] at H hl1
  rw [← hn0, ← hn1]
  replace hn0 := hid hn0
  replace hn1 := hid hn1
  go_enter Try.func8, Try.ntmps8
  go_upto_region 30 with fail
  obtain ⟨z0, z1, z2, z3, hsz, hb0⟩ := four_allocs w (.cells #[q0, q1] 26) (.cells #[.slice va n0 vc, .int .i64 m0, .slice va' n1 vc', .int .i64 m1] 30) (.cells #[.int .u8 k, .int .i64 N, .bool true] 35) (.cells #[.slice none 0 0, .int .i64 0, .slice none 0 0, .int .i64 0] 30)
  have HW : Two2 ((((w.alloc (.cells #[q0, q1] 26)).alloc (.cells #[.slice va n0 vc, .int .i64 m0, .slice va' n1 vc', .int .i64 m1] 30)).alloc (.cells #[.int .u8 k, .int .i64 N, .bool true] 35)).alloc (.cells #[.slice none 0 0, .int .i64 0, .slice none 0 0, .int .i64 0] 30)) B B' C q0 q1 m0 m1 ch0 ch1 (.slice va n0 vc) (.slice va' n1 vc') l0 l1 := ⟨H.a.below hb0, H.b.below hb0, own_below hb0 H.r, own_below hb0 H.s⟩
  generalize ((((w.alloc (.cells #[q0, q1] 26)).alloc (.cells #[.slice va n0 vc, .int .i64 m0, .slice va' n1 vc', .int .i64 m1] 30)).alloc (.cells #[.int .u8 k, .int .i64 N, .bool true] 35)).alloc (.cells #[.slice none 0 0, .int .i64 0, .slice none 0 0, .int .i64 0] 30)) = W at *
  generalize hbw : w.heap.size = b at *
  replace hbw := hid hbw
  have hs4 : b + 4 ≤ W.heap.size := by omega
  have hCW : C ≤ W.heap.size := by omega
  clear hsz H
  have pk : ∀ X : World, Below W.heap.size W X → (X.cell? ⟨b, 0, none⟩ = some q0 ∧ X.cell? ⟨b, 1, none⟩ = some q1) ∧ (X.cell? ⟨b + 1, 0, none⟩ = some (.slice va n0 vc) ∧ X.cell? ⟨b + 1, 1, none⟩ = some (.int .i64 m0) ∧ X.cell? ⟨b + 1, 2, none⟩ = some (.slice va' n1 vc') ∧ X.cell? ⟨b + 1, 3, none⟩ = some (.int .i64 m1)) ∧ X.cell? ⟨b + 1 + 1, 1, none⟩ = some (.int .i64 N) ∧
      (X.frozen? ⟨b + 1, 0, none⟩ = false ∧ X.frozen? ⟨b + 1, 1, none⟩ = false ∧ X.frozen? ⟨b + 1, 2, none⟩ = false ∧ X.frozen? ⟨b + 1, 3, none⟩ = false) ∧ (b < X.heap.size ∧ b + 1 < X.heap.size ∧ b + 1 + 1 < X.heap.size ∧ b + 1 + 1 + 1 < X.heap.size) ∧ X.heap[b + 1]? = some (.cells #[.slice va n0 vc, .int .i64 m0, .slice va' n1 vc', .int .i64 m1] 30 (0, 0)) ∧
      X.heap[b + 1 + 1 + 1]? = some (.cells #[.slice none 0 0, .int .i64 0, .slice none 0 0, .int .i64 0] 30 (0, 0)) ∧ X.heap[b]? = some (.cells #[q0, q1] 26 (0, 0)) := fun X hX => by
    have y0 := blk_keep hX z0
    have y1 := blk_keep hX z1
    have y2 := blk_keep hX z2
    have y3 := blk_keep hX z3
    have ys := hX.size
    refine ⟨⟨(box_cell y0).trans rfl, (box_cell y0).trans rfl⟩, ⟨(box_cell y1).trans rfl, (box_cell y1).trans rfl, (box_cell y1).trans rfl, (box_cell y1).trans rfl⟩, (box_cell y2).trans rfl, ⟨?_, ?_, ?_, ?_⟩, ⟨by omega, by omega, by omega, by omega⟩, y1, y3, y0⟩ <;> (unfold World.frozen?; rw [y1]; rfl)
  have pk2 : ∀ X : World, Below W.heap.size W X → X.heap[b + 1 + 1]? = some (.cells #[.int .u8 k, .int .i64 N, .bool true] 35 (0, 0)) := fun X hX => blk_keep hX z2
  obtain ⟨⟨k0, k1⟩, ⟨k2, k3, k4, k5⟩, k6, ⟨f0, f1, f2, f3⟩, ⟨t0, t1, t2, t3⟩, y1, y3, y0⟩ := pk W (Below.refl _ _)
  go_upto_region 32 with fail
  have d1 := box_set (o := 2) y1 (.slice none 0 0)
  refine gen_world (fun X => Below b w X ∧ Qu X B' q1 m1 ch1 (vsi l1) ∧ Qu X B q0 m0 ch0 (vsi l0) ∧ X.ownsRow C 3 1 (.slice va' n1 vc') l1.length (vsi l1) ∧ X.ownsRow C 3 1 (.slice va n0 vc) l0.length (vsi l0) ∧ X.heap[b + 1]? = some (.cells #[.slice va n0 vc, .int .i64 m0, .slice none 0 0, .int .i64 m1] 30 (0, 0)) ∧
    X.heap[b + 1 + 1 + 1]? = some (.cells #[.slice none 0 0, .int .i64 0, .slice none 0 0, .int .i64 0] 30 (0, 0)) ∧ X.heap[b]? = some (.cells #[q0, q1] 26 (0, 0))) ?_ ?_
  · exact ⟨(hb0.setCell (p := ⟨b + 1, 2, none⟩) (Nat.le_succ b) _).setCell (p := ⟨b + 1, 3, none⟩) (Nat.le_succ b) _, qu_setT (qu_setT HW.b ((box_cell y1).trans rfl)) ((box_cell d1).trans rfl), qu_setT (qu_setT HW.a ((box_cell y1).trans rfl)) ((box_cell d1).trans rfl), own_setT (own_setT HW.s y1 (by decide)) d1 (by decide), own_setT (own_setT HW.r y1 (by decide)) d1 (by decide), box_set (o := 3) d1 _, heap_set_ne (heap_set_ne y3 (by omega)) (by omega), heap_set_ne (heap_set_ne y0 (by omega)) (by omega)⟩
  · clear y1 y3 y0 d1 k0 k1 k2 k3 k4 k5 k6 f0 f1 f2 f3 t0 t1 t2 t3 HW
    rintro X ⟨hXb, qa, qb, ri, rb, z1', z3', z0'⟩
    have g1 : X.cell? ⟨b, 1, none⟩ = some q1 := (box_cell z0').trans rfl
    have p0 : X.cell? ⟨b + 1, 0, none⟩ = some (.slice va n0 vc) := (box_cell z1').trans rfl
    have p1 : X.cell? ⟨b + 1, 1, none⟩ = some (.int .i64 m0) := (box_cell z1').trans rfl
    have p2 : X.cell? ⟨b + 1, 2, none⟩ = some (.slice none 0 0) := (box_cell z1').trans rfl
    have p3 : X.cell? ⟨b + 1, 3, none⟩ = some (.int .i64 m1) := (box_cell z1').trans rfl
    have hXd : Below X.heap.size X X.drew := (Below.refl _ _).drew
    have hp' := all_i l1 (qa.below hXd)
    have hl' : l1.length ≤ 4096 := by have := hn1.out; omega
    have nw0 : ¬ b = b + 1 := by omega
    have nv0 : ¬ b + 1 = b := by omega
    have nw1 : ¬ b = b + 1 + 1 := by omega
    have nv1 : ¬ b + 1 + 1 = b := by omega
    have nw2 : ¬ b = b + 1 + 1 + 1 := by omega
    have nv2 : ¬ b + 1 + 1 + 1 = b := by omega
    have nw3 : ¬ b + 1 = b + 1 + 1 := by omega
    have nv3 : ¬ b + 1 + 1 = b + 1 := by omega
    have nw4 : ¬ b + 1 = b + 1 + 1 + 1 := by omega
    have nv4 : ¬ b + 1 + 1 + 1 = b + 1 := by omega
    have nw5 : ¬ b + 1 + 1 = b + 1 + 1 + 1 := by omega
    have nv5 : ¬ b + 1 + 1 + 1 = b + 1 + 1 := by omega
    go_region_held3 (fun w' => w'.cell? ⟨b, 1, none⟩ = some q1 ∧ w'.cell? ⟨b + 1, 0, none⟩ = some (.slice va n0 vc) ∧ w'.cell? ⟨b + 1, 1, none⟩ = some (.int .i64 m0) ∧ w'.cell? ⟨b + 1, 2, none⟩ = some (.slice none 0 0) ∧ w'.cell? ⟨b + 1, 3, none⟩ = some (.int .i64 m1)) (go_keep) (first | (go_at_call 21; refine hp'.mono ?_; clear hp'; rintro e w3 ⟨⟨v, rfl, hov⟩, qa3, hn3'⟩; obtain ⟨a2, c2, rfl⟩ := own_slice hov; have hn3 : Near (Of ch1) X w3 := (Near.of_below hXd).trans hn3'; have x0 := hn3.cell g1; have x2 := hn3.cell p0; have x3 := hn3.cell p1; have x4 := hn3.cell p2; have x5 := hn3.cell p3) | (go_at_call 25; refine (same_ok l1 hl' hov (hn3.own ri)).mono ?_; rintro e w4 ⟨rfl, hb4⟩; have hn4 : Near (Of ch1) X w4 := hn3.trans (Near.of_below hb4); clear x0 x2 x3 x4 x5; have x0 := hn4.cell g1; have x2 := hn4.cell p0; have x3 := hn4.cell p1; have x4 := hn4.cell p2; have x5 := hn4.cell p3; have y3 := hn4.box z3'; have u0 := (box_cell y3 (o := 0)).trans rfl; have u1 := (box_cell y3 (o := 1)).trans rfl; have u2 := (box_cell y3 (o := 2)).trans rfl; have u3 := (box_cell y3 (o := 3)).trans rfl; have f0 : w4.frozen? ⟨b + 1 + 1 + 1, 0, none⟩ = false := (by unfold World.frozen?; rw [y3]; rfl); have f1 : w4.frozen? ⟨b + 1 + 1 + 1, 1, none⟩ = false := (by unfold World.frozen?; rw [y3]; rfl); have f2 : w4.frozen? ⟨b + 1 + 1 + 1, 2, none⟩ = false := (by unfold World.frozen?; rw [y3]; rfl); have f3 : w4.frozen? ⟨b + 1 + 1 + 1, 3, none⟩ = false := (by unfold World.frozen?; rw [y3]; rfl)))
    go_wp2
    have qb4 := qb.near hn4 hS'
    have qa4 := qa3.below hb4
    have rn : w4.ownsRow C 3 1 (.slice none 0 0) ([] : List Int).length (vsi []) := ⟨rfl, .inl ⟨rfl, rfl⟩⟩
    have H3 : Two2 w4 B B' C q0 q1 m0 m1 ch0 ch1 (.slice va n0 vc) (.slice none 0 0) l0 [] := ⟨qb4, qa4, hn4.own rb, rn⟩
    have hH := H3.res (u1 := .int .i64 m0) (u2 := .slice none 0 0) (u3 := .int .i64 m1) (a' := va) (n' := n0) (c' := vc) y3 (by decide)
    refine bodyPost_ret (v := .tuple #[.agg #[.slice va n0 vc, .int .i64 m0, .slice none 0 0, .int .i64 m1], .bool true]) ?_ rfl ⟨⟨_, _, _, _, rfl, hH⟩, near_set ((Near.since hbw.out.symm hXb hn4).mono (fun c h => .inr h)) (by rw [hbw.out]; omega) _ _ _ _⟩
    simp [results, Try.results8, go_sem, u0, u1, u2, u3]

end Go.Proofs.Ytekacaocijfepaa
