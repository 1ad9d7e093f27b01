/-
  ONE ACT ON TWO QUEUES: POP. Conditions: the lengths.
-/
import Derived.Test.YtekacaocijfepaaQab
namespace Go.Proofs.Ytekacaocijfepaa
open Go.ChangeShapes Go.WideShapes Go.ChangeAt Go.RowKit Go.Conc
set_option linter.unusedVariables false
set_option linter.unusedSimpArgs false
set_option maxRecDepth 20000

theorem pop_both (l : List Int) (hl : l.length ≤ 4096) {m : Nat} {W : World} {C : Nat} {v : Value} (hC : C ≤ W.heap.size) (hv : W.ownsRow C 3 1 v l.length (vsi l)) :
    ∃ x ok R, Calls Try.prog 23 #[.agg #[v, .int .i64 m]] W (fun e w' => PopPost w' C m R x ok e ∧ Below W.heap.size W w') ∧
      ∀ X B q ch, Qu X B q m ch (vsi l) → Calls Try.prog 15 #[q] X fun e w' => e = .returned (.tuple #[.int .i64 x, .bool ok]) ∧ Qu w' B q m ch (vsi R) ∧ Near (Of ch) X w' := by
  cases l with
  | nil =>
    refine ⟨0, false, [], rpop_e m hv, fun X B q ch h => (pop_i_e h).mono ?_⟩
    rintro e w' ⟨rfl, rfl⟩
    exact ⟨rfl, h, Near.refl _ _⟩
  | cons x R => exact ⟨x, true, R, rpop_y x R hl m hC hv, fun X B q ch h => pop_i_y x h⟩

set_option maxHeartbeats 8000000 in
theorem act_pop0 (k N : Int) (hk : k % 5 = 1) (hk0 : 0 ≤ k) (hk1 : k ≤ 255) {w : World} {B B' C : Nat} {q0 q1 v0 v1 : Value} {m0 m1 : Nat} {ch0 ch1 : Option Nat} {l0 l1 : List Int} (hC : C ≤ w.heap.size) (H : Two2 w B B' C q0 q1 m0 m1 ch0 ch1 v0 v1 l0 l1)
    (hS : ∀ c, ch1 = some c → ¬ Of ch0 c) (hS' : ∀ c, ch0 = some c → ¬ Of ch1 c) :
    Calls Try.prog 8 #[.agg #[q0, q1], .agg #[v0, .int .i64 m0, v1, .int .i64 m1], .agg #[.int .u8 k, .int .i64 N, .bool false]] w fun e w' => ActPost w' B B' C q0 q1 m0 m1 ch0 ch1 e ∧ Near (Two ch0 ch1) w w' := by
  have hkt : k.tmod 5 = 1 := by rw [Int.tmod_eq_emod_of_nonneg hk0]; exact hk
  obtain ⟨va, vc, rfl⟩ := own_slice H.r
  obtain ⟨va', vc', rfl⟩ := own_slice H.s
  have hl0 := H.a.len
  have hl1 := H.b.len
  rw [vsi_len] at hl0 hl1
  obtain ⟨n0, hn0⟩ : ∃ n0, n0 = l0.length := ⟨_, rfl⟩
  obtain ⟨n1, hn1⟩ : ∃ n1, n1 = l1.length := ⟨_, rfl⟩
  rw [← hn0] at H hl0
  rw [← hn1] at H hl1
  rw [← hn0, ← hn1]
  replace hn0 := hid hn0
  replace hn1 := hid hn1
  go_enter Try.func8, Try.ntmps8
  go_upto_region 10 with fail
  obtain ⟨z0, z1, z2, z3, hsz, hb0⟩ := four_allocs w (.cells #[q0, q1] 26) (.cells #[.slice va n0 vc, .int .i64 m0, .slice va' n1 vc', .int .i64 m1] 30) (.cells #[.int .u8 k, .int .i64 N, .bool false] 35) (.cells #[.slice none 0 0, .int .i64 0, .slice none 0 0, .int .i64 0] 30)
  have HW : Two2 ((((w.alloc (.cells #[q0, q1] 26)).alloc (.cells #[.slice va n0 vc, .int .i64 m0, .slice va' n1 vc', .int .i64 m1] 30)).alloc (.cells #[.int .u8 k, .int .i64 N, .bool false] 35)).alloc (.cells #[.slice none 0 0, .int .i64 0, .slice none 0 0, .int .i64 0] 30)) B B' C q0 q1 m0 m1 ch0 ch1 (.slice va n0 vc) (.slice va' n1 vc') l0 l1 := ⟨H.a.below hb0, H.b.below hb0, own_below hb0 H.r, own_below hb0 H.s⟩
  generalize ((((w.alloc (.cells #[q0, q1] 26)).alloc (.cells #[.slice va n0 vc, .int .i64 m0, .slice va' n1 vc', .int .i64 m1] 30)).alloc (.cells #[.int .u8 k, .int .i64 N, .bool false] 35)).alloc (.cells #[.slice none 0 0, .int .i64 0, .slice none 0 0, .int .i64 0] 30)) = W at *
  generalize hbw : w.heap.size = b at *
  replace hbw := hid hbw
  have hs4 : b + 4 ≤ W.heap.size := by omega
  have hCW : C ≤ W.heap.size := by omega
  clear hsz H
  have pk : ∀ X : World, Below W.heap.size W X → (X.cell? ⟨b, 0, none⟩ = some q0 ∧ X.cell? ⟨b, 1, none⟩ = some q1) ∧ (X.cell? ⟨b + 1, 0, none⟩ = some (.slice va n0 vc) ∧ X.cell? ⟨b + 1, 1, none⟩ = some (.int .i64 m0) ∧ X.cell? ⟨b + 1, 2, none⟩ = some (.slice va' n1 vc') ∧ X.cell? ⟨b + 1, 3, none⟩ = some (.int .i64 m1)) ∧ X.cell? ⟨b + 1 + 1, 1, none⟩ = some (.int .i64 N) ∧
      (X.frozen? ⟨b + 1, 0, none⟩ = false ∧ X.frozen? ⟨b + 1, 1, none⟩ = false ∧ X.frozen? ⟨b + 1, 2, none⟩ = false ∧ X.frozen? ⟨b + 1, 3, none⟩ = false) ∧ (b < X.heap.size ∧ b + 1 < X.heap.size ∧ b + 1 + 1 < X.heap.size ∧ b + 1 + 1 + 1 < X.heap.size) ∧ X.heap[b + 1]? = some (.cells #[.slice va n0 vc, .int .i64 m0, .slice va' n1 vc', .int .i64 m1] 30 (0, 0)) ∧
      X.heap[b + 1 + 1 + 1]? = some (.cells #[.slice none 0 0, .int .i64 0, .slice none 0 0, .int .i64 0] 30 (0, 0)) ∧ X.heap[b]? = some (.cells #[q0, q1] 26 (0, 0)) := fun X hX => by
    have y0 := blk_keep hX z0
    have y1 := blk_keep hX z1
    have y2 := blk_keep hX z2
    have y3 := blk_keep hX z3
    have ys := hX.size
    refine ⟨⟨(box_cell y0).trans rfl, (box_cell y0).trans rfl⟩, ⟨(box_cell y1).trans rfl, (box_cell y1).trans rfl, (box_cell y1).trans rfl, (box_cell y1).trans rfl⟩, (box_cell y2).trans rfl, ⟨?_, ?_, ?_, ?_⟩, ⟨by omega, by omega, by omega, by omega⟩, y1, y3, y0⟩ <;> (unfold World.frozen?; rw [y1]; rfl)
  have pk2 : ∀ X : World, Below W.heap.size W X → X.heap[b + 1 + 1]? = some (.cells #[.int .u8 k, .int .i64 N, .bool false] 35 (0, 0)) := fun X hX => blk_keep hX z2
  obtain ⟨x, ok, R, hd, hp⟩ := pop_both l0 (by have := hn0.out; omega) (m := m0) hCW HW.r
  obtain ⟨⟨k0, k1⟩, ⟨k2, k3, k4, k5⟩, k6, -⟩ := pk W (Below.refl _ _)
  go_upto_region 12 with (first | (go_at_call 23; refine hd.mono ?_; clear hd; rintro e w2 ⟨⟨v', rfl, ho⟩, hb2⟩; obtain ⟨a2, c2, rfl⟩ := own_slice ho; obtain ⟨⟨j0, j1⟩, ⟨j2, j3, j4, j5⟩, j6, ⟨f0, f1, f2, f3⟩, ⟨t0, t1, t2, t3⟩, y1, y3, y0⟩ := pk w2 hb2))
  have hb2' : Below b w w2 := hb0.trans (hb2.mono (by omega))
  have e1 : (x == x) = true := by simp
  have e2 : (ok == ok) = true := by simp
  have hXb : Below b w (Set2 w2 (b + 1) 0 (.slice a2 R.length c2) (.int .i64 m0) (.cells #[.slice a2 R.length c2, .int .i64 m0] 29)) := below_set2 hb2' (by omega) (Nat.le_succ b)
  have qa := qu_set2 (o := 0) (u := .slice a2 R.length c2) (u' := .int .i64 m0) (ob := .cells #[.slice a2 R.length c2, .int .i64 m0] 29) (HW.a.below hb2) y1 rfl rfl
  have qb := qu_set2 (o := 0) (u := .slice a2 R.length c2) (u' := .int .i64 m0) (ob := .cells #[.slice a2 R.length c2, .int .i64 m0] 29) (HW.b.below hb2) y1 rfl rfl
  have ra := own_set2 (o := 0) (u := .slice a2 R.length c2) (u' := .int .i64 m0) (ob := .cells #[.slice a2 R.length c2, .int .i64 m0] 29) ho y1 (by decide)
  have rb := own_set2 (o := 0) (u := .slice a2 R.length c2) (u' := .int .i64 m0) (ob := .cells #[.slice a2 R.length c2, .int .i64 m0] 29) (own_below hb2 HW.s) y1 (by decide)
  have z1' := box_set2 (o := 0) (u := .slice a2 R.length c2) (u' := .int .i64 m0) (ob := .cells #[.slice a2 R.length c2, .int .i64 m0] 29) y1
  have z3' := heap_set2 (o := 0) (u := .slice a2 R.length c2) (u' := .int .i64 m0) (ob := .cells #[.slice a2 R.length c2, .int .i64 m0] 29) y3 (show b + 1 + 1 + 1 ≠ b + 1 by omega)
  have z0' := heap_set2 (o := 0) (u := .slice a2 R.length c2) (u' := .int .i64 m0) (ob := .cells #[.slice a2 R.length c2, .int .i64 m0] 29) y0 (show b ≠ b + 1 by omega)
  have hp' := hp _ _ _ _ qa
  change Code.wp _ _ _ _ (Set2 w2 (b + 1) 0 (.slice a2 R.length c2) (.int .i64 m0) (.cells #[.slice a2 R.length c2, .int .i64 m0] 29))
  clear hp hb2 HW pk z0 z1 z2 z3 y0 y1 y3 k0 k1 k2 k3 k4 k5 k6 j0 j1 j2 j3 j4 j5 j6 f0 f1 f2 f3 t0 t1 t2 t3 ho
  generalize Set2 w2 (b + 1) 0 (.slice a2 R.length c2) (.int .i64 m0) (.cells #[.slice a2 R.length c2, .int .i64 m0] 29) = X at *
  have g0 : X.cell? ⟨b, 0, none⟩ = some q0 := (box_cell z0').trans rfl
  go_wp2_with (first | (go_at_call 15; refine hp'.mono ?_; clear hp'; rintro e w3 ⟨rfl, qa3, hn3⟩; have y1 := hn3.box z1'; have y3 := hn3.box z3'; have i0 := (box_cell y1 (o := 0)).trans rfl; have i1 := (box_cell y1 (o := 1)).trans rfl; have i2 := (box_cell y1 (o := 2)).trans rfl; have i3 := (box_cell y1 (o := 3)).trans rfl; have u0 := (box_cell y3 (o := 0)).trans rfl; have u1 := (box_cell y3 (o := 1)).trans rfl; have u2 := (box_cell y3 (o := 2)).trans rfl; have u3 := (box_cell y3 (o := 3)).trans rfl; have f0 : w3.frozen? ⟨b + 1 + 1 + 1, 0, none⟩ = false := (by unfold World.frozen?; rw [y3]; rfl); have f1 : w3.frozen? ⟨b + 1 + 1 + 1, 1, none⟩ = false := (by unfold World.frozen?; rw [y3]; rfl); have f2 : w3.frozen? ⟨b + 1 + 1 + 1, 2, none⟩ = false := (by unfold World.frozen?; rw [y3]; rfl); have f3 : w3.frozen? ⟨b + 1 + 1 + 1, 3, none⟩ = false := (by unfold World.frozen?; rw [y3]; rfl)))
  have qb3 := qb.near hn3 hS
  have H3 : Two2 w3 B B' C q0 q1 m0 m1 ch0 ch1 (.slice a2 R.length c2) (.slice va' n1 vc') R l1 := ⟨qa3, qb3, hn3.own ra, hn3.own rb⟩
  have hH := H3.res (u1 := .int .i64 m0) (u2 := .slice va' n1 vc') (u3 := .int .i64 m1) (a' := a2) (n' := R.length) (c' := c2) y3 (by decide)
  refine bodyPost_ret (v := .tuple #[.agg #[.slice a2 R.length c2, .int .i64 m0, .slice va' n1 vc', .int .i64 m1], .bool true]) ?_ rfl ⟨⟨_, _, _, _, rfl, hH⟩, near_set ((Near.since hbw.out.symm hXb hn3).mono (fun c h => .inl h)) (by rw [hbw.out]; omega) _ _ _ _⟩
  simp [results, Try.results8, go_sem, u0, u1, u2, u3]

set_option maxHeartbeats 8000000 in
theorem act_pop1 (k N : Int) (hk : k % 5 = 1) (hk0 : 0 ≤ k) (hk1 : k ≤ 255) {w : World} {B B' C : Nat} {q0 q1 v0 v1 : Value} {m0 m1 : Nat} {ch0 ch1 : Option Nat} {l0 l1 : List Int} (hC : C ≤ w.heap.size) (H : Two2 w B B' C q0 q1 m0 m1 ch0 ch1 v0 v1 l0 l1)
    (hS : ∀ c, ch1 = some c → ¬ Of ch0 c) (hS' : ∀ c, ch0 = some c → ¬ Of ch1 c) :
    Calls Try.prog 8 #[.agg #[q0, q1], .agg #[v0, .int .i64 m0, v1, .int .i64 m1], .agg #[.int .u8 k, .int .i64 N, .bool true]] w fun e w' => ActPost w' B B' C q0 q1 m0 m1 ch0 ch1 e ∧ Near (Two ch0 ch1) w w' := by
  have hkt : k.tmod 5 = 1 := by rw [Int.tmod_eq_emod_of_nonneg hk0]; exact hk
  obtain ⟨va, vc, rfl⟩ := own_slice H.r
  obtain ⟨va', vc', rfl⟩ := own_slice H.s
  have hl0 := H.a.len
  have hl1 := H.b.len
  rw [vsi_len] at hl0 hl1
  obtain ⟨n0, hn0⟩ : ∃ n0, n0 = l0.length := ⟨_, rfl⟩
  obtain ⟨n1, hn1⟩ : ∃ n1, n1 = l1.length := ⟨_, rfl⟩
  rw [← hn0] at H hl0
  rw [← hn1] at H hl1
  rw [← hn0, ← hn1]
  replace hn0 := hid hn0
  replace hn1 := hid hn1
  go_enter Try.func8, Try.ntmps8
  go_upto_region 10 with fail
  obtain ⟨z0, z1, z2, z3, hsz, hb0⟩ := four_allocs w (.cells #[q0, q1] 26) (.cells #[.slice va n0 vc, .int .i64 m0, .slice va' n1 vc', .int .i64 m1] 30) (.cells #[.int .u8 k, .int .i64 N, .bool true] 35) (.cells #[.slice none 0 0, .int .i64 0, .slice none 0 0, .int .i64 0] 30)
  have HW : Two2 ((((w.alloc (.cells #[q0, q1] 26)).alloc (.cells #[.slice va n0 vc, .int .i64 m0, .slice va' n1 vc', .int .i64 m1] 30)).alloc (.cells #[.int .u8 k, .int .i64 N, .bool true] 35)).alloc (.cells #[.slice none 0 0, .int .i64 0, .slice none 0 0, .int .i64 0] 30)) B B' C q0 q1 m0 m1 ch0 ch1 (.slice va n0 vc) (.slice va' n1 vc') l0 l1 := ⟨H.a.below hb0, H.b.below hb0, own_below hb0 H.r, own_below hb0 H.s⟩
  generalize ((((w.alloc (.cells #[q0, q1] 26)).alloc (.cells #[.slice va n0 vc, .int .i64 m0, .slice va' n1 vc', .int .i64 m1] 30)).alloc (.cells #[.int .u8 k, .int .i64 N, .bool true] 35)).alloc (.cells #[.slice none 0 0, .int .i64 0, .slice none 0 0, .int .i64 0] 30)) = W at *
  generalize hbw : w.heap.size = b at *
  replace hbw := hid hbw
  have hs4 : b + 4 ≤ W.heap.size := by omega
  have hCW : C ≤ W.heap.size := by omega
  clear hsz H
  have pk : ∀ X : World, Below W.heap.size W X → (X.cell? ⟨b, 0, none⟩ = some q0 ∧ X.cell? ⟨b, 1, none⟩ = some q1) ∧ (X.cell? ⟨b + 1, 0, none⟩ = some (.slice va n0 vc) ∧ X.cell? ⟨b + 1, 1, none⟩ = some (.int .i64 m0) ∧ X.cell? ⟨b + 1, 2, none⟩ = some (.slice va' n1 vc') ∧ X.cell? ⟨b + 1, 3, none⟩ = some (.int .i64 m1)) ∧ X.cell? ⟨b + 1 + 1, 1, none⟩ = some (.int .i64 N) ∧
      (X.frozen? ⟨b + 1, 0, none⟩ = false ∧ X.frozen? ⟨b + 1, 1, none⟩ = false ∧ X.frozen? ⟨b + 1, 2, none⟩ = false ∧ X.frozen? ⟨b + 1, 3, none⟩ = false) ∧ (b < X.heap.size ∧ b + 1 < X.heap.size ∧ b + 1 + 1 < X.heap.size ∧ b + 1 + 1 + 1 < X.heap.size) ∧ X.heap[b + 1]? = some (.cells #[.slice va n0 vc, .int .i64 m0, .slice va' n1 vc', .int .i64 m1] 30 (0, 0)) ∧
      X.heap[b + 1 + 1 + 1]? = some (.cells #[.slice none 0 0, .int .i64 0, .slice none 0 0, .int .i64 0] 30 (0, 0)) ∧ X.heap[b]? = some (.cells #[q0, q1] 26 (0, 0)) := fun X hX => by
    have y0 := blk_keep hX z0
    have y1 := blk_keep hX z1
    have y2 := blk_keep hX z2
    have y3 := blk_keep hX z3
    have ys := hX.size
    refine ⟨⟨(box_cell y0).trans rfl, (box_cell y0).trans rfl⟩, ⟨(box_cell y1).trans rfl, (box_cell y1).trans rfl, (box_cell y1).trans rfl, (box_cell y1).trans rfl⟩, (box_cell y2).trans rfl, ⟨?_, ?_, ?_, ?_⟩, ⟨by omega, by omega, by omega, by omega⟩, y1, y3, y0⟩ <;> (unfold World.frozen?; rw [y1]; rfl)
  have pk2 : ∀ X : World, Below W.heap.size W X → X.heap[b + 1 + 1]? = some (.cells #[.int .u8 k, .int .i64 N, .bool true] 35 (0, 0)) := fun X hX => blk_keep hX z2
  obtain ⟨x, ok, R, hd, hp⟩ := pop_both l1 (by have := hn1.out; omega) (m := m1) hCW HW.s
  obtain ⟨⟨k0, k1⟩, ⟨k2, k3, k4, k5⟩, k6, -⟩ := pk W (Below.refl _ _)
  go_upto_region 12 with (first | (go_at_call 23; refine hd.mono ?_; clear hd; rintro e w2 ⟨⟨v', rfl, ho⟩, hb2⟩; obtain ⟨a2, c2, rfl⟩ := own_slice ho; obtain ⟨⟨j0, j1⟩, ⟨j2, j3, j4, j5⟩, j6, ⟨f0, f1, f2, f3⟩, ⟨t0, t1, t2, t3⟩, y1, y3, y0⟩ := pk w2 hb2))
  have hb2' : Below b w w2 := hb0.trans (hb2.mono (by omega))
  have e1 : (x == x) = true := by simp
  have e2 : (ok == ok) = true := by simp
  have hXb : Below b w (Set2 w2 (b + 1) 2 (.slice a2 R.length c2) (.int .i64 m1) (.cells #[.slice a2 R.length c2, .int .i64 m1] 29)) := below_set2 hb2' (by omega) (Nat.le_succ b)
  have qa := qu_set2 (o := 2) (u := .slice a2 R.length c2) (u' := .int .i64 m1) (ob := .cells #[.slice a2 R.length c2, .int .i64 m1] 29) (HW.b.below hb2) y1 rfl rfl
  have qb := qu_set2 (o := 2) (u := .slice a2 R.length c2) (u' := .int .i64 m1) (ob := .cells #[.slice a2 R.length c2, .int .i64 m1] 29) (HW.a.below hb2) y1 rfl rfl
  have ra := own_set2 (o := 2) (u := .slice a2 R.length c2) (u' := .int .i64 m1) (ob := .cells #[.slice a2 R.length c2, .int .i64 m1] 29) ho y1 (by decide)
  have rb := own_set2 (o := 2) (u := .slice a2 R.length c2) (u' := .int .i64 m1) (ob := .cells #[.slice a2 R.length c2, .int .i64 m1] 29) (own_below hb2 HW.r) y1 (by decide)
  have z1' := box_set2 (o := 2) (u := .slice a2 R.length c2) (u' := .int .i64 m1) (ob := .cells #[.slice a2 R.length c2, .int .i64 m1] 29) y1
  have z3' := heap_set2 (o := 2) (u := .slice a2 R.length c2) (u' := .int .i64 m1) (ob := .cells #[.slice a2 R.length c2, .int .i64 m1] 29) y3 (show b + 1 + 1 + 1 ≠ b + 1 by omega)
  have z0' := heap_set2 (o := 2) (u := .slice a2 R.length c2) (u' := .int .i64 m1) (ob := .cells #[.slice a2 R.length c2, .int .i64 m1] 29) y0 (show b ≠ b + 1 by omega)
  have hp' := hp _ _ _ _ qa
  change Code.wp _ _ _ _ (Set2 w2 (b + 1) 2 (.slice a2 R.length c2) (.int .i64 m1) (.cells #[.slice a2 R.length c2, .int .i64 m1] 29))
  clear hp hb2 HW pk z0 z1 z2 z3 y0 y1 y3 k0 k1 k2 k3 k4 k5 k6 j0 j1 j2 j3 j4 j5 j6 f0 f1 f2 f3 t0 t1 t2 t3 ho
  generalize Set2 w2 (b + 1) 2 (.slice a2 R.length c2) (.int .i64 m1) (.cells #[.slice a2 R.length c2, .int .i64 m1] 29) = X at *
  have g1 : X.cell? ⟨b, 1, none⟩ = some q1 := (box_cell z0').trans rfl
  go_wp2_with (first | (go_at_call 15; refine hp'.mono ?_; clear hp'; rintro e w3 ⟨rfl, qa3, hn3⟩; have y1 := hn3.box z1'; have y3 := hn3.box z3'; have i0 := (box_cell y1 (o := 0)).trans rfl; have i1 := (box_cell y1 (o := 1)).trans rfl; have i2 := (box_cell y1 (o := 2)).trans rfl; have i3 := (box_cell y1 (o := 3)).trans rfl; have u0 := (box_cell y3 (o := 0)).trans rfl; have u1 := (box_cell y3 (o := 1)).trans rfl; have u2 := (box_cell y3 (o := 2)).trans rfl; have u3 := (box_cell y3 (o := 3)).trans rfl; have f0 : w3.frozen? ⟨b + 1 + 1 + 1, 0, none⟩ = false := (by unfold World.frozen?; rw [y3]; rfl); have f1 : w3.frozen? ⟨b + 1 + 1 + 1, 1, none⟩ = false := (by unfold World.frozen?; rw [y3]; rfl); have f2 : w3.frozen? ⟨b + 1 + 1 + 1, 2, none⟩ = false := (by unfold World.frozen?; rw [y3]; rfl); have f3 : w3.frozen? ⟨b + 1 + 1 + 1, 3, none⟩ = false := (by unfold World.frozen?; rw [y3]; rfl)))
  have qb3 := qb.near hn3 hS'
  have H3 : Two2 w3 B B' C q0 q1 m0 m1 ch0 ch1 (.slice va n0 vc) (.slice a2 R.length c2) l0 R := ⟨qb3, qa3, hn3.own rb, hn3.own ra⟩
  have hH := H3.res (u1 := .int .i64 m0) (u2 := .slice a2 R.length c2) (u3 := .int .i64 m1) (a' := va) (n' := n0) (c' := vc) y3 (by decide)
  refine bodyPost_ret (v := .tuple #[.agg #[.slice va n0 vc, .int .i64 m0, .slice a2 R.length c2, .int .i64 m1], .bool true]) ?_ rfl ⟨⟨_, _, _, _, rfl, hH⟩, near_set ((Near.since hbw.out.symm hXb hn3).mono (fun c h => .inr h)) (by rw [hbw.out]; omega) _ _ _ _⟩
  simp [results, Try.results8, go_sem, u0, u1, u2, u3]

end Go.Proofs.Ytekacaocijfepaa
