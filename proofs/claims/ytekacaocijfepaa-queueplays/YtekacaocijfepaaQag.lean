/-
  ONE ACT ON TWO QUEUES: EITHER OF NONE. Conditions: the lengths.
-/
import Derived.Test.YtekacaocijfepaaQae
namespace Go.Proofs.Ytekacaocijfepaa
open Go.ChangeShapes Go.WideShapes Go.ChangeAt Go.RowKit Go.Conc
set_option linter.unusedVariables false
set_option linter.unusedSimpArgs false
set_option maxRecDepth 20000

set_option maxHeartbeats 8000000 in
theorem act_either_00 (k N : Int) (hk : k % 5 = 3) (hk0 : 0 ≤ k) (hk1 : k ≤ 255) {w : World} {B B' C : Nat} {q0 q1 v0 v1 : Value} {m0 m1 : Nat} {ch0 ch1 : Option Nat} {l0 l1 : List Int} (hC : C ≤ w.heap.size) (H : Two2 w B B' C q0 q1 m0 m1 ch0 ch1 v0 v1 l0 l1)
    (hS : ∀ c, ch1 = some c → ¬ Of ch0 c) (hS' : ∀ c, ch0 = some c → ¬ Of ch1 c) {y : Int} {R : List Int} (hl : l0 = []) (hl2 : l1 = []) :
    Calls Try.prog 8 #[.agg #[q0, q1], .agg #[v0, .int .i64 m0, v1, .int .i64 m1], .agg #[.int .u8 k, .int .i64 N, .bool false]] w fun e w' => ActPost w' B B' C q0 q1 m0 m1 ch0 ch1 e ∧ Near (Two ch0 ch1) w w' := by
  have hkt : k.tmod 5 = 3 := by rw [Int.tmod_eq_emod_of_nonneg hk0]; exact hk
  obtain ⟨va, vc, rfl⟩ := own_slice H.r
  obtain ⟨va', vc', rfl⟩ := own_slice H.s
  have hl0 := H.a.len
  have hl1 := H.b.len
  rw [vsi_len] at hl0 hl1
  obtain ⟨n0, hn0⟩ : ∃ n0, n0 = l0.length := ⟨_, rfl⟩
  obtain ⟨n1, hn1⟩ : ∃ n1, n1 = l1.length := ⟨_, rfl⟩
  rw [← hn0] at H hl0
  rw [← hn1] at H hl1
  rw [← hn0, ← hn1]
  replace hn0 := hid hn0
  replace hn1 := hid hn1
  go_enter Try.func8, Try.ntmps8
  go_upto_region 20 with fail
  obtain ⟨z0, z1, z2, z3, hsz, hb0⟩ := four_allocs w (.cells #[q0, q1] 26) (.cells #[.slice va n0 vc, .int .i64 m0, .slice va' n1 vc', .int .i64 m1] 30) (.cells #[.int .u8 k, .int .i64 N, .bool false] 35) (.cells #[.slice none 0 0, .int .i64 0, .slice none 0 0, .int .i64 0] 30)
  have HW : Two2 ((((w.alloc (.cells #[q0, q1] 26)).alloc (.cells #[.slice va n0 vc, .int .i64 m0, .slice va' n1 vc', .int .i64 m1] 30)).alloc (.cells #[.int .u8 k, .int .i64 N, .bool false] 35)).alloc (.cells #[.slice none 0 0, .int .i64 0, .slice none 0 0, .int .i64 0] 30)) B B' C q0 q1 m0 m1 ch0 ch1 (.slice va n0 vc) (.slice va' n1 vc') l0 l1 := ⟨H.a.below hb0, H.b.below hb0, own_below hb0 H.r, own_below hb0 H.s⟩
  generalize ((((w.alloc (.cells #[q0, q1] 26)).alloc (.cells #[.slice va n0 vc, .int .i64 m0, .slice va' n1 vc', .int .i64 m1] 30)).alloc (.cells #[.int .u8 k, .int .i64 N, .bool false] 35)).alloc (.cells #[.slice none 0 0, .int .i64 0, .slice none 0 0, .int .i64 0] 30)) = W at *
  generalize hbw : w.heap.size = b at *
  replace hbw := hid hbw
  have hs4 : b + 4 ≤ W.heap.size := by omega
  have hCW : C ≤ W.heap.size := by omega
  clear hsz H
  have pk : ∀ X : World, Below W.heap.size W X → (X.cell? ⟨b, 0, none⟩ = some q0 ∧ X.cell? ⟨b, 1, none⟩ = some q1) ∧ (X.cell? ⟨b + 1, 0, none⟩ = some (.slice va n0 vc) ∧ X.cell? ⟨b + 1, 1, none⟩ = some (.int .i64 m0) ∧ X.cell? ⟨b + 1, 2, none⟩ = some (.slice va' n1 vc') ∧ X.cell? ⟨b + 1, 3, none⟩ = some (.int .i64 m1)) ∧ X.cell? ⟨b + 1 + 1, 1, none⟩ = some (.int .i64 N) ∧
      (X.frozen? ⟨b + 1, 0, none⟩ = false ∧ X.frozen? ⟨b + 1, 1, none⟩ = false ∧ X.frozen? ⟨b + 1, 2, none⟩ = false ∧ X.frozen? ⟨b + 1, 3, none⟩ = false) ∧ (b < X.heap.size ∧ b + 1 < X.heap.size ∧ b + 1 + 1 < X.heap.size ∧ b + 1 + 1 + 1 < X.heap.size) ∧ X.heap[b + 1]? = some (.cells #[.slice va n0 vc, .int .i64 m0, .slice va' n1 vc', .int .i64 m1] 30 (0, 0)) ∧
      X.heap[b + 1 + 1 + 1]? = some (.cells #[.slice none 0 0, .int .i64 0, .slice none 0 0, .int .i64 0] 30 (0, 0)) ∧ X.heap[b]? = some (.cells #[q0, q1] 26 (0, 0)) := fun X hX => by
    have y0 := blk_keep hX z0
    have y1 := blk_keep hX z1
    have y2 := blk_keep hX z2
    have y3 := blk_keep hX z3
    have ys := hX.size
    refine ⟨⟨(box_cell y0).trans rfl, (box_cell y0).trans rfl⟩, ⟨(box_cell y1).trans rfl, (box_cell y1).trans rfl, (box_cell y1).trans rfl, (box_cell y1).trans rfl⟩, (box_cell y2).trans rfl, ⟨?_, ?_, ?_, ?_⟩, ⟨by omega, by omega, by omega, by omega⟩, y1, y3, y0⟩ <;> (unfold World.frozen?; rw [y1]; rfl)
  have pk2 : ∀ X : World, Below W.heap.size W X → X.heap[b + 1 + 1]? = some (.cells #[.int .u8 k, .int .i64 N, .bool false] 35 (0, 0)) := fun X hX => blk_keep hX z2
  have hr := HW.r
  rw [hl] at hr
  have hni : n0 = 0 := by rw [hn0.out, hl]; rfl
  subst hni
  have hd := rpop_e m0 hr
  obtain ⟨⟨k0, k1⟩, ⟨k2, k3, k4, k5⟩, k6, -⟩ := pk W (Below.refl _ _)
  go_upto_region 22 with (first | (go_at_call 23; refine hd.mono ?_; clear hd; rintro e w2 ⟨⟨v', rfl, ho⟩, hb2⟩; obtain ⟨a2, c2, rfl⟩ := own_slice ho; obtain ⟨⟨j0, j1⟩, ⟨j2, j3, j4, j5⟩, j6, ⟨f0, f1, f2, f3⟩, ⟨t0, t1, t2, t3⟩, y1, y3, y0⟩ := pk w2 hb2))
  have hb2' : Below b w w2 := hb0.trans (hb2.mono (by omega))
  refine gen_world (fun X => Below b w X ∧ Qu X B q0 m0 ch0 (vsi l0) ∧ Qu X B' q1 m1 ch1 (vsi l1) ∧ X.ownsRow C 3 1 (.slice a2 0 c2) 0 (vsi []) ∧ X.ownsRow C 3 1 (.slice va' n1 vc') l1.length (vsi l1) ∧ X.heap[b + 1]? = some (.cells #[.slice a2 0 c2, .int .i64 m0, .slice va' n1 vc', .int .i64 m1] 30 (0, 0)) ∧
    X.heap[b + 1 + 1 + 1]? = some (.cells #[.slice none 0 0, .int .i64 0, .slice none 0 0, .int .i64 0] 30 (0, 0)) ∧ X.heap[b]? = some (.cells #[q0, q1] 26 (0, 0)) ∧ X.heap[w2.heap.size]? = some (.cells #[.slice a2 0 c2, .int .i64 m0] 29 (0, 0))) ?_ ?_
  · exact ⟨below_set2 (o := 0) hb2' (by omega) (Nat.le_succ b), qu_set2 (o := 0) (HW.a.below hb2) y1 rfl rfl, qu_set2 (o := 0) (HW.b.below hb2) y1 rfl rfl, own_set2 (o := 0) ho y1 (by decide), own_set2 (o := 0) (own_below hb2 HW.s) y1 (by decide), box_set2 (o := 0) y1, heap_set2 (o := 0) y3 (show b + 1 + 1 + 1 ≠ b + 1 by omega), heap_set2 (o := 0) y0 (show b ≠ b + 1 by omega), new_set2⟩
  · have hp4 : b + 4 ≤ w2.heap.size := by have := hb2.size; omega
    clear y1 y3 y0 j0 j1 j2 j3 j4 j5 j6 f0 f1 f2 f3 t0 t1 t2 t3 ho k0 k1 k2 k3 k4 k5 k6 HW hr
    generalize w2.heap.size = p at *
    rintro X ⟨hXb, qa, qb, ri, rj, z1', z3', z0', z9'⟩
    have rj' := rj
    rw [hl2] at rj'
    have hXC : C ≤ X.heap.size := by have := hXb.size; rw [hbw.out] at this; omega
    have hd := rpop_e m1 rj'
    have x1 : X.cell? ⟨b + 1, 2, none⟩ = some (.slice va' n1 vc') := (box_cell z1').trans rfl
    have x2 : X.cell? ⟨b + 1, 3, none⟩ = some (.int .i64 m1) := (box_cell z1').trans rfl
    have hw0 : IntKind.i64.wrap 1 = 1 := by decide
    have hw1 : IntKind.i64.wrap 0 = 0 := by decide
    have hw2 : IntKind.i64.wrap (1 - 0) = 1 := by decide
    have hw3 : IntKind.i64.wrap (1 - 1) = 0 := by decide
    have nw0 : ¬ b = b + 1 := by omega
    have nv0 : ¬ b + 1 = b := by omega
    have nw1 : ¬ b = b + 1 + 1 := by omega
    have nv1 : ¬ b + 1 + 1 = b := by omega
    have nw2 : ¬ b = b + 1 + 1 + 1 := by omega
    have nv2 : ¬ b + 1 + 1 + 1 = b := by omega
    have nw3 : ¬ b + 1 = b + 1 + 1 := by omega
    have nv3 : ¬ b + 1 + 1 = b + 1 := by omega
    have nw4 : ¬ b + 1 = b + 1 + 1 + 1 := by omega
    have nv4 : ¬ b + 1 + 1 + 1 = b + 1 := by omega
    have nw5 : ¬ b + 1 + 1 = b + 1 + 1 + 1 := by omega
    have nv5 : ¬ b + 1 + 1 + 1 = b + 1 + 1 := by omega
    have nz0 : ¬ b = p := by omega
    have nz1 : ¬ p = b := by omega
    have nz2 : ¬ b + 1 = p := by omega
    have nz3 : ¬ p = b + 1 := by omega
    have nz4 : ¬ b + 1 + 1 = p := by omega
    have nz5 : ¬ p = b + 1 + 1 := by omega
    have nz6 : ¬ b + 1 + 1 + 1 = p := by omega
    have nz7 : ¬ p = b + 1 + 1 + 1 := by omega
    go_upto_region 28 with (first | (go_at_call 23; refine hd.mono ?_; clear hd; rintro e w3 ⟨⟨v', rfl, ho⟩, hb3⟩; obtain ⟨a3, c3, rfl⟩ := own_slice ho; have y1 := blk_keep hb3 z1'; have y3 := blk_keep hb3 z3'; have y0 := blk_keep hb3 z0'; have y9 := blk_keep hb3 z9'; have g0 := (box_cell y9 (o := 0)).trans rfl; have g1 := (box_cell y9 (o := 1)).trans rfl; have g2 : w3.frozen? ⟨p, 0, none⟩ = false := (by unfold World.frozen?; rw [y9]; rfl); have g3 : w3.frozen? ⟨p, 1, none⟩ = false := (by unfold World.frozen?; rw [y9]; rfl); have j0 := (box_cell y1 (o := 2)).trans rfl; have j1 := (box_cell y1 (o := 3)).trans rfl; have j2 : w3.frozen? ⟨b + 1, 2, none⟩ = false := (by unfold World.frozen?; rw [y1]; rfl); have j3 : w3.frozen? ⟨b + 1, 3, none⟩ = false := (by unfold World.frozen?; rw [y1]; rfl)))
    have hb3' : Below b w w3 := hXb.trans (hb3.mono (by have := hXb.size; rw [hbw.out] at this; exact this))
    refine gen_world (fun X => Below b w X ∧ Qu X B q0 m0 ch0 (vsi l0) ∧ Qu X B' q1 m1 ch1 (vsi l1) ∧ X.ownsRow C 3 1 (.slice a2 0 c2) 0 (vsi []) ∧ X.ownsRow C 3 1 (.slice a3 ([] : List Int).length c3) ([] : List Int).length (vsi ([] : List Int)) ∧ X.heap[b + 1]? = some (.cells #[.slice a2 0 c2, .int .i64 m0, .slice a3 ([] : List Int).length c3, .int .i64 m1] 30 (0, 0)) ∧
      X.heap[b + 1 + 1 + 1]? = some (.cells #[.slice none 0 0, .int .i64 0, .slice none 0 0, .int .i64 0] 30 (0, 0)) ∧ X.heap[b]? = some (.cells #[q0, q1] 26 (0, 0))) ?_ ?_
    · exact ⟨below_set4 (o := 2) hb3' (by omega) (Nat.le_succ b), qu_set4 (o := 2) (qa.below hb3) y9 rfl y1 (by omega) rfl rfl, qu_set4 (o := 2) (qb.below hb3) y9 rfl y1 (by omega) rfl rfl, own_set4 (o := 2) (own_below hb3 ri) y9 (by decide) y1 (by omega) (by decide), own_set4 (o := 2) ho y9 (by decide) y1 (by omega) (by decide), box_set4 (o := 2) y1 (by omega), heap_set4 (o := 2) y3 (by omega) (show b + 1 + 1 + 1 ≠ b + 1 by omega), heap_set4 (o := 2) y0 (by omega) (show b ≠ b + 1 by omega)⟩
    clear y1 y3 y0 y9 g0 g1 g2 g3 j0 j1 j2 j3 ho qa qb ri rj rj' z1' z3' z0' z9' x1 x2 hXb hb3 hb3' hXC
    clear hw0 hw1 hw2 hw3
    rintro X ⟨hXb, qa, qb, ra, rb, z1', z3', z0'⟩
    have g0 : X.cell? ⟨b, 0, none⟩ = some q0 := (box_cell z0').trans rfl
    have g1 : X.cell? ⟨b, 1, none⟩ = some q1 := (box_cell z0').trans rfl
    have hXd : Below X.heap.size X X.drew := (Below.refl _ _).drew
    rw [hl] at qa
    rw [hl2] at qb
    have hp' := either_0 (qa.below hXd) (qb.below hXd)
    clear hl hl2
    have e1 : ((0 : Int) == (0 : Int)) = true := by simp
    have nw0 : ¬ b = b + 1 := by omega
    have nv0 : ¬ b + 1 = b := by omega
    have nw1 : ¬ b = b + 1 + 1 := by omega
    have nv1 : ¬ b + 1 + 1 = b := by omega
    have nw2 : ¬ b = b + 1 + 1 + 1 := by omega
    have nv2 : ¬ b + 1 + 1 + 1 = b := by omega
    have nw3 : ¬ b + 1 = b + 1 + 1 := by omega
    have nv3 : ¬ b + 1 + 1 = b + 1 := by omega
    have nw4 : ¬ b + 1 = b + 1 + 1 + 1 := by omega
    have nv4 : ¬ b + 1 + 1 + 1 = b + 1 := by omega
    have nw5 : ¬ b + 1 + 1 = b + 1 + 1 + 1 := by omega
    have nv5 : ¬ b + 1 + 1 + 1 = b + 1 + 1 := by omega
    have hw0 : IntKind.i64.wrap 1 = 1 := by decide
    have hw1 : IntKind.i64.wrap 0 = 0 := by decide
    have hw2 : IntKind.i64.wrap (1 - 0) = 1 := by decide
    have hw3 : IntKind.i64.wrap (1 - 1) = 0 := by decide
    go_region_held3 (fun w' => w'.cell? ⟨b, 0, none⟩ = some q0 ∧ w'.cell? ⟨b, 1, none⟩ = some q1) (go_keep) (first | (go_at_call 16; refine hp'.mono ?_; clear hp'; rintro e w3 ⟨rfl, hw⟩; have hn3 : Near (Of ch0) X w3 := (by rw [hw]; exact Near.of_below hXd); have qa3 : Qu w3 B q0 m0 ch0 (vsi []) := (by rw [hw]; exact qa.below hXd); have qb3 : Qu w3 B' q1 m1 ch1 (vsi []) := (by rw [hw]; exact qb.below hXd); clear hw; have x0 := hn3.cell g0; have x1 := hn3.cell g1; have y1 := hn3.box z1'; have i0 := (box_cell y1 (o := 0)).trans rfl; have i1 := (box_cell y1 (o := 1)).trans rfl; have i2 := (box_cell y1 (o := 2)).trans rfl; have i3 := (box_cell y1 (o := 3)).trans rfl; have y3 := hn3.box z3'; have u0 := (box_cell y3 (o := 0)).trans rfl; have u1 := (box_cell y3 (o := 1)).trans rfl; have u2 := (box_cell y3 (o := 2)).trans rfl; have u3 := (box_cell y3 (o := 3)).trans rfl; have f0 : w3.frozen? ⟨b + 1 + 1 + 1, 0, none⟩ = false := (by unfold World.frozen?; rw [y3]; rfl); have f1 : w3.frozen? ⟨b + 1 + 1 + 1, 1, none⟩ = false := (by unfold World.frozen?; rw [y3]; rfl); have f2 : w3.frozen? ⟨b + 1 + 1 + 1, 2, none⟩ = false := (by unfold World.frozen?; rw [y3]; rfl); have f3 : w3.frozen? ⟨b + 1 + 1 + 1, 3, none⟩ = false := (by unfold World.frozen?; rw [y3]; rfl)))
    go_wp2
    have H3 : Two2 w3 B B' C q0 q1 m0 m1 ch0 ch1 (.slice a2 0 c2) (.slice a3 ([] : List Int).length c3) [] ([] : List Int) := ⟨qa3, qb3, hn3.own ra, hn3.own rb⟩
    have hH := H3.res (u1 := .int .i64 m0) (u2 := .slice a3 ([] : List Int).length c3) (u3 := .int .i64 m1) (a' := a2) (n' := 0) (c' := c2) y3 (by decide)
    refine bodyPost_ret (v := .tuple #[.agg #[.slice a2 0 c2, .int .i64 m0, .slice a3 ([] : List Int).length c3, .int .i64 m1], .bool true]) ?_ rfl ⟨⟨_, _, _, _, rfl, hH⟩, near_set ((Near.since hbw.out.symm hXb hn3).mono (fun c h => .inl h)) (by rw [hbw.out]; omega) _ _ _ _⟩
    simp [results, Try.results8, go_sem, u0, u1, u2, u3]

set_option maxHeartbeats 8000000 in
theorem act_either_01 (k N : Int) (hk : k % 5 = 3) (hk0 : 0 ≤ k) (hk1 : k ≤ 255) {w : World} {B B' C : Nat} {q0 q1 v0 v1 : Value} {m0 m1 : Nat} {ch0 ch1 : Option Nat} {l0 l1 : List Int} (hC : C ≤ w.heap.size) (H : Two2 w B B' C q0 q1 m0 m1 ch0 ch1 v0 v1 l0 l1)
    (hS : ∀ c, ch1 = some c → ¬ Of ch0 c) (hS' : ∀ c, ch0 = some c → ¬ Of ch1 c) {y : Int} {R : List Int} (hl : l1 = []) (hl2 : l0 = []) :
    Calls Try.prog 8 #[.agg #[q0, q1], .agg #[v0, .int .i64 m0, v1, .int .i64 m1], .agg #[.int .u8 k, .int .i64 N, .bool true]] w fun e w' => ActPost w' B B' C q0 q1 m0 m1 ch0 ch1 e ∧ Near (Two ch0 ch1) w w' := by
  have hkt : k.tmod 5 = 3 := by rw [Int.tmod_eq_emod_of_nonneg hk0]; exact hk
  obtain ⟨va, vc, rfl⟩ := own_slice H.r
  obtain ⟨va', vc', rfl⟩ := own_slice H.s
  have hl0 := H.a.len
  have hl1 := H.b.len
  rw [vsi_len] at hl0 hl1
  obtain ⟨n0, hn0⟩ : ∃ n0, n0 = l0.length := ⟨_, rfl⟩
  obtain ⟨n1, hn1⟩ : ∃ n1, n1 = l1.length := ⟨_, rfl⟩
  rw [← hn0] at H hl0
  rw [← hn1] at H hl1
  rw [← hn0, ← hn1]
  replace hn0 := hid hn0
  replace hn1 := hid hn1
  go_enter Try.func8, Try.ntmps8
  go_upto_region 20 with fail
  obtain ⟨z0, z1, z2, z3, hsz, hb0⟩ := four_allocs w (.cells #[q0, q1] 26) (.cells #[.slice va n0 vc, .int .i64 m0, .slice va' n1 vc', .int .i64 m1] 30) (.cells #[.int .u8 k, .int .i64 N, .bool true] 35) (.cells #[.slice none 0 0, .int .i64 0, .slice none 0 0, .int .i64 0] 30)
  have HW : Two2 ((((w.alloc (.cells #[q0, q1] 26)).alloc (.cells #[.slice va n0 vc, .int .i64 m0, .slice va' n1 vc', .int .i64 m1] 30)).alloc (.cells #[.int .u8 k, .int .i64 N, .bool true] 35)).alloc (.cells #[.slice none 0 0, .int .i64 0, .slice none 0 0, .int .i64 0] 30)) B B' C q0 q1 m0 m1 ch0 ch1 (.slice va n0 vc) (.slice va' n1 vc') l0 l1 := ⟨H.a.below hb0, H.b.below hb0, own_below hb0 H.r, own_below hb0 H.s⟩
  generalize ((((w.alloc (.cells #[q0, q1] 26)).alloc (.cells #[.slice va n0 vc, .int .i64 m0, .slice va' n1 vc', .int .i64 m1] 30)).alloc (.cells #[.int .u8 k, .int .i64 N, .bool true] 35)).alloc (.cells #[.slice none 0 0, .int .i64 0, .slice none 0 0, .int .i64 0] 30)) = W at *
  generalize hbw : w.heap.size = b at *
  replace hbw := hid hbw
  have hs4 : b + 4 ≤ W.heap.size := by omega
  have hCW : C ≤ W.heap.size := by omega
  clear hsz H
  have pk : ∀ X : World, Below W.heap.size W X → (X.cell? ⟨b, 0, none⟩ = some q0 ∧ X.cell? ⟨b, 1, none⟩ = some q1) ∧ (X.cell? ⟨b + 1, 0, none⟩ = some (.slice va n0 vc) ∧ X.cell? ⟨b + 1, 1, none⟩ = some (.int .i64 m0) ∧ X.cell? ⟨b + 1, 2, none⟩ = some (.slice va' n1 vc') ∧ X.cell? ⟨b + 1, 3, none⟩ = some (.int .i64 m1)) ∧ X.cell? ⟨b + 1 + 1, 1, none⟩ = some (.int .i64 N) ∧
      (X.frozen? ⟨b + 1, 0, none⟩ = false ∧ X.frozen? ⟨b + 1, 1, none⟩ = false ∧ X.frozen? ⟨b + 1, 2, none⟩ = false ∧ X.frozen? ⟨b + 1, 3, none⟩ = false) ∧ (b < X.heap.size ∧ b + 1 < X.heap.size ∧ b + 1 + 1 < X.heap.size ∧ b + 1 + 1 + 1 < X.heap.size) ∧ X.heap[b + 1]? = some (.cells #[.slice va n0 vc, .int .i64 m0, .slice va' n1 vc', .int .i64 m1] 30 (0, 0)) ∧
      X.heap[b + 1 + 1 + 1]? = some (.cells #[.slice none 0 0, .int .i64 0, .slice none 0 0, .int .i64 0] 30 (0, 0)) ∧ X.heap[b]? = some (.cells #[q0, q1] 26 (0, 0)) := fun X hX => by
    have y0 := blk_keep hX z0
    have y1 := blk_keep hX z1
    have y2 := blk_keep hX z2
    have y3 := blk_keep hX z3
    have ys := hX.size
    refine ⟨⟨(box_cell y0).trans rfl, (box_cell y0).trans rfl⟩, ⟨(box_cell y1).trans rfl, (box_cell y1).trans rfl, (box_cell y1).trans rfl, (box_cell y1).trans rfl⟩, (box_cell y2).trans rfl, ⟨?_, ?_, ?_, ?_⟩, ⟨by omega, by omega, by omega, by omega⟩, y1, y3, y0⟩ <;> (unfold World.frozen?; rw [y1]; rfl)
  have pk2 : ∀ X : World, Below W.heap.size W X → X.heap[b + 1 + 1]? = some (.cells #[.int .u8 k, .int .i64 N, .bool true] 35 (0, 0)) := fun X hX => blk_keep hX z2
  have hr := HW.s
  rw [hl] at hr
  have hni : n1 = 0 := by rw [hn1.out, hl]; rfl
  subst hni
  have hd := rpop_e m1 hr
  obtain ⟨⟨k0, k1⟩, ⟨k2, k3, k4, k5⟩, k6, -⟩ := pk W (Below.refl _ _)
  go_upto_region 22 with (first | (go_at_call 23; refine hd.mono ?_; clear hd; rintro e w2 ⟨⟨v', rfl, ho⟩, hb2⟩; obtain ⟨a2, c2, rfl⟩ := own_slice ho; obtain ⟨⟨j0, j1⟩, ⟨j2, j3, j4, j5⟩, j6, ⟨f0, f1, f2, f3⟩, ⟨t0, t1, t2, t3⟩, y1, y3, y0⟩ := pk w2 hb2))
  have hb2' : Below b w w2 := hb0.trans (hb2.mono (by omega))
  refine gen_world (fun X => Below b w X ∧ Qu X B' q1 m1 ch1 (vsi l1) ∧ Qu X B q0 m0 ch0 (vsi l0) ∧ X.ownsRow C 3 1 (.slice a2 0 c2) 0 (vsi []) ∧ X.ownsRow C 3 1 (.slice va n0 vc) l0.length (vsi l0) ∧ X.heap[b + 1]? = some (.cells #[.slice va n0 vc, .int .i64 m0, .slice a2 0 c2, .int .i64 m1] 30 (0, 0)) ∧
    X.heap[b + 1 + 1 + 1]? = some (.cells #[.slice none 0 0, .int .i64 0, .slice none 0 0, .int .i64 0] 30 (0, 0)) ∧ X.heap[b]? = some (.cells #[q0, q1] 26 (0, 0)) ∧ X.heap[w2.heap.size]? = some (.cells #[.slice a2 0 c2, .int .i64 m1] 29 (0, 0))) ?_ ?_
  · exact ⟨below_set2 (o := 2) hb2' (by omega) (Nat.le_succ b), qu_set2 (o := 2) (HW.b.below hb2) y1 rfl rfl, qu_set2 (o := 2) (HW.a.below hb2) y1 rfl rfl, own_set2 (o := 2) ho y1 (by decide), own_set2 (o := 2) (own_below hb2 HW.r) y1 (by decide), box_set2 (o := 2) y1, heap_set2 (o := 2) y3 (show b + 1 + 1 + 1 ≠ b + 1 by omega), heap_set2 (o := 2) y0 (show b ≠ b + 1 by omega), new_set2⟩
  · have hp4 : b + 4 ≤ w2.heap.size := by have := hb2.size; omega
    clear y1 y3 y0 j0 j1 j2 j3 j4 j5 j6 f0 f1 f2 f3 t0 t1 t2 t3 ho k0 k1 k2 k3 k4 k5 k6 HW hr
    generalize w2.heap.size = p at *
    rintro X ⟨hXb, qa, qb, ri, rj, z1', z3', z0', z9'⟩
    have rj' := rj
    rw [hl2] at rj'
    have hXC : C ≤ X.heap.size := by have := hXb.size; rw [hbw.out] at this; omega
    have hd := rpop_e m0 rj'
    have x1 : X.cell? ⟨b + 1, 0, none⟩ = some (.slice va n0 vc) := (box_cell z1').trans rfl
    have x2 : X.cell? ⟨b + 1, 1, none⟩ = some (.int .i64 m0) := (box_cell z1').trans rfl
    have hw0 : IntKind.i64.wrap 1 = 1 := by decide
    have hw1 : IntKind.i64.wrap 0 = 0 := by decide
    have hw2 : IntKind.i64.wrap (1 - 0) = 1 := by decide
    have hw3 : IntKind.i64.wrap (1 - 1) = 0 := by decide
    have nw0 : ¬ b = b + 1 := by omega
    have nv0 : ¬ b + 1 = b := by omega
    have nw1 : ¬ b = b + 1 + 1 := by omega
    have nv1 : ¬ b + 1 + 1 = b := by omega
    have nw2 : ¬ b = b + 1 + 1 + 1 := by omega
    have nv2 : ¬ b + 1 + 1 + 1 = b := by omega
    have nw3 : ¬ b + 1 = b + 1 + 1 := by omega
    have nv3 : ¬ b + 1 + 1 = b + 1 := by omega
    have nw4 : ¬ b + 1 = b + 1 + 1 + 1 := by omega
    have nv4 : ¬ b + 1 + 1 + 1 = b + 1 := by omega
    have nw5 : ¬ b + 1 + 1 = b + 1 + 1 + 1 := by omega
    have nv5 : ¬ b + 1 + 1 + 1 = b + 1 + 1 := by omega
    have nz0 : ¬ b = p := by omega
    have nz1 : ¬ p = b := by omega
    have nz2 : ¬ b + 1 = p := by omega
    have nz3 : ¬ p = b + 1 := by omega
    have nz4 : ¬ b + 1 + 1 = p := by omega
    have nz5 : ¬ p = b + 1 + 1 := by omega
    have nz6 : ¬ b + 1 + 1 + 1 = p := by omega
    have nz7 : ¬ p = b + 1 + 1 + 1 := by omega
    go_upto_region 28 with (first | (go_at_call 23; refine hd.mono ?_; clear hd; rintro e w3 ⟨⟨v', rfl, ho⟩, hb3⟩; obtain ⟨a3, c3, rfl⟩ := own_slice ho; have y1 := blk_keep hb3 z1'; have y3 := blk_keep hb3 z3'; have y0 := blk_keep hb3 z0'; have y9 := blk_keep hb3 z9'; have g0 := (box_cell y9 (o := 0)).trans rfl; have g1 := (box_cell y9 (o := 1)).trans rfl; have g2 : w3.frozen? ⟨p, 0, none⟩ = false := (by unfold World.frozen?; rw [y9]; rfl); have g3 : w3.frozen? ⟨p, 1, none⟩ = false := (by unfold World.frozen?; rw [y9]; rfl); have j0 := (box_cell y1 (o := 0)).trans rfl; have j1 := (box_cell y1 (o := 1)).trans rfl; have j2 : w3.frozen? ⟨b + 1, 0, none⟩ = false := (by unfold World.frozen?; rw [y1]; rfl); have j3 : w3.frozen? ⟨b + 1, 1, none⟩ = false := (by unfold World.frozen?; rw [y1]; rfl)))
    have hb3' : Below b w w3 := hXb.trans (hb3.mono (by have := hXb.size; rw [hbw.out] at this; exact this))
    refine gen_world (fun X => Below b w X ∧ Qu X B' q1 m1 ch1 (vsi l1) ∧ Qu X B q0 m0 ch0 (vsi l0) ∧ X.ownsRow C 3 1 (.slice a2 0 c2) 0 (vsi []) ∧ X.ownsRow C 3 1 (.slice a3 ([] : List Int).length c3) ([] : List Int).length (vsi ([] : List Int)) ∧ X.heap[b + 1]? = some (.cells #[.slice a3 ([] : List Int).length c3, .int .i64 m0, .slice a2 0 c2, .int .i64 m1] 30 (0, 0)) ∧
      X.heap[b + 1 + 1 + 1]? = some (.cells #[.slice none 0 0, .int .i64 0, .slice none 0 0, .int .i64 0] 30 (0, 0)) ∧ X.heap[b]? = some (.cells #[q0, q1] 26 (0, 0))) ?_ ?_
    · exact ⟨below_set4 (o := 0) hb3' (by omega) (Nat.le_succ b), qu_set4 (o := 0) (qa.below hb3) y9 rfl y1 (by omega) rfl rfl, qu_set4 (o := 0) (qb.below hb3) y9 rfl y1 (by omega) rfl rfl, own_set4 (o := 0) (own_below hb3 ri) y9 (by decide) y1 (by omega) (by decide), own_set4 (o := 0) ho y9 (by decide) y1 (by omega) (by decide), box_set4 (o := 0) y1 (by omega), heap_set4 (o := 0) y3 (by omega) (show b + 1 + 1 + 1 ≠ b + 1 by omega), heap_set4 (o := 0) y0 (by omega) (show b ≠ b + 1 by omega)⟩
    clear y1 y3 y0 y9 g0 g1 g2 g3 j0 j1 j2 j3 ho qa qb ri rj rj' z1' z3' z0' z9' x1 x2 hXb hb3 hb3' hXC
    clear hw0 hw1 hw2 hw3
    rintro X ⟨hXb, qa, qb, ra, rb, z1', z3', z0'⟩
    have g0 : X.cell? ⟨b, 0, none⟩ = some q0 := (box_cell z0').trans rfl
    have g1 : X.cell? ⟨b, 1, none⟩ = some q1 := (box_cell z0').trans rfl
    have hXd : Below X.heap.size X X.drew := (Below.refl _ _).drew
    rw [hl] at qa
    rw [hl2] at qb
    have hp' := either_0 (qa.below hXd) (qb.below hXd)
    clear hl hl2
    have e1 : ((0 : Int) == (0 : Int)) = true := by simp
    have nw0 : ¬ b = b + 1 := by omega
    have nv0 : ¬ b + 1 = b := by omega
    have nw1 : ¬ b = b + 1 + 1 := by omega
    have nv1 : ¬ b + 1 + 1 = b := by omega
    have nw2 : ¬ b = b + 1 + 1 + 1 := by omega
    have nv2 : ¬ b + 1 + 1 + 1 = b := by omega
    have nw3 : ¬ b + 1 = b + 1 + 1 := by omega
    have nv3 : ¬ b + 1 + 1 = b + 1 := by omega
    have nw4 : ¬ b + 1 = b + 1 + 1 + 1 := by omega
    have nv4 : ¬ b + 1 + 1 + 1 = b + 1 := by omega
    have nw5 : ¬ b + 1 + 1 = b + 1 + 1 + 1 := by omega
    have nv5 : ¬ b + 1 + 1 + 1 = b + 1 + 1 := by omega
    have hw0 : IntKind.i64.wrap 1 = 1 := by decide
    have hw1 : IntKind.i64.wrap 0 = 0 := by decide
    have hw2 : IntKind.i64.wrap (1 - 0) = 1 := by decide
    have hw3 : IntKind.i64.wrap (1 - 1) = 0 := by decide
    go_region_held3 (fun w' => w'.cell? ⟨b, 0, none⟩ = some q0 ∧ w'.cell? ⟨b, 1, none⟩ = some q1) (go_keep) (first | (go_at_call 16; refine hp'.mono ?_; clear hp'; rintro e w3 ⟨rfl, hw⟩; have hn3 : Near (Of ch1) X w3 := (by rw [hw]; exact Near.of_below hXd); have qa3 : Qu w3 B' q1 m1 ch1 (vsi []) := (by rw [hw]; exact qa.below hXd); have qb3 : Qu w3 B q0 m0 ch0 (vsi []) := (by rw [hw]; exact qb.below hXd); clear hw; have x0 := hn3.cell g0; have x1 := hn3.cell g1; have y1 := hn3.box z1'; have i0 := (box_cell y1 (o := 0)).trans rfl; have i1 := (box_cell y1 (o := 1)).trans rfl; have i2 := (box_cell y1 (o := 2)).trans rfl; have i3 := (box_cell y1 (o := 3)).trans rfl; have y3 := hn3.box z3'; have u0 := (box_cell y3 (o := 0)).trans rfl; have u1 := (box_cell y3 (o := 1)).trans rfl; have u2 := (box_cell y3 (o := 2)).trans rfl; have u3 := (box_cell y3 (o := 3)).trans rfl; have f0 : w3.frozen? ⟨b + 1 + 1 + 1, 0, none⟩ = false := (by unfold World.frozen?; rw [y3]; rfl); have f1 : w3.frozen? ⟨b + 1 + 1 + 1, 1, none⟩ = false := (by unfold World.frozen?; rw [y3]; rfl); have f2 : w3.frozen? ⟨b + 1 + 1 + 1, 2, none⟩ = false := (by unfold World.frozen?; rw [y3]; rfl); have f3 : w3.frozen? ⟨b + 1 + 1 + 1, 3, none⟩ = false := (by unfold World.frozen?; rw [y3]; rfl)))
    go_wp2
    have H3 : Two2 w3 B B' C q0 q1 m0 m1 ch0 ch1 (.slice a3 ([] : List Int).length c3) (.slice a2 0 c2) ([] : List Int) [] := ⟨qb3, qa3, hn3.own rb, hn3.own ra⟩
    have hH := H3.res (u1 := .int .i64 m0) (u2 := .slice a2 0 c2) (u3 := .int .i64 m1) (a' := a3) (n' := ([] : List Int).length) (c' := c3) y3 (by decide)
    refine bodyPost_ret (v := .tuple #[.agg #[.slice a3 ([] : List Int).length c3, .int .i64 m0, .slice a2 0 c2, .int .i64 m1], .bool true]) ?_ rfl ⟨⟨_, _, _, _, rfl, hH⟩, near_set ((Near.since hbw.out.symm hXb hn3).mono (fun c h => .inr h)) (by rw [hbw.out]; omega) _ _ _ _⟩
    simp [results, Try.results8, go_sem, u0, u1, u2, u3]

end Go.Proofs.Ytekacaocijfepaa
