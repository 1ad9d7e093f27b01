/-
  ONE ACT ON TWO QUEUES: MOVE. Conditions: the lengths.
-/
import Derived.Test.YtekacaocijfepaaQmv
namespace Go.Proofs.Ytekacaocijfepaa
open Go.ChangeShapes Go.WideShapes Go.ChangeAt Go.RowKit Go.Conc
set_option linter.unusedVariables false
set_option linter.unusedSimpArgs false
set_option maxRecDepth 20000

set_option maxHeartbeats 8000000 in
theorem act_move0 (k N : Int) (hk : k % 5 = 2) (hk0 : 0 ≤ k) (hk1 : k ≤ 255) {w : World} {B B' C : Nat} {q0 q1 v0 v1 : Value} {m0 m1 : Nat} {ch0 ch1 : Option Nat} {l0 l1 : List Int} (hC : C ≤ w.heap.size) (H : Two2 w B B' C q0 q1 m0 m1 ch0 ch1 v0 v1 l0 l1)
    (hS : ∀ c, ch1 = some c → ¬ Of ch0 c) (hS' : ∀ c, ch0 = some c → ¬ Of ch1 c) :
    Calls Try.prog 8 #[.agg #[q0, q1], .agg #[v0, .int .i64 m0, v1, .int .i64 m1], .agg #[.int .u8 k, .int .i64 N, .bool false]] w fun e w' => ActPost w' B B' C q0 q1 m0 m1 ch0 ch1 e ∧ Near (Two ch0 ch1) w w' := by
  have hkt : k.tmod 5 = 2 := by rw [Int.tmod_eq_emod_of_nonneg hk0]; exact hk
  obtain ⟨va, vc, rfl⟩ := own_slice H.r
  obtain ⟨va', vc', rfl⟩ := own_slice H.s
  have hl0 := H.a.len
  have hl1 := H.b.len
  rw [vsi_len] at hl0 hl1
  obtain ⟨n0, hn0⟩ : ∃ n0, n0 = l0.length := ⟨_, rfl⟩
  obtain ⟨n1, hn1⟩ : ∃ n1, n1 = l1.length := ⟨_, rfl⟩
  rw [← hn0] at H hl0
  rw [← hn1] at H hl1
  rw [← hn0, ← hn1]
  replace hn0 := hid hn0
  replace hn1 := hid hn1
  go_enter Try.func8, Try.ntmps8
  go_upto_region 15 with fail
  obtain ⟨z0, z1, z2, z3, hsz, hb0⟩ := four_allocs w (.cells #[q0, q1] 26) (.cells #[.slice va n0 vc, .int .i64 m0, .slice va' n1 vc', .int .i64 m1] 30) (.cells #[.int .u8 k, .int .i64 N, .bool false] 35) (.cells #[.slice none 0 0, .int .i64 0, .slice none 0 0, .int .i64 0] 30)
  have HW : Two2 ((((w.alloc (.cells #[q0, q1] 26)).alloc (.cells #[.slice va n0 vc, .int .i64 m0, .slice va' n1 vc', .int .i64 m1] 30)).alloc (.cells #[.int .u8 k, .int .i64 N, .bool false] 35)).alloc (.cells #[.slice none 0 0, .int .i64 0, .slice none 0 0, .int .i64 0] 30)) B B' C q0 q1 m0 m1 ch0 ch1 (.slice va n0 vc) (.slice va' n1 vc') l0 l1 := ⟨H.a.below hb0, H.b.below hb0, own_below hb0 H.r, own_below hb0 H.s⟩
  generalize ((((w.alloc (.cells #[q0, q1] 26)).alloc (.cells #[.slice va n0 vc, .int .i64 m0, .slice va' n1 vc', .int .i64 m1] 30)).alloc (.cells #[.int .u8 k, .int .i64 N, .bool false] 35)).alloc (.cells #[.slice none 0 0, .int .i64 0, .slice none 0 0, .int .i64 0] 30)) = W at *
  generalize hbw : w.heap.size = b at *
  replace hbw := hid hbw
  have hs4 : b + 4 ≤ W.heap.size := by omega
  have hCW : C ≤ W.heap.size := by omega
  clear hsz H
  have pk : ∀ X : World, Below W.heap.size W X → (X.cell? ⟨b, 0, none⟩ = some q0 ∧ X.cell? ⟨b, 1, none⟩ = some q1) ∧ (X.cell? ⟨b + 1, 0, none⟩ = some (.slice va n0 vc) ∧ X.cell? ⟨b + 1, 1, none⟩ = some (.int .i64 m0) ∧ X.cell? ⟨b + 1, 2, none⟩ = some (.slice va' n1 vc') ∧ X.cell? ⟨b + 1, 3, none⟩ = some (.int .i64 m1)) ∧ X.cell? ⟨b + 1 + 1, 1, none⟩ = some (.int .i64 N) ∧
      (X.frozen? ⟨b + 1, 0, none⟩ = false ∧ X.frozen? ⟨b + 1, 1, none⟩ = false ∧ X.frozen? ⟨b + 1, 2, none⟩ = false ∧ X.frozen? ⟨b + 1, 3, none⟩ = false) ∧ (b < X.heap.size ∧ b + 1 < X.heap.size ∧ b + 1 + 1 < X.heap.size ∧ b + 1 + 1 + 1 < X.heap.size) ∧ X.heap[b + 1]? = some (.cells #[.slice va n0 vc, .int .i64 m0, .slice va' n1 vc', .int .i64 m1] 30 (0, 0)) ∧
      X.heap[b + 1 + 1 + 1]? = some (.cells #[.slice none 0 0, .int .i64 0, .slice none 0 0, .int .i64 0] 30 (0, 0)) ∧ X.heap[b]? = some (.cells #[q0, q1] 26 (0, 0)) := fun X hX => by
    have y0 := blk_keep hX z0
    have y1 := blk_keep hX z1
    have y2 := blk_keep hX z2
    have y3 := blk_keep hX z3
    have ys := hX.size
    refine ⟨⟨(box_cell y0).trans rfl, (box_cell y0).trans rfl⟩, ⟨(box_cell y1).trans rfl, (box_cell y1).trans rfl, (box_cell y1).trans rfl, (box_cell y1).trans rfl⟩, (box_cell y2).trans rfl, ⟨?_, ?_, ?_, ?_⟩, ⟨by omega, by omega, by omega, by omega⟩, y1, y3, y0⟩ <;> (unfold World.frozen?; rw [y1]; rfl)
  have pk2 : ∀ X : World, Below W.heap.size W X → X.heap[b + 1 + 1]? = some (.cells #[.int .u8 k, .int .i64 N, .bool false] 35 (0, 0)) := fun X hX => blk_keep hX z2
  obtain ⟨K, hK⟩ : ∃ K, K = moveN N l0.length m1 l1.length := ⟨_, rfl⟩
  have hd : ∀ X, Below W.heap.size W X → Calls Try.prog 24 #[.agg #[.slice va n0 vc, .int .i64 m0], .agg #[.slice va' n1 vc', .int .i64 m1], .int .i64 N] X fun e w' => MovePost w' C m0 m1 (l0.drop K) (l1 ++ l0.take K) K e ∧ Below X.heap.size X w' := fun X hX => by
    rw [hK]
    exact rmove_ok N l0 l1 (by have := hn0.out; omega) m0 m1 (by have := hn1.out; omega) (by omega) (Nat.le_trans hCW hX.size) (own_below hX HW.r) (own_below hX HW.s)
  replace hK := hid hK
  generalize hLA : l0.drop K = LA at *
  generalize hLB : l1 ++ l0.take K = LB at *
  replace hLA := hid hLA
  replace hLB := hid hLB
  obtain ⟨⟨k0, k1⟩, ⟨k2, k3, k4, k5⟩, k6, -⟩ := pk W (Below.refl _ _)
  have nw0 : ¬ b = b + 1 := by omega
  have nv0 : ¬ b + 1 = b := by omega
  have nw1 : ¬ b = b + 1 + 1 := by omega
  have nv1 : ¬ b + 1 + 1 = b := by omega
  have nw2 : ¬ b = b + 1 + 1 + 1 := by omega
  have nv2 : ¬ b + 1 + 1 + 1 = b := by omega
  have nw3 : ¬ b + 1 = b + 1 + 1 := by omega
  have nv3 : ¬ b + 1 + 1 = b + 1 := by omega
  have nw4 : ¬ b + 1 = b + 1 + 1 + 1 := by omega
  have nv4 : ¬ b + 1 + 1 + 1 = b + 1 := by omega
  have nw5 : ¬ b + 1 + 1 = b + 1 + 1 + 1 := by omega
  have nv5 : ¬ b + 1 + 1 + 1 = b + 1 + 1 := by omega
  have nz0 : ¬ b = W.heap.size := by omega
  have nz1 : ¬ W.heap.size = b := by omega
  have nz2 : ¬ b + 1 = W.heap.size := by omega
  have nz3 : ¬ W.heap.size = b + 1 := by omega
  have nz4 : ¬ b + 1 + 1 = W.heap.size := by omega
  have nz5 : ¬ W.heap.size = b + 1 + 1 := by omega
  have nz6 : ¬ b + 1 + 1 + 1 = W.heap.size := by omega
  have nz7 : ¬ W.heap.size = b + 1 + 1 + 1 := by omega
  have hw0 : IntKind.i64.wrap 1 = 1 := by decide
  have hw1 : IntKind.i64.wrap 0 = 0 := by decide
  have hw2 : IntKind.i64.wrap (1 - 0) = 1 := by decide
  have hw3 : IntKind.i64.wrap (1 - 1) = 0 := by decide
  have Z1 : Below W.heap.size W W.drew := (Below.refl _ _).drew
  have Z2 : Below W.heap.size W (W.alloc (.cells #[.slice none 0 0, .int .i64 0] 29)).drew := ((Below.refl _ _).alloc (Nat.le_refl _) _).drew
  have Z4 : Below W.heap.size W ((W.alloc (.cells #[.slice none 0 0, .int .i64 0] 29)).alloc (.cells #[.slice none 0 0, .int .i64 0] 29)).drew := (((Below.refl _ _).alloc (Nat.le_refl _) _).alloc (by simp) _).drew
  have Z3 : (W.alloc (.cells #[.slice none 0 0, .int .i64 0] 29)).drew.heap[W.heap.size]? = some (.cells #[.slice none 0 0, .int .i64 0] 29 (0, 0)) := heap_alloc_new _ _
  have Z5 : ((W.alloc (.cells #[.slice none 0 0, .int .i64 0] 29)).alloc (.cells #[.slice none 0 0, .int .i64 0] 29)).drew.heap[W.heap.size]? = some (.cells #[.slice none 0 0, .int .i64 0] 29 (0, 0)) := heap_al (heap_alloc_new _ _)
  have Z6 : ((W.alloc (.cells #[.slice none 0 0, .int .i64 0] 29)).alloc (.cells #[.slice none 0 0, .int .i64 0] 29)).drew.heap[W.heap.size + 1]? = some (.cells #[.slice none 0 0, .int .i64 0] 29 (0, 0)) := by
    have := heap_alloc_new (W.alloc (.cells #[.slice none 0 0, .int .i64 0] 29)) (.cells #[.slice none 0 0, .int .i64 0] 29)
    simp only [World.size_alloc] at this
    exact this
  go_cut [16, 17, 18] from 85 to 98 (fun p q r X => MovRel w b B B' C q0 q1 m0 m1 ch0 ch1 l0 l1 LA LB (.cells #[q0, q1] 26 (0, 0)) (.cells #[.slice va n0 vc, .int .i64 m0, .slice va' n1 vc', .int .i64 m1] 30 (0, 0)) (.cells #[.int .u8 k, .int .i64 N, .bool false] 35 (0, 0)) (.cells #[.slice none 0 0, .int .i64 0, .slice none 0 0, .int .i64 0] 30 (0, 0)) K 29 p q r X)
  case first =>
    go_region_held3 (fun w' => w'.cell? ⟨b + 1, 0, none⟩ = some (.slice va n0 vc) ∧ w'.cell? ⟨b + 1, 1, none⟩ = some (.int .i64 m0) ∧ w'.cell? ⟨b + 1, 2, none⟩ = some (.slice va' n1 vc') ∧ w'.cell? ⟨b + 1, 3, none⟩ = some (.int .i64 m1) ∧ w'.cell? ⟨b + 1 + 1, 1, none⟩ = some (.int .i64 N)) (go_keep) (first | (go_at_call 24; refine (hd _ (by first | exact Z1 | exact Z2 | exact Z4)).mono ?_; clear hd; rintro e w2 ⟨⟨v', u', rfl, ho, hou⟩, hb2'⟩; obtain ⟨a2, c2, rfl⟩ := own_slice ho; obtain ⟨a3, c3, rfl⟩ := own_slice hou; have hb2 : Below W.heap.size W w2 := (by first | exact Z1.trans (hb2'.mono Z1.size) | exact Z2.trans (hb2'.mono Z2.size) | exact Z4.trans (hb2'.mono Z4.size)); obtain ⟨⟨j0, j1⟩, ⟨j2, j3, j4, j5⟩, j6, ⟨f0, f1, f2, f3⟩, ⟨t0, t1, t2, t3⟩, y1, y3, y0⟩ := pk w2 hb2; first | (have y9 := blk_keep hb2' Z3; have m9 : W.heap.size < w2.heap.size := (Array.getElem?_eq_some_iff.mp y9).1; have h9 := (box_cell y9 (o := 0)).trans rfl; have h9' := (box_cell y9 (o := 1)).trans rfl; have g9 : w2.frozen? ⟨W.heap.size, 0, none⟩ = false := (by unfold World.frozen?; rw [y9]; rfl); have g9' : w2.frozen? ⟨W.heap.size, 1, none⟩ = false := (by unfold World.frozen?; rw [y9]; rfl)) | (have y9 := blk_keep hb2' Z5; have y8 := blk_keep hb2' Z6; have h9 := (box_cell y9 (o := 0)).trans rfl; have h9' := (box_cell y9 (o := 1)).trans rfl; have g9 : w2.frozen? ⟨W.heap.size, 0, none⟩ = false := (by unfold World.frozen?; rw [y9]; rfl); have g9' : w2.frozen? ⟨W.heap.size, 1, none⟩ = false := (by unfold World.frozen?; rw [y9]; rfl); have h8 := (box_cell y8 (o := 0)).trans rfl; have h8' := (box_cell y8 (o := 1)).trans rfl; have g8 : w2.frozen? ⟨W.heap.size + 1, 0, none⟩ = false := (by unfold World.frozen?; rw [y8]; rfl); have g8' : w2.frozen? ⟨W.heap.size + 1, 1, none⟩ = false := (by unfold World.frozen?; rw [y8]; rfl)) | skip))
    all_goals go_wp2
    all_goals
      have hbw2 : Below b w w2 := hb0.trans (hb2.mono (by omega))
      have H : Bse w w2 b B B' C q0 q1 m0 m1 ch0 ch1 l0 l1 (.slice a2 LA.length c2) LA (.slice a3 LB.length c3) LB (.cells #[q0, q1] 26 (0, 0)) (.cells #[.slice va n0 vc, .int .i64 m0, .slice va' n1 vc', .int .i64 m1] 30 (0, 0)) (.cells #[.int .u8 k, .int .i64 N, .bool false] 35 (0, 0)) (.cells #[.slice none 0 0, .int .i64 0, .slice none 0 0, .int .i64 0] 30 (0, 0)) :=
        ⟨hbw2, HW.a.below hb2, HW.b.below hb2, ho, hou, y0, y1, pk2 w2 hb2, y3, by have := hb2.size; omega⟩
      have hsw : b + 4 ≤ w2.heap.size := H.sz
      go_meet
      first
        | exact mv1 H
        | exact mv2 H
        | exact mv3 H y9 (by decide) hs4
        | exact mv5 H y9 (by decide) hs4
        | exact mv4 H y9 y8 (by decide) hs4 (by omega) (by omega)
        | exact mv4 H y8 y9 (by decide) (by omega) hs4 (by omega)
  case rest =>
    obtain ⟨g, g', a2, c2, a3, c3, rfl, rfl, rfl, H, z8, z9, hg, hg', hgg⟩ := hcut

    rename World => X
    have hpm : ∀ X', Qu X' B q0 m0 ch0 (vsi l0) → Qu X' B' q1 m1 ch1 (vsi l1) → Calls Try.prog 20 #[q0, q1, .int .i64 N] X' fun e w' => e = .returned (.int .i64 (K : Int)) ∧ Qu w' B q0 m0 ch0 (vsi LA) ∧ Qu w' B' q1 m1 ch1 (vsi LB) ∧ Near (Two ch0 ch1) X' w' := fun X' ha hb => by
      rw [← hLA.out, ← hLB.out]
      by_cases hch : ch0 = ch1
      · have hc0 : ch0 = none := by
          cases h0 : ch0 with
          | none => rfl
          | some c => exact absurd (show Of ch1 c from hch ▸ h0) (hS' c h0)
        have hnil : ∀ {B q m ch} {l : List Int}, ch = none → Qu X' B q m ch (vsi l) → l = [] ∧ m = 0 := fun {B q m ch l} e h => by
          rcases h with ⟨-, -, h1, h2⟩ | ⟨_, _, _, _, _, -, h1, -⟩
          · exact ⟨List.map_eq_nil_iff.mp h2, h1⟩
          · rw [e] at h1; cases h1
        obtain ⟨hA, hma⟩ := hnil hc0 ha
        obtain ⟨hB, hmb⟩ := hnil (hch ▸ hc0) hb
        have hK0 : K = 0 := by rw [hK.out, hA]; unfold moveN; simp
        have ha' := ha
        have hb' := hb
        rw [← hch] at hb'
        refine (move_i_same N ha' hb').mono ?_
        rintro e w' ⟨hw, rfl⟩
        subst hw
        refine ⟨by rw [hK0]; rfl, ?_, ?_, Near.refl _ _⟩
        · rw [hK0]; simpa using ha
        · rw [hA, List.take_nil, List.append_nil]; exact hb
      · have := move_i_two N l0 l1 ha hb hch
        rw [hK.out]
        exact this
    clear HW pk pk2 z0 z1 z2 z3 k0 k1 k2 k3 k4 k5 k6 hd
    clear Z1 Z2 Z3 Z4 Z5 Z6
    have a0 : X.cell? ⟨g, 0, none⟩ = some (.slice a2 LA.length c2) := (box_cell z8).trans rfl
    have a1 : X.cell? ⟨g, 1, none⟩ = some (.int .i64 m0) := (box_cell z8).trans rfl
    have b0 : X.cell? ⟨g', 0, none⟩ = some (.slice a3 LB.length c3) := (box_cell z9).trans rfl
    have b1 : X.cell? ⟨g', 1, none⟩ = some (.int .i64 m1) := (box_cell z9).trans rfl
    have y1 := H.h1
    have i0 := (box_cell y1 (o := 0)).trans rfl
    have i1 := (box_cell y1 (o := 1)).trans rfl
    have i2 := (box_cell y1 (o := 2)).trans rfl
    have i3 := (box_cell y1 (o := 3)).trans rfl
    have f0 : X.frozen? ⟨b + 1, 0, none⟩ = false := by unfold World.frozen?; rw [y1]; rfl
    have f1 : X.frozen? ⟨b + 1, 1, none⟩ = false := by unfold World.frozen?; rw [y1]; rfl
    have f2 : X.frozen? ⟨b + 1, 2, none⟩ = false := by unfold World.frozen?; rw [y1]; rfl
    have f3 : X.frozen? ⟨b + 1, 3, none⟩ = false := by unfold World.frozen?; rw [y1]; rfl
    have o1 : ¬ g = b + 1 := by omega
    have o2 : ¬ b + 1 = g := by omega
    have o3 : ¬ g' = b + 1 := by omega
    have o4 : ¬ b + 1 = g' := by omega
    go_upto_region 16 with fail
    go_region_held3 (fun w' => w'.cell? ⟨g, 0, none⟩ = some (.slice a2 LA.length c2) ∧ w'.cell? ⟨g, 1, none⟩ = some (.int .i64 m0) ∧ w'.cell? ⟨g', 0, none⟩ = some (.slice a3 LB.length c3) ∧ w'.cell? ⟨g', 1, none⟩ = some (.int .i64 m1)) (go_keep) (fail)
    go_upto_region 17 with fail
    have H2 := (H.setm (by decide) 0 (.slice a2 LA.length c2) (.int .i64 m0) rfl rfl).setm (by decide) 2 (.slice a3 LB.length c3) (.int .i64 m1) rfl rfl
    have eK : ((K : Int) == (K : Int)) = true := by simp
    refine gen_world (fun X => Below b w X ∧ Qu X B q0 m0 ch0 (vsi l0) ∧ Qu X B' q1 m1 ch1 (vsi l1) ∧ X.ownsRow C 3 1 (.slice a2 LA.length c2) LA.length (vsi LA) ∧ X.ownsRow C 3 1 (.slice a3 LB.length c3) LB.length (vsi LB) ∧ X.heap[b + 1]? = some (.cells #[.slice a2 LA.length c2, .int .i64 m0, .slice a3 LB.length c3, .int .i64 m1] 30 (0, 0)) ∧
      X.heap[b + 1 + 1 + 1]? = some (.cells #[.slice none 0 0, .int .i64 0, .slice none 0 0, .int .i64 0] 30 (0, 0)) ∧ X.heap[b]? = some (.cells #[q0, q1] 26 (0, 0)) ∧ X.heap[b + 1 + 1]? = some (.cells #[.int .u8 k, .int .i64 N, .bool false] 35 (0, 0))) ?_ ?_
    · exact ⟨H2.bl.drew, H2.qa.below (Below.refl _ _).drew, H2.qb.below (Below.refl _ _).drew, own_below (Below.refl _ _).drew H2.r, own_below (Below.refl _ _).drew H2.r', H2.h1, H2.h3, H2.h0, H2.h2⟩
    clear H H2 z8 z9 a0 a1 b0 b1 y1 i0 i1 i2 i3 f0 f1 f2 f3 o1 o2 o3 o4 hg hg' hgg
    rintro X ⟨hXb, qa, qb, ra, rb, z1', z3', z0', z2'⟩
    have g0 : X.cell? ⟨b, 0, none⟩ = some q0 := (box_cell z0').trans rfl
    have g1 : X.cell? ⟨b, 1, none⟩ = some q1 := (box_cell z0').trans rfl
    have g2 : X.cell? ⟨b + 1 + 1, 1, none⟩ = some (.int .i64 N) := (box_cell z2').trans rfl
    have p0 : X.cell? ⟨b + 1, 0, none⟩ = some (.slice a2 LA.length c2) := (box_cell z1').trans rfl
    have p1 : X.cell? ⟨b + 1, 1, none⟩ = some (.int .i64 m0) := (box_cell z1').trans rfl
    have p2 : X.cell? ⟨b + 1, 2, none⟩ = some (.slice a3 LB.length c3) := (box_cell z1').trans rfl
    have p3 : X.cell? ⟨b + 1, 3, none⟩ = some (.int .i64 m1) := (box_cell z1').trans rfl
    have hXd : Below X.heap.size X X.drew := (Below.refl _ _).drew
    have hp' := hpm _ (qa.below hXd) (qb.below hXd)
    go_region_held3 (fun w' => w'.cell? ⟨b, 0, none⟩ = some q0 ∧ w'.cell? ⟨b, 1, none⟩ = some q1 ∧ w'.cell? ⟨b + 1 + 1, 1, none⟩ = some (.int .i64 N) ∧ w'.cell? ⟨b + 1, 0, none⟩ = some (.slice a2 LA.length c2) ∧ w'.cell? ⟨b + 1, 1, none⟩ = some (.int .i64 m0) ∧ w'.cell? ⟨b + 1, 2, none⟩ = some (.slice a3 LB.length c3) ∧ w'.cell? ⟨b + 1, 3, none⟩ = some (.int .i64 m1)) (go_keep) (first | (go_at_call 20; refine hp'.mono ?_; clear hp'; rintro e w3 ⟨rfl, qa3, qb3, hn3'⟩; have hn3 : Near (Two ch0 ch1) X w3 := (Near.of_below hXd).trans hn3'; have x0 := hn3.cell g0; have x1 := hn3.cell g1; have x6 := hn3.cell g2; have x2 := hn3.cell p0; have x3 := hn3.cell p1; have x4 := hn3.cell p2; have x5 := hn3.cell p3; have y3 := hn3.box z3'; have u0 := (box_cell y3 (o := 0)).trans rfl; have u1 := (box_cell y3 (o := 1)).trans rfl; have u2 := (box_cell y3 (o := 2)).trans rfl; have u3 := (box_cell y3 (o := 3)).trans rfl; have f0 : w3.frozen? ⟨b + 1 + 1 + 1, 0, none⟩ = false := (by unfold World.frozen?; rw [y3]; rfl); have f1 : w3.frozen? ⟨b + 1 + 1 + 1, 1, none⟩ = false := (by unfold World.frozen?; rw [y3]; rfl); have f2 : w3.frozen? ⟨b + 1 + 1 + 1, 2, none⟩ = false := (by unfold World.frozen?; rw [y3]; rfl); have f3 : w3.frozen? ⟨b + 1 + 1 + 1, 3, none⟩ = false := (by unfold World.frozen?; rw [y3]; rfl)))
    go_wp2
    have H3 : Two2 w3 B B' C q0 q1 m0 m1 ch0 ch1 (.slice a2 LA.length c2) (.slice a3 LB.length c3) LA LB := ⟨qa3, qb3, hn3.own ra, hn3.own rb⟩
    have hH := H3.res (u1 := .int .i64 m0) (u2 := .slice a3 LB.length c3) (u3 := .int .i64 m1) (a' := a2) (n' := LA.length) (c' := c2) y3 (by decide)
    refine bodyPost_ret (v := .tuple #[.agg #[.slice a2 LA.length c2, .int .i64 m0, .slice a3 LB.length c3, .int .i64 m1], .bool true]) ?_ rfl ⟨⟨_, _, _, _, rfl, hH⟩, near_set ((Near.since hbw.out.symm hXb hn3).mono (fun c h => h)) (by rw [hbw.out]; omega) _ _ _ _⟩
    simp [results, Try.results8, go_sem, u0, u1, u2, u3]

set_option maxHeartbeats 8000000 in
theorem act_move1 (k N : Int) (hk : k % 5 = 2) (hk0 : 0 ≤ k) (hk1 : k ≤ 255) {w : World} {B B' C : Nat} {q0 q1 v0 v1 : Value} {m0 m1 : Nat} {ch0 ch1 : Option Nat} {l0 l1 : List Int} (hC : C ≤ w.heap.size) (H : Two2 w B B' C q0 q1 m0 m1 ch0 ch1 v0 v1 l0 l1)
    (hS : ∀ c, ch1 = some c → ¬ Of ch0 c) (hS' : ∀ c, ch0 = some c → ¬ Of ch1 c) :
    Calls Try.prog 8 #[.agg #[q0, q1], .agg #[v0, .int .i64 m0, v1, .int .i64 m1], .agg #[.int .u8 k, .int .i64 N, .bool true]] w fun e w' => ActPost w' B B' C q0 q1 m0 m1 ch0 ch1 e ∧ Near (Two ch0 ch1) w w' := by
  have hkt : k.tmod 5 = 2 := by rw [Int.tmod_eq_emod_of_nonneg hk0]; exact hk
  obtain ⟨va, vc, rfl⟩ := own_slice H.r
  obtain ⟨va', vc', rfl⟩ := own_slice H.s
  have hl0 := H.a.len
  have hl1 := H.b.len
  rw [vsi_len] at hl0 hl1
  obtain ⟨n0, hn0⟩ : ∃ n0, n0 = l0.length := ⟨_, rfl⟩
  obtain ⟨n1, hn1⟩ : ∃ n1, n1 = l1.length := ⟨_, rfl⟩
  rw [← hn0] at H hl0
  rw [← hn1] at H hl1
  rw [← hn0, ← hn1]
  replace hn0 := hid hn0
  replace hn1 := hid hn1
  go_enter Try.func8, Try.ntmps8
  go_upto_region 15 with fail
  obtain ⟨z0, z1, z2, z3, hsz, hb0⟩ := four_allocs w (.cells #[q0, q1] 26) (.cells #[.slice va n0 vc, .int .i64 m0, .slice va' n1 vc', .int .i64 m1] 30) (.cells #[.int .u8 k, .int .i64 N, .bool true] 35) (.cells #[.slice none 0 0, .int .i64 0, .slice none 0 0, .int .i64 0] 30)
  have HW : Two2 ((((w.alloc (.cells #[q0, q1] 26)).alloc (.cells #[.slice va n0 vc, .int .i64 m0, .slice va' n1 vc', .int .i64 m1] 30)).alloc (.cells #[.int .u8 k, .int .i64 N, .bool true] 35)).alloc (.cells #[.slice none 0 0, .int .i64 0, .slice none 0 0, .int .i64 0] 30)) B B' C q0 q1 m0 m1 ch0 ch1 (.slice va n0 vc) (.slice va' n1 vc') l0 l1 := ⟨H.a.below hb0, H.b.below hb0, own_below hb0 H.r, own_below hb0 H.s⟩
  generalize ((((w.alloc (.cells #[q0, q1] 26)).alloc (.cells #[.slice va n0 vc, .int .i64 m0, .slice va' n1 vc', .int .i64 m1] 30)).alloc (.cells #[.int .u8 k, .int .i64 N, .bool true] 35)).alloc (.cells #[.slice none 0 0, .int .i64 0, .slice none 0 0, .int .i64 0] 30)) = W at *
  generalize hbw : w.heap.size = b at *
  replace hbw := hid hbw
  have hs4 : b + 4 ≤ W.heap.size := by omega
  have hCW : C ≤ W.heap.size := by omega
  clear hsz H
  have pk : ∀ X : World, Below W.heap.size W X → (X.cell? ⟨b, 0, none⟩ = some q0 ∧ X.cell? ⟨b, 1, none⟩ = some q1) ∧ (X.cell? ⟨b + 1, 0, none⟩ = some (.slice va n0 vc) ∧ X.cell? ⟨b + 1, 1, none⟩ = some (.int .i64 m0) ∧ X.cell? ⟨b + 1, 2, none⟩ = some (.slice va' n1 vc') ∧ X.cell? ⟨b + 1, 3, none⟩ = some (.int .i64 m1)) ∧ X.cell? ⟨b + 1 + 1, 1, none⟩ = some (.int .i64 N) ∧
      (X.frozen? ⟨b + 1, 0, none⟩ = false ∧ X.frozen? ⟨b + 1, 1, none⟩ = false ∧ X.frozen? ⟨b + 1, 2, none⟩ = false ∧ X.frozen? ⟨b + 1, 3, none⟩ = false) ∧ (b < X.heap.size ∧ b + 1 < X.heap.size ∧ b + 1 + 1 < X.heap.size ∧ b + 1 + 1 + 1 < X.heap.size) ∧ X.heap[b + 1]? = some (.cells #[.slice va n0 vc, .int .i64 m0, .slice va' n1 vc', .int .i64 m1] 30 (0, 0)) ∧
      X.heap[b + 1 + 1 + 1]? = some (.cells #[.slice none 0 0, .int .i64 0, .slice none 0 0, .int .i64 0] 30 (0, 0)) ∧ X.heap[b]? = some (.cells #[q0, q1] 26 (0, 0)) := fun X hX => by
    have y0 := blk_keep hX z0
    have y1 := blk_keep hX z1
    have y2 := blk_keep hX z2
    have y3 := blk_keep hX z3
    have ys := hX.size
    refine ⟨⟨(box_cell y0).trans rfl, (box_cell y0).trans rfl⟩, ⟨(box_cell y1).trans rfl, (box_cell y1).trans rfl, (box_cell y1).trans rfl, (box_cell y1).trans rfl⟩, (box_cell y2).trans rfl, ⟨?_, ?_, ?_, ?_⟩, ⟨by omega, by omega, by omega, by omega⟩, y1, y3, y0⟩ <;> (unfold World.frozen?; rw [y1]; rfl)
  have pk2 : ∀ X : World, Below W.heap.size W X → X.heap[b + 1 + 1]? = some (.cells #[.int .u8 k, .int .i64 N, .bool true] 35 (0, 0)) := fun X hX => blk_keep hX z2
  obtain ⟨K, hK⟩ : ∃ K, K = moveN N l1.length m0 l0.length := ⟨_, rfl⟩
  have hd : ∀ X, Below W.heap.size W X → Calls Try.prog 24 #[.agg #[.slice va' n1 vc', .int .i64 m1], .agg #[.slice va n0 vc, .int .i64 m0], .int .i64 N] X fun e w' => MovePost w' C m1 m0 (l1.drop K) (l0 ++ l1.take K) K e ∧ Below X.heap.size X w' := fun X hX => by
    rw [hK]
    exact rmove_ok N l1 l0 (by have := hn1.out; omega) m1 m0 (by have := hn0.out; omega) (by omega) (Nat.le_trans hCW hX.size) (own_below hX HW.s) (own_below hX HW.r)
  replace hK := hid hK
  generalize hLA : l1.drop K = LA at *
  generalize hLB : l0 ++ l1.take K = LB at *
  replace hLA := hid hLA
  replace hLB := hid hLB
  obtain ⟨⟨k0, k1⟩, ⟨k2, k3, k4, k5⟩, k6, -⟩ := pk W (Below.refl _ _)
  have nw0 : ¬ b = b + 1 := by omega
  have nv0 : ¬ b + 1 = b := by omega
  have nw1 : ¬ b = b + 1 + 1 := by omega
  have nv1 : ¬ b + 1 + 1 = b := by omega
  have nw2 : ¬ b = b + 1 + 1 + 1 := by omega
  have nv2 : ¬ b + 1 + 1 + 1 = b := by omega
  have nw3 : ¬ b + 1 = b + 1 + 1 := by omega
  have nv3 : ¬ b + 1 + 1 = b + 1 := by omega
  have nw4 : ¬ b + 1 = b + 1 + 1 + 1 := by omega
  have nv4 : ¬ b + 1 + 1 + 1 = b + 1 := by omega
  have nw5 : ¬ b + 1 + 1 = b + 1 + 1 + 1 := by omega
  have nv5 : ¬ b + 1 + 1 + 1 = b + 1 + 1 := by omega
  have nz0 : ¬ b = W.heap.size := by omega
  have nz1 : ¬ W.heap.size = b := by omega
  have nz2 : ¬ b + 1 = W.heap.size := by omega
  have nz3 : ¬ W.heap.size = b + 1 := by omega
  have nz4 : ¬ b + 1 + 1 = W.heap.size := by omega
  have nz5 : ¬ W.heap.size = b + 1 + 1 := by omega
  have nz6 : ¬ b + 1 + 1 + 1 = W.heap.size := by omega
  have nz7 : ¬ W.heap.size = b + 1 + 1 + 1 := by omega
  have hw0 : IntKind.i64.wrap 1 = 1 := by decide
  have hw1 : IntKind.i64.wrap 0 = 0 := by decide
  have hw2 : IntKind.i64.wrap (1 - 0) = 1 := by decide
  have hw3 : IntKind.i64.wrap (1 - 1) = 0 := by decide
  have Z1 : Below W.heap.size W W.drew := (Below.refl _ _).drew
  have Z2 : Below W.heap.size W (W.alloc (.cells #[.slice none 0 0, .int .i64 0] 29)).drew := ((Below.refl _ _).alloc (Nat.le_refl _) _).drew
  have Z4 : Below W.heap.size W ((W.alloc (.cells #[.slice none 0 0, .int .i64 0] 29)).alloc (.cells #[.slice none 0 0, .int .i64 0] 29)).drew := (((Below.refl _ _).alloc (Nat.le_refl _) _).alloc (by simp) _).drew
  have Z3 : (W.alloc (.cells #[.slice none 0 0, .int .i64 0] 29)).drew.heap[W.heap.size]? = some (.cells #[.slice none 0 0, .int .i64 0] 29 (0, 0)) := heap_alloc_new _ _
  have Z5 : ((W.alloc (.cells #[.slice none 0 0, .int .i64 0] 29)).alloc (.cells #[.slice none 0 0, .int .i64 0] 29)).drew.heap[W.heap.size]? = some (.cells #[.slice none 0 0, .int .i64 0] 29 (0, 0)) := heap_al (heap_alloc_new _ _)
  have Z6 : ((W.alloc (.cells #[.slice none 0 0, .int .i64 0] 29)).alloc (.cells #[.slice none 0 0, .int .i64 0] 29)).drew.heap[W.heap.size + 1]? = some (.cells #[.slice none 0 0, .int .i64 0] 29 (0, 0)) := by
    have := heap_alloc_new (W.alloc (.cells #[.slice none 0 0, .int .i64 0] 29)) (.cells #[.slice none 0 0, .int .i64 0] 29)
    simp only [World.size_alloc] at this
    exact this
  go_cut [16, 17, 18] from 85 to 98 (fun p q r X => MovRel w b B' B C q1 q0 m1 m0 ch1 ch0 l1 l0 LA LB (.cells #[q0, q1] 26 (0, 0)) (.cells #[.slice va n0 vc, .int .i64 m0, .slice va' n1 vc', .int .i64 m1] 30 (0, 0)) (.cells #[.int .u8 k, .int .i64 N, .bool true] 35 (0, 0)) (.cells #[.slice none 0 0, .int .i64 0, .slice none 0 0, .int .i64 0] 30 (0, 0)) K 29 p q r X)
  case first =>
    go_region_held3 (fun w' => w'.cell? ⟨b + 1, 0, none⟩ = some (.slice va n0 vc) ∧ w'.cell? ⟨b + 1, 1, none⟩ = some (.int .i64 m0) ∧ w'.cell? ⟨b + 1, 2, none⟩ = some (.slice va' n1 vc') ∧ w'.cell? ⟨b + 1, 3, none⟩ = some (.int .i64 m1) ∧ w'.cell? ⟨b + 1 + 1, 1, none⟩ = some (.int .i64 N)) (go_keep) (first | (go_at_call 24; refine (hd _ (by first | exact Z1 | exact Z2 | exact Z4)).mono ?_; clear hd; rintro e w2 ⟨⟨v', u', rfl, ho, hou⟩, hb2'⟩; obtain ⟨a2, c2, rfl⟩ := own_slice ho; obtain ⟨a3, c3, rfl⟩ := own_slice hou; have hb2 : Below W.heap.size W w2 := (by first | exact Z1.trans (hb2'.mono Z1.size) | exact Z2.trans (hb2'.mono Z2.size) | exact Z4.trans (hb2'.mono Z4.size)); obtain ⟨⟨j0, j1⟩, ⟨j2, j3, j4, j5⟩, j6, ⟨f0, f1, f2, f3⟩, ⟨t0, t1, t2, t3⟩, y1, y3, y0⟩ := pk w2 hb2; first | (have y9 := blk_keep hb2' Z3; have m9 : W.heap.size < w2.heap.size := (Array.getElem?_eq_some_iff.mp y9).1; have h9 := (box_cell y9 (o := 0)).trans rfl; have h9' := (box_cell y9 (o := 1)).trans rfl; have g9 : w2.frozen? ⟨W.heap.size, 0, none⟩ = false := (by unfold World.frozen?; rw [y9]; rfl); have g9' : w2.frozen? ⟨W.heap.size, 1, none⟩ = false := (by unfold World.frozen?; rw [y9]; rfl)) | (have y9 := blk_keep hb2' Z5; have y8 := blk_keep hb2' Z6; have h9 := (box_cell y9 (o := 0)).trans rfl; have h9' := (box_cell y9 (o := 1)).trans rfl; have g9 : w2.frozen? ⟨W.heap.size, 0, none⟩ = false := (by unfold World.frozen?; rw [y9]; rfl); have g9' : w2.frozen? ⟨W.heap.size, 1, none⟩ = false := (by unfold World.frozen?; rw [y9]; rfl); have h8 := (box_cell y8 (o := 0)).trans rfl; have h8' := (box_cell y8 (o := 1)).trans rfl; have g8 : w2.frozen? ⟨W.heap.size + 1, 0, none⟩ = false := (by unfold World.frozen?; rw [y8]; rfl); have g8' : w2.frozen? ⟨W.heap.size + 1, 1, none⟩ = false := (by unfold World.frozen?; rw [y8]; rfl)) | skip))
    all_goals go_wp2
    all_goals
      have hbw2 : Below b w w2 := hb0.trans (hb2.mono (by omega))
      have H : Bse w w2 b B' B C q1 q0 m1 m0 ch1 ch0 l1 l0 (.slice a2 LA.length c2) LA (.slice a3 LB.length c3) LB (.cells #[q0, q1] 26 (0, 0)) (.cells #[.slice va n0 vc, .int .i64 m0, .slice va' n1 vc', .int .i64 m1] 30 (0, 0)) (.cells #[.int .u8 k, .int .i64 N, .bool true] 35 (0, 0)) (.cells #[.slice none 0 0, .int .i64 0, .slice none 0 0, .int .i64 0] 30 (0, 0)) :=
        ⟨hbw2, HW.b.below hb2, HW.a.below hb2, ho, hou, y0, y1, pk2 w2 hb2, y3, by have := hb2.size; omega⟩
      have hsw : b + 4 ≤ w2.heap.size := H.sz
      go_meet
      first
        | exact mv1 H
        | exact mv2 H
        | exact mv3 H y9 (by decide) hs4
        | exact mv5 H y9 (by decide) hs4
        | exact mv4 H y9 y8 (by decide) hs4 (by omega) (by omega)
        | exact mv4 H y8 y9 (by decide) (by omega) hs4 (by omega)
  case rest =>
    obtain ⟨g, g', a2, c2, a3, c3, rfl, rfl, rfl, H, z8, z9, hg, hg', hgg⟩ := hcut

    rename World => X
    have hpm : ∀ X', Qu X' B' q1 m1 ch1 (vsi l1) → Qu X' B q0 m0 ch0 (vsi l0) → Calls Try.prog 20 #[q1, q0, .int .i64 N] X' fun e w' => e = .returned (.int .i64 (K : Int)) ∧ Qu w' B' q1 m1 ch1 (vsi LA) ∧ Qu w' B q0 m0 ch0 (vsi LB) ∧ Near (Two ch1 ch0) X' w' := fun X' ha hb => by
      rw [← hLA.out, ← hLB.out]
      by_cases hch : ch1 = ch0
      · have hc0 : ch1 = none := by
          cases h0 : ch1 with
          | none => rfl
          | some c => exact absurd (show Of ch0 c from hch ▸ h0) (hS c h0)
        have hnil : ∀ {B q m ch} {l : List Int}, ch = none → Qu X' B q m ch (vsi l) → l = [] ∧ m = 0 := fun {B q m ch l} e h => by
          rcases h with ⟨-, -, h1, h2⟩ | ⟨_, _, _, _, _, -, h1, -⟩
          · exact ⟨List.map_eq_nil_iff.mp h2, h1⟩
          · rw [e] at h1; cases h1
        obtain ⟨hA, hma⟩ := hnil hc0 ha
        obtain ⟨hB, hmb⟩ := hnil (hch ▸ hc0) hb
        have hK0 : K = 0 := by rw [hK.out, hA]; unfold moveN; simp
        have ha' := ha
        have hb' := hb
        rw [← hch] at hb'
        refine (move_i_same N ha' hb').mono ?_
        rintro e w' ⟨hw, rfl⟩
        subst hw
        refine ⟨by rw [hK0]; rfl, ?_, ?_, Near.refl _ _⟩
        · rw [hK0]; simpa using ha
        · rw [hA, List.take_nil, List.append_nil]; exact hb
      · have := move_i_two N l1 l0 ha hb hch
        rw [hK.out]
        exact this
    clear HW pk pk2 z0 z1 z2 z3 k0 k1 k2 k3 k4 k5 k6 hd
    clear Z1 Z2 Z3 Z4 Z5 Z6
    have a0 : X.cell? ⟨g, 0, none⟩ = some (.slice a2 LA.length c2) := (box_cell z8).trans rfl
    have a1 : X.cell? ⟨g, 1, none⟩ = some (.int .i64 m1) := (box_cell z8).trans rfl
    have b0 : X.cell? ⟨g', 0, none⟩ = some (.slice a3 LB.length c3) := (box_cell z9).trans rfl
    have b1 : X.cell? ⟨g', 1, none⟩ = some (.int .i64 m0) := (box_cell z9).trans rfl
    have y1 := H.h1
    have i0 := (box_cell y1 (o := 0)).trans rfl
    have i1 := (box_cell y1 (o := 1)).trans rfl
    have i2 := (box_cell y1 (o := 2)).trans rfl
    have i3 := (box_cell y1 (o := 3)).trans rfl
    have f0 : X.frozen? ⟨b + 1, 0, none⟩ = false := by unfold World.frozen?; rw [y1]; rfl
    have f1 : X.frozen? ⟨b + 1, 1, none⟩ = false := by unfold World.frozen?; rw [y1]; rfl
    have f2 : X.frozen? ⟨b + 1, 2, none⟩ = false := by unfold World.frozen?; rw [y1]; rfl
    have f3 : X.frozen? ⟨b + 1, 3, none⟩ = false := by unfold World.frozen?; rw [y1]; rfl
    have o1 : ¬ g = b + 1 := by omega
    have o2 : ¬ b + 1 = g := by omega
    have o3 : ¬ g' = b + 1 := by omega
    have o4 : ¬ b + 1 = g' := by omega
    go_upto_region 16 with fail
    go_region_held3 (fun w' => w'.cell? ⟨g, 0, none⟩ = some (.slice a2 LA.length c2) ∧ w'.cell? ⟨g, 1, none⟩ = some (.int .i64 m1) ∧ w'.cell? ⟨g', 0, none⟩ = some (.slice a3 LB.length c3) ∧ w'.cell? ⟨g', 1, none⟩ = some (.int .i64 m0)) (go_keep) (fail)
    go_upto_region 17 with fail
    have H2 := (H.setm (by decide) 2 (.slice a2 LA.length c2) (.int .i64 m1) rfl rfl).setm (by decide) 0 (.slice a3 LB.length c3) (.int .i64 m0) rfl rfl
    have eK : ((K : Int) == (K : Int)) = true := by simp
    refine gen_world (fun X => Below b w X ∧ Qu X B' q1 m1 ch1 (vsi l1) ∧ Qu X B q0 m0 ch0 (vsi l0) ∧ X.ownsRow C 3 1 (.slice a2 LA.length c2) LA.length (vsi LA) ∧ X.ownsRow C 3 1 (.slice a3 LB.length c3) LB.length (vsi LB) ∧ X.heap[b + 1]? = some (.cells #[.slice a3 LB.length c3, .int .i64 m0, .slice a2 LA.length c2, .int .i64 m1] 30 (0, 0)) ∧
      X.heap[b + 1 + 1 + 1]? = some (.cells #[.slice none 0 0, .int .i64 0, .slice none 0 0, .int .i64 0] 30 (0, 0)) ∧ X.heap[b]? = some (.cells #[q0, q1] 26 (0, 0)) ∧ X.heap[b + 1 + 1]? = some (.cells #[.int .u8 k, .int .i64 N, .bool true] 35 (0, 0))) ?_ ?_
    · exact ⟨H2.bl.drew, H2.qa.below (Below.refl _ _).drew, H2.qb.below (Below.refl _ _).drew, own_below (Below.refl _ _).drew H2.r, own_below (Below.refl _ _).drew H2.r', H2.h1, H2.h3, H2.h0, H2.h2⟩
    clear H H2 z8 z9 a0 a1 b0 b1 y1 i0 i1 i2 i3 f0 f1 f2 f3 o1 o2 o3 o4 hg hg' hgg
    rintro X ⟨hXb, qa, qb, ra, rb, z1', z3', z0', z2'⟩
    have g0 : X.cell? ⟨b, 0, none⟩ = some q0 := (box_cell z0').trans rfl
    have g1 : X.cell? ⟨b, 1, none⟩ = some q1 := (box_cell z0').trans rfl
    have g2 : X.cell? ⟨b + 1 + 1, 1, none⟩ = some (.int .i64 N) := (box_cell z2').trans rfl
    have p0 : X.cell? ⟨b + 1, 0, none⟩ = some (.slice a3 LB.length c3) := (box_cell z1').trans rfl
    have p1 : X.cell? ⟨b + 1, 1, none⟩ = some (.int .i64 m0) := (box_cell z1').trans rfl
    have p2 : X.cell? ⟨b + 1, 2, none⟩ = some (.slice a2 LA.length c2) := (box_cell z1').trans rfl
    have p3 : X.cell? ⟨b + 1, 3, none⟩ = some (.int .i64 m1) := (box_cell z1').trans rfl
    have hXd : Below X.heap.size X X.drew := (Below.refl _ _).drew
    have hp' := hpm _ (qa.below hXd) (qb.below hXd)
    go_region_held3 (fun w' => w'.cell? ⟨b, 0, none⟩ = some q0 ∧ w'.cell? ⟨b, 1, none⟩ = some q1 ∧ w'.cell? ⟨b + 1 + 1, 1, none⟩ = some (.int .i64 N) ∧ w'.cell? ⟨b + 1, 0, none⟩ = some (.slice a3 LB.length c3) ∧ w'.cell? ⟨b + 1, 1, none⟩ = some (.int .i64 m0) ∧ w'.cell? ⟨b + 1, 2, none⟩ = some (.slice a2 LA.length c2) ∧ w'.cell? ⟨b + 1, 3, none⟩ = some (.int .i64 m1)) (go_keep) (first | (go_at_call 20; refine hp'.mono ?_; clear hp'; rintro e w3 ⟨rfl, qa3, qb3, hn3'⟩; have hn3 : Near (Two ch1 ch0) X w3 := (Near.of_below hXd).trans hn3'; have x0 := hn3.cell g0; have x1 := hn3.cell g1; have x6 := hn3.cell g2; have x2 := hn3.cell p0; have x3 := hn3.cell p1; have x4 := hn3.cell p2; have x5 := hn3.cell p3; have y3 := hn3.box z3'; have u0 := (box_cell y3 (o := 0)).trans rfl; have u1 := (box_cell y3 (o := 1)).trans rfl; have u2 := (box_cell y3 (o := 2)).trans rfl; have u3 := (box_cell y3 (o := 3)).trans rfl; have f0 : w3.frozen? ⟨b + 1 + 1 + 1, 0, none⟩ = false := (by unfold World.frozen?; rw [y3]; rfl); have f1 : w3.frozen? ⟨b + 1 + 1 + 1, 1, none⟩ = false := (by unfold World.frozen?; rw [y3]; rfl); have f2 : w3.frozen? ⟨b + 1 + 1 + 1, 2, none⟩ = false := (by unfold World.frozen?; rw [y3]; rfl); have f3 : w3.frozen? ⟨b + 1 + 1 + 1, 3, none⟩ = false := (by unfold World.frozen?; rw [y3]; rfl)))
    go_wp2
    have H3 : Two2 w3 B B' C q0 q1 m0 m1 ch0 ch1 (.slice a3 LB.length c3) (.slice a2 LA.length c2) LB LA := ⟨qb3, qa3, hn3.own rb, hn3.own ra⟩
    have hH := H3.res (u1 := .int .i64 m0) (u2 := .slice a2 LA.length c2) (u3 := .int .i64 m1) (a' := a3) (n' := LB.length) (c' := c3) y3 (by decide)
    refine bodyPost_ret (v := .tuple #[.agg #[.slice a3 LB.length c3, .int .i64 m0, .slice a2 LA.length c2, .int .i64 m1], .bool true]) ?_ rfl ⟨⟨_, _, _, _, rfl, hH⟩, near_set ((Near.since hbw.out.symm hXb hn3).mono (fun c h => h.symm)) (by rw [hbw.out]; omega) _ _ _ _⟩
    simp [results, Try.results8, go_sem, u0, u1, u2, u3]

end Go.Proofs.Ytekacaocijfepaa
