/-
  THE DOCUMENT's OWN QUEUE: MOVE OUT OF NO SLICE; MOVE. Conditions: the length.
-/
import Derived.Test.YtekacaocijfepaaQrm
namespace Go.Proofs.Ytekacaocijfepaa
open Go.ChangeShapes Go.WideShapes Go.ChangeAt Go.RowKit Go.Conc
set_option linter.unusedVariables false
set_option linter.unusedSimpArgs false
set_option maxRecDepth 20000

set_option maxHeartbeats 8000000 in
theorem rmove_nil (most : Int) (b : List Int) (m m' : Nat) (hb : b.length ≤ m') (hm : m' ≤ 4096) {w : World} {B : Nat} {u : Value} (hB : B ≤ w.heap.size)
    (h' : w.ownsRow B 3 1 u b.length (vsi b)) :
    Calls Try.prog 24 #[.agg #[.slice none 0 0, .int .i64 m], .agg #[u, .int .i64 m'], .int .i64 most] w fun e w' =>
      MovePost w' B m m' [] b 0 e ∧ Below w.heap.size w w' := by
  obtain ⟨i0, hi, hz0, hz1, hz2⟩ := info_parts rinfo
  obtain ⟨ub, uc, rfl⟩ := own_slice h'
  obtain ⟨M, hM⟩ : ∃ M : Int, M = max most 0 := ⟨_, rfl⟩
  have hmax : ∀ ts ty w, (Builtin.max_ ts ty #[.int .i64 most, .int .i64 0]).run Try.prog w = .ok (.int .i64 M) w := fun ts ty w => by
    have h0 : (Builtin.max_ ts ty #[.int .i64 most, .int .i64 0]).run Try.prog w = .ok (.int .i64 (if (0 : Int) > most then 0 else most)) w := by simp [Builtin.max_, Builtin.max2]
    rw [h0]
    have h1 : (if (0 : Int) > most then 0 else most) = M := by rw [hM]; split <;> omega
    rw [h1]
  have hmin : ∀ ts ty w, (Builtin.min_ ts ty #[.int .i64 M, .int .i64 0, .int .i64 ((m' : Int) - (b.length : Int))]).run Try.prog w = .ok (.int .i64 0) w := fun ts ty w => by
    have h0 : (Builtin.min_ ts ty #[.int .i64 M, .int .i64 0, .int .i64 ((m' : Int) - (b.length : Int))]).run Try.prog w = .ok (.int .i64 (if (m' : Int) - (b.length : Int) < (if (0 : Int) < M then (0 : Int) else M) then (m' : Int) - (b.length : Int) else (if (0 : Int) < M then (0 : Int) else M))) w := by simp [Builtin.min_, Builtin.min2]
    rw [h0]
    have h1 : (if (m' : Int) - (b.length : Int) < (if (0 : Int) < M then (0 : Int) else M) then (m' : Int) - (b.length : Int) else (if (0 : Int) < M then (0 : Int) else M)) = 0 := by
      rw [hM]; split <;> split <;> omega
    rw [h1]
  obtain ⟨nb, hnb⟩ : ∃ nb, nb = b.length := ⟨_, rfl⟩
  rw [← hnb] at h' hmin hb ⊢
  replace hM := hid hM
  replace hnb := hid hnb
  have hsT : Src w (.slice none 0 0) (vsi []).length (vsi []) := .inl ⟨rfl, rfl, rfl⟩
  have hsD : Src w (.slice none 0 0) (vsi []).length (vsi []) := .inl ⟨rfl, rfl, rfl⟩
  have hsB := own_src h'
  have lT : (vsi []).length = 0 := rfl
  have lD : (vsi []).length = 0 := rfl
  have lB : b.length = nb := hnb.out.symm
  rw [lB] at hsB
  replace lB := hid lB
  go_enter Try.func24, Try.ntmps24
  go_upto_region 2 with fail
  obtain ⟨z0, z1, z2, z3, hsz, hb0⟩ := four_allocs w (.cells #[.slice none 0 0, .int .i64 m] 29) (.cells #[.slice ub nb uc, .int .i64 m'] 29) (.cells #[.slice none 0 0, .int .i64 0] 29) (.cells #[.slice none 0 0, .int .i64 0] 29)
  have hsT' := hsT.near hb0
  have hsD' := hsD.near hb0
  have hsB' := hsB.near hb0
  clear hsT hsD hsB hmax hmin
  generalize ((((w.alloc (.cells #[.slice none 0 0, .int .i64 m] 29)).alloc (.cells #[.slice ub nb uc, .int .i64 m'] 29)).alloc (.cells #[.slice none 0 0, .int .i64 0] 29)).alloc (.cells #[.slice none 0 0, .int .i64 0] 29)) = W at *
  generalize hbw : w.heap.size = d at *
  replace hbw := hid hbw
  have c0 : W.cell? ⟨d, 0, none⟩ = some (.slice none 0 0) := by unfold World.cell?; rw [z0]; rfl
  have c1 : W.cell? ⟨d, 1, none⟩ = some (.int .i64 m) := by unfold World.cell?; rw [z0]; rfl
  have c2 : W.cell? ⟨d + 1, 0, none⟩ = some (.slice ub nb uc) := by unfold World.cell?; rw [z1]; rfl
  have c3 : W.cell? ⟨d + 1, 1, none⟩ = some (.int .i64 m') := by unfold World.cell?; rw [z1]; rfl
  have r0 : W.cell? ⟨d + 1 + 1, 0, none⟩ = some (.slice none 0 0) := by unfold World.cell?; rw [z2]; rfl
  have r1 : W.cell? ⟨d + 1 + 1, 1, none⟩ = some (.int .i64 0) := by unfold World.cell?; rw [z2]; rfl
  have r2 : W.cell? ⟨d + 1 + 1 + 1, 0, none⟩ = some (.slice none 0 0) := by unfold World.cell?; rw [z3]; rfl
  have r3 : W.cell? ⟨d + 1 + 1 + 1, 1, none⟩ = some (.int .i64 0) := by unfold World.cell?; rw [z3]; rfl
  have f0 : W.frozen? ⟨d + 1 + 1, 0, none⟩ = false := by unfold World.frozen?; rw [z2]; rfl
  have f1 : W.frozen? ⟨d + 1 + 1, 1, none⟩ = false := by unfold World.frozen?; rw [z2]; rfl
  have f2 : W.frozen? ⟨d + 1 + 1 + 1, 0, none⟩ = false := by unfold World.frozen?; rw [z3]; rfl
  have f3 : W.frozen? ⟨d + 1 + 1 + 1, 1, none⟩ = false := by unfold World.frozen?; rw [z3]; rfl
  have hs4 : d + 4 ≤ W.heap.size := by omega
  clear hsz z0 z1 z2 z3
  have cA : ∀ o, (W.alloc o).cell? ⟨d, 0, none⟩ = some (.slice none 0 0) := fun o => cell_later ((Below.refl _ _).alloc (Nat.le_refl _) _) c0
  go_upto_region 3 with (first | (at_builtin; refine wpList_lit rfl (.tmp 23) (.tmp 27) 27 rfl W.heap.size Try.underlying27 hi hz0 hz1 hz2 rfl _ (.slice none 0 0) (vsi []) rfl rfl (heap_alloc_new W _) (Nat.le_refl _) (hsT'.near ((Below.refl _ _).alloc (Nat.le_refl _) _)) (by unfold maxLen; omega) (by omega) ?_; intro v1 w1 ho1 hb1' hk1))
  have hb1 : Below W.heap.size W w1 := ((Below.refl _ _).alloc (Nat.le_refl _) _).trans (hb1'.mono (by simp))
  have hs1 := hb1.size
  rw [lT] at ho1
  have hx1 : Src w1 v1 (vsi []).length (vsi []) := by
    have := own_src (l := ([] : List Int)) ho1
    rw [← vsi_len ([])] at this; exact this
  have hsD1 := hsD'.near hb1
  have hlb : (vsi b).length = nb := by rw [vsi_len]; exact lB.out
  have hsB1 : Src w1 (.slice ub nb uc) (vsi b).length (vsi b) := by rw [hlb]; exact hsB'.near hb1
  have hx1K : Src w1 v1 0 (vsi []) := by rw [lT] at hx1; exact hx1
  have hnb2 : nb ≤ 4096 := by omega
  have pk : ∀ X : World, Below w1.heap.size w1 X → X.cell? ⟨d, 0, none⟩ = some (.slice none 0 0) ∧ X.cell? ⟨d, 1, none⟩ = some (.int .i64 m) ∧ X.cell? ⟨d + 1, 0, none⟩ = some (.slice ub nb uc) ∧ X.cell? ⟨d + 1, 1, none⟩ = some (.int .i64 m') := fun X hX =>
    ⟨cell_later hX (cell_later hb1 c0), cell_later hX (cell_later hb1 c1), cell_later hX (cell_later hb1 c2), cell_later hX (cell_later hb1 c3)⟩
  have pq : ∀ X : World, Below w1.heap.size w1 X → X.cell? ⟨d + 1 + 1, 0, none⟩ = some (.slice none 0 0) ∧ X.cell? ⟨d + 1 + 1, 1, none⟩ = some (.int .i64 0) ∧ X.cell? ⟨d + 1 + 1 + 1, 0, none⟩ = some (.slice none 0 0) ∧ X.cell? ⟨d + 1 + 1 + 1, 1, none⟩ = some (.int .i64 0) ∧
      X.frozen? ⟨d + 1 + 1, 0, none⟩ = false ∧ X.frozen? ⟨d + 1 + 1, 1, none⟩ = false ∧ X.frozen? ⟨d + 1 + 1 + 1, 0, none⟩ = false ∧ X.frozen? ⟨d + 1 + 1 + 1, 1, none⟩ = false := fun X hX =>
    ⟨cell_later hX (cell_later hb1 r0), cell_later hX (cell_later hb1 r1), cell_later hX (cell_later hb1 r2), cell_later hX (cell_later hb1 r3),
     (hX.frozen (by show d + 1 + 1 < _; omega)).trans ((hb1.frozen (by show d + 1 + 1 < _; omega)).trans f0), (hX.frozen (by show d + 1 + 1 < _; omega)).trans ((hb1.frozen (by show d + 1 + 1 < _; omega)).trans f1),
     (hX.frozen (by show d + 1 + 1 + 1 < _; omega)).trans ((hb1.frozen (by show d + 1 + 1 + 1 < _; omega)).trans f2), (hX.frozen (by show d + 1 + 1 + 1 < _; omega)).trans ((hb1.frozen (by show d + 1 + 1 + 1 < _; omega)).trans f3)⟩
  clear c0 c1 c2 c3 r0 r1 r2 r3 f0 f1 f2 f3 cA hsT' hsD' hsB' hb1' hk1
  obtain ⟨e0, e1, e2, e3⟩ := pk w1 (Below.refl _ _)
  have B1 : Below w1.heap.size w1 (w1.alloc (.cells #[] 3)).drew := ((Below.refl _ _).alloc (Nat.le_refl _) _).drew
  have B2 : Below w1.heap.size w1 ((w1.alloc (.cells #[] 3)).alloc (.cells #[] 3)).drew := (((Below.refl _ _).alloc (Nat.le_refl _) _).alloc (by simp) _).drew
  have D1 : (w1.alloc (.cells #[] 3)).drew.heap[w1.heap.size]? = some (.cells #[] 3 (0, 0)) := heap_alloc_new w1 _
  have D2 : ((w1.alloc (.cells #[] 3)).alloc (.cells #[] 3)).drew.heap[w1.heap.size]? = some (.cells #[] 3 (0, 0)) := (Below.heap_alloc _ _ _ (by simp)).trans (heap_alloc_new w1 _)
  have D3 : ((w1.alloc (.cells #[] 3)).alloc (.cells #[] 3)).drew.heap[w1.heap.size + 1]? = some (.cells #[] 3 (0, 0)) := by
    have := heap_alloc_new (w1.alloc (.cells #[] 3)) (.cells #[] 3)
    simp only [World.size_alloc] at this
    exact this
  have T1 : w1.heap.size + 1 ≤ (w1.alloc (.cells #[] 3)).drew.heap.size := by show _ ≤ (w1.alloc _).heap.size; simp
  have T2 : w1.heap.size + 2 ≤ ((w1.alloc (.cells #[] 3)).alloc (.cells #[] 3)).drew.heap.size := by show _ ≤ ((w1.alloc _).alloc _).heap.size; simp
  have T3 : ∀ (X : World) o, X.heap.size + 1 ≤ (X.alloc o).heap.size := fun X o => by simp
  have n1 : ¬ d = d + 1 + 1 := by omega
  have n2 : ¬ d + 1 + 1 = d := by omega
  have n3 : ¬ d = d + 1 + 1 + 1 := by omega
  have n4 : ¬ d + 1 + 1 + 1 = d := by omega
  have n5 : ¬ d + 1 = d + 1 + 1 + 1 := by omega
  have n6 : ¬ d + 1 + 1 + 1 = d + 1 := by omega
  have n7 : d ≠ d + 1 + 1 := by omega
  have n8 : d + 1 + 1 ≠ d := by omega
  have n9 : d ≠ d + 1 + 1 + 1 := by omega
  have n10 : d + 1 + 1 + 1 ≠ d := by omega
  have n11 : d + 1 ≠ d + 1 + 1 + 1 := by omega
  have n12 : d + 1 + 1 + 1 ≠ d + 1 := by omega
  go_region_held3 (fun w' => w'.cell? ⟨d, 0, none⟩ = some (.slice none 0 0) ∧ w'.cell? ⟨d, 1, none⟩ = some (.int .i64 m) ∧ w'.cell? ⟨d + 1, 0, none⟩ = some (.slice ub nb uc) ∧ w'.cell? ⟨d + 1, 1, none⟩ = some (.int .i64 m')) (go_keep) (first | (refine step_lit2 rfl (.tmp 29) (.tmp 33) 27 rfl w1.heap.size Try.underlying27 hi hz0 hz1 hz2 rfl _ (.slice none 0 0) (vsi []) rfl rfl (by first | exact D1 | exact D2 | exact D3) (by omega) (hsD1.near (by first | exact B1 | exact B2)) (by unfold maxLen; omega) (by omega) ?_; intro v2 w2 ho2 hb2' hk2; have hb2 : Below w1.heap.size w1 w2 := (by first | exact B1.trans (hb2'.mono B1.size) | exact B2.trans (hb2'.mono B2.size)); obtain ⟨k0, k1, k2, k3⟩ := pk w2 hb2; rw [lD] at ho2; obtain ⟨a2, x2, rfl⟩ := own_slice ho2; first | (have kA := blk_keep hb2' D2; have kC := blk_keep hb2' D3) | skip) | (refine step_lit2 rfl (.tmp 38) (.tmp 40) 27 rfl w1.heap.size Try.underlying27 hi hz0 hz1 hz2 rfl _ (.slice ub nb uc) (vsi b) rfl rfl (by first | exact heap_alloc_new _ _ | exact kC | exact kA) (by have := hb2.size; omega) (by first | exact (hsB1.near hb2) | exact (hsB1.near hb2).near ((Below.refl _ _).alloc (Nat.le_refl _) _)) (by unfold maxLen; omega) (by omega) ?_; intro v3 w3 ho3 hb3' hk3; rw [hlb] at ho3; have hb3 : Below w1.heap.size w1 w3 := (by first | exact hb2.trans (hb3'.mono hb2.size) | exact (hb2.alloc hb2.size _).trans (hb3'.mono (Nat.le_trans hb2.size (by simp)))); have ho2b : w3.ownsRow w1.heap.size 3 1 (.slice a2 0 x2) 0 (vsi []) := (by first | exact own_below hb3' ho2 | exact own_below hb3' (own_al ho2 _)); have hne : ∀ k, (Value.slice a2 0 x2).ownBlock = some k → some k ≠ v3.ownBlock := (fun k e e' => by have y1 := hk2 k e; have y2 := hk3 k e'.symm; have y3 := (ho2.lt k e).2; have y4 := hb2.size; have y5 := T3 w2 (.cells #[] 3); omega); clear k0 k1 k2 k3; obtain ⟨k0, k1, k2, k3⟩ := pk w3 hb3) | (refine step_app (n := nb) (m := 0) (xs := vsi b) (news := vsi []) rfl (.tmp 41) (.tmp 42) 27 rfl w1.heap.size Try.underlying27 hi hz0 hz1 hz2 rfl v3 v1 rfl rfl ho3 (hx1K.near hb3) (by unfold maxLen; omega) (by omega) hb3.size ?_; intro v4 w4 ho4 hg4; have hb4 : Below w1.heap.size w1 w4 := hb3.grown hg4 hb3.size (fun k e => (ho3.lt k e).1); have ho2c := own_far hg4 ho2b hne; obtain ⟨a4, x4, rfl⟩ := own_slice ho4; clear k0 k1 k2 k3; obtain ⟨k0, k1, k2, k3⟩ := pk w4 hb4; obtain ⟨j0, j1, j2, j3, j4, j5, j6, j7⟩ := pq w4 hb4))
  all_goals
    go_wp2
    all_goals
      have four : ∀ {nn : Nat} {v : Value} {xs : List Value}, w4.ownsRow w1.heap.size 3 1 v nn xs → ((((w4.setCell ⟨d + 1 + 1, 0, none⟩ (.slice a2 0 x2)).setCell ⟨d + 1 + 1, 1, none⟩ (.int .i64 m)).setCell ⟨d + 1 + 1 + 1, 0, none⟩ (.slice a4 nb x4)).setCell ⟨d + 1 + 1 + 1, 1, none⟩ (.int .i64 m')).ownsRow B 3 1 v nn xs := fun ho =>
        own_mono (by omega) (ownsRow_setCell_below (ownsRow_setCell_below (ownsRow_setCell_below (ownsRow_setCell_below ho (a := ⟨d + 1 + 1, 0, none⟩) (by show d + 1 + 1 < _; omega) _) (a := ⟨d + 1 + 1, 1, none⟩) (by show d + 1 + 1 < _; omega) _) (a := ⟨d + 1 + 1 + 1, 0, none⟩) (by show d + 1 + 1 + 1 < _; omega) _) (a := ⟨d + 1 + 1 + 1, 1, none⟩) (by show d + 1 + 1 + 1 < _; omega) _)
      have p1 := four ho2c
      have p2 := four ho4
      have l2 : b.length = nb := lB.out
      have hbE : Below d w w4 := hb0.trans ((hb1.trans (hb4.mono hs1)).mono (by omega))
      refine bodyPost_ret (v := .tuple #[.agg #[.slice a2 0 x2, .int .i64 m], .agg #[.slice a4 nb x4, .int .i64 m'], .int .i64 0]) ?_ rfl ⟨⟨_, _, rfl, p1, by rw [l2]; simpa [vsi] using p2⟩, by
        rw [hbw.out]
        exact (((hbE.setCell (by show d ≤ d + 1 + 1; omega) _).setCell (by show d ≤ d + 1 + 1; omega) _).setCell (by show d ≤ d + 1 + 1 + 1; omega) _).setCell (by show d ≤ d + 1 + 1 + 1; omega) _⟩
      simp [results, Try.results24, go_sem, j0, j1, j2, j3]

theorem rmove_ok (most : Int) (a b : List Int) (ha : a.length ≤ 4096) (m m' : Nat) (hb : b.length ≤ m') (hm : m' ≤ 4096) {w : World} {B : Nat} {v u : Value} (hB : B ≤ w.heap.size)
    (h : w.ownsRow B 3 1 v a.length (vsi a)) (h' : w.ownsRow B 3 1 u b.length (vsi b)) :
    Calls Try.prog 24 #[.agg #[v, .int .i64 m], .agg #[u, .int .i64 m'], .int .i64 most] w fun e w' =>
      MovePost w' B m m' (a.drop (moveN most a.length m' b.length)) (b ++ a.take (moveN most a.length m' b.length)) (moveN most a.length m' b.length) e ∧ Below w.heap.size w w' := by
  rcases h.2 with ⟨rfl, h0⟩ | ⟨g, cap, cur, rfl, -⟩
  · obtain rfl : a = [] := List.eq_nil_of_length_eq_zero h0
    have e0 : moveN most ([] : List Int).length m' b.length = 0 := by unfold moveN; simp
    rw [e0]
    simpa using rmove_nil most b m m' hb hm hB h'
  · exact rmove_some most a b ha m m' hb hm hB h h'

end Go.Proofs.Ytekacaocijfepaa
