/-
  THE DOCUMENT's OWN QUEUE: POP. Conditions: the length.
-/
import Derived.Test.YtekacaocijfepaaQrp
namespace Go.Proofs.Ytekacaocijfepaa
open Go.ChangeShapes Go.WideShapes Go.ChangeAt Go.RowKit Go.Conc
set_option linter.unusedVariables false
set_option linter.unusedSimpArgs false
set_option maxRecDepth 20000

def PopPost (w' : World) (B m : Nat) (L : List Int) (x : Int) (ok : Bool) (e : Ending) : Prop := ∃ v', e = .returned (.tuple #[.agg #[v', .int .i64 m], .int .i64 x, .bool ok]) ∧ w'.ownsRow B 3 1 v' L.length (vsi L)

set_option maxHeartbeats 4000000 in
theorem rpop_y (x : Int) (R : List Int) (hL : (x :: R).length ≤ 4096) (m : Nat) {w : World} {B : Nat} {v : Value} (hB : B ≤ w.heap.size) (h : w.ownsRow B 3 1 v (x :: R).length (vsi (x :: R))) :
    Calls Try.prog 23 #[.agg #[v, .int .i64 m]] w fun e w' => PopPost w' B m R x true e ∧ Below w.heap.size w w' := by
  obtain ⟨i0, hi, hz0, hz1, hz2⟩ := info_parts rinfo
  obtain ⟨g, c, rfl, hBg⟩ := own_shape h (by simp)
  obtain ⟨n, hn⟩ : ∃ n, n = (x :: R).length := ⟨_, rfl⟩
  rw [← hn] at h hL ⊢
  have hn1 : 1 ≤ n := by rw [hn]; simp
  have hnR : n - 1 = R.length := by rw [hn]; simp
  have hnc : n ≤ c ∧ c ≤ 9223372036854775807 := by
    rcases h.2 with ⟨h0, -⟩ | ⟨g', cap, cur, h0, -, -, hnc, hcm, -⟩
    · cases h0
    · cases h0; exact ⟨hnc, by unfold maxLen at hcm; omega⟩
  have hcell : ∀ j, j < n → w.cell? ⟨g, j, none⟩ = (vsi (x :: R))[j]? := fun j hj => h.cellAt j (by omega)
  have hx0 : w.cell? ⟨g, 0, none⟩ = some (.int .i64 x) := hcell 0 (by omega)
  have hsrc : Src w (.slice (if c = 1 then some ⟨g, 0, none⟩ else some ⟨g, 1, none⟩) (n - 1) (c - 1)) (vsi R).length (vsi R) := by
    by_cases hc1 : c = 1
    · rw [if_pos hc1]
      have hR : R = [] := List.eq_nil_of_length_eq_zero (by omega)
      exact .inr ⟨_, _, by rw [vsi_len, hnR], rfl, fun j u hj => by rw [hR] at hj; simp [vsi] at hj, vsi_one R⟩
    · rw [if_neg hc1]
      refine .inr ⟨_, _, by rw [vsi_len, hnR], rfl, fun j u hj => ?_, vsi_one R⟩
      have hjl : j < R.length := by have := (List.getElem?_eq_some_iff.mp hj).1; rwa [vsi_len] at this
      have h1 := hcell (j + 1) (by omega)
      rw [vsi_cons, List.getElem?_cons_succ, hj] at h1
      have e1 : (⟨g, 1, none⟩ : Addr).add j = ⟨g, j + 1, none⟩ := by
        unfold Addr.add
        by_cases h : j = 0
        · subst h; rfl
        · simp [h, Nat.add_comm]
      rw [e1]; exact h1
  have hlR : (vsi R).length = n - 1 := by rw [vsi_len, hnR]
  replace hnR := hid hnR
  replace hn := hid hn
  have hnI : (1 : Int) ≤ (n : Int) := by omega
  have hncI : (n : Int) ≤ (c : Int) := by omega
  have hposI : (0 : Int) < (n : Int) := by omega
  have hpos : 0 < n := by omega
  have hn0 : ¬ (n : Int) = 0 := by omega
  have hnz : ((n : Int) == 0) = false := by simpa using hn0
  have hgb : g < w.heap.size := by
    obtain ⟨_, _, _, hq⟩ := block_of_cell hx0
    exact (Array.getElem?_eq_some_iff.mp hq).1
  clear hcell h
  go_enter Try.func23, Try.ntmps23
  go_upto_region 3 with fail
  have hb0 : Below w.heap.size w ((w.alloc (.cells #[.slice (some ⟨g, 0, none⟩) n c, .int .i64 m] 29)).alloc (.cells #[.slice none 0 0, .int .i64 0] 29)) := ((Below.refl _ _).alloc (Nat.le_refl _) _).alloc (by simp) _
  have hz0' : ((w.alloc (.cells #[.slice (some ⟨g, 0, none⟩) n c, .int .i64 m] 29)).alloc (.cells #[.slice none 0 0, .int .i64 0] 29)).heap[w.heap.size]? = some (.cells #[.slice (some ⟨g, 0, none⟩) n c, .int .i64 m] 29 (0, 0)) := by rw [Below.heap_alloc _ _ _ (by simp)]; exact heap_alloc_new _ _
  have hz1' : ((w.alloc (.cells #[.slice (some ⟨g, 0, none⟩) n c, .int .i64 m] 29)).alloc (.cells #[.slice none 0 0, .int .i64 0] 29)).heap[w.heap.size + 1]? = some (.cells #[.slice none 0 0, .int .i64 0] 29 (0, 0)) := by
    have := heap_alloc_new (w.alloc (.cells #[.slice (some ⟨g, 0, none⟩) n c, .int .i64 m] 29)) (.cells #[.slice none 0 0, .int .i64 0] 29)
    simp only [World.size_alloc] at this
    exact this
  have hsz : ((w.alloc (.cells #[.slice (some ⟨g, 0, none⟩) n c, .int .i64 m] 29)).alloc (.cells #[.slice none 0 0, .int .i64 0] 29)).heap.size = w.heap.size + 2 := by simp
  have hLs := hsrc.near hb0
  have hxW := cell_later hb0 hx0
  clear hsrc hx0
  generalize ((w.alloc (.cells #[.slice (some ⟨g, 0, none⟩) n c, .int .i64 m] 29)).alloc (.cells #[.slice none 0 0, .int .i64 0] 29)) = W at *
  generalize hbw : w.heap.size = b at *
  replace hbw := hid hbw
  have hc0 : W.cell? ⟨b, 0, none⟩ = some (.slice (some ⟨g, 0, none⟩) n c) := by unfold World.cell?; rw [hz0']; rfl
  have hc1 : W.cell? ⟨b, 1, none⟩ = some (.int .i64 m) := by unfold World.cell?; rw [hz0']; rfl
  have r0 : W.cell? ⟨b + 1, 0, none⟩ = some (.slice none 0 0) := by unfold World.cell?; rw [hz1']; rfl
  have r1 : W.cell? ⟨b + 1, 1, none⟩ = some (.int .i64 0) := by unfold World.cell?; rw [hz1']; rfl
  have f0 : W.frozen? ⟨b + 1, 0, none⟩ = false := by unfold World.frozen?; rw [hz1']; rfl
  have f1 : W.frozen? ⟨b + 1, 1, none⟩ = false := by unfold World.frozen?; rw [hz1']; rfl
  have hs2 : b + 2 ≤ W.heap.size := by omega
  have hgW : g < W.heap.size := by omega
  have ne1 : g ≠ b + 1 := by omega
  have ne2 : b + 1 ≠ g := by omega
  have ne3 : ¬ g = b + 1 := by omega
  have ne4 : ¬ b + 1 = g := by omega
  clear hsz
  have hWB : B ≤ W.heap.size := by omega
  have hbW : b ≤ W.heap.size := by omega
  have B1 : Below W.heap.size W (W.alloc (.cells #[] 3)).drew := ((Below.refl _ _).alloc (Nat.le_refl _) _).drew
  have D1 : (W.alloc (.cells #[] 3)).drew.heap[W.heap.size]? = some (.cells #[] 3 (0, 0)) := heap_alloc_new W _
  have keep1 : ∀ {wx w1 : World} {d : Nat}, Below W.heap.size W wx → wx.grownBy w1 (some d) → W.heap.size ≤ d → Below W.heap.size W w1 := fun h1 h2 h3 => h1.grown h2 h1.size (fun k e => by cases e; exact h3)
  go_region_held3 (fun w' => w'.cell? ⟨b, 0, none⟩ = some (.slice (some ⟨g, 0, none⟩) n c) ∧ w'.cell? ⟨b, 1, none⟩ = some (.int .i64 m) ∧ w'.cell? ⟨g, 0, none⟩ = some (.int .i64 x)) (go_keep) (first | (refine step_lit rfl (.tmp 10) (.tmp 13) 27 rfl W.heap.size Try.underlying27 hi hz0 hz1 hz2 rfl _ (.slice (if c = 1 then some ⟨g, 0, none⟩ else some ⟨g, 1, none⟩) (n - 1) (c - 1)) (vsi R) rfl rfl D1 (Nat.le_refl _) (hLs.near B1) (by unfold maxLen; omega) (by omega) ?_; intro v1 w1 ho1 hg1; have hb1 : Below W.heap.size W w1 := keep1 B1 hg1 (Nat.le_refl _); have k0 := (hb1.cell (p := ⟨b, 0, none⟩) (by show b < _; omega)).trans hc0; have k1 := (hb1.cell (p := ⟨b, 1, none⟩) (by show b < _; omega)).trans hc1; have q0 := (hb1.cell (p := ⟨b + 1, 0, none⟩) (by show b + 1 < _; omega)).trans r0; have q1 := (hb1.cell (p := ⟨b + 1, 1, none⟩) (by show b + 1 < _; omega)).trans r1; have y0 := (hb1.frozen (p := ⟨b + 1, 0, none⟩) (by show b + 1 < _; omega)).trans f0; have y1 := (hb1.frozen (p := ⟨b + 1, 1, none⟩) (by show b + 1 < _; omega)).trans f1; have kg := (hb1.cell (p := ⟨g, 0, none⟩) hgW).trans hxW; rw [hlR] at ho1; obtain ⟨a2, c2, rfl⟩ := own_slice ho1))
  go_wp2
  all_goals
    have o3 := ownsRow_setCell_below (ownsRow_setCell_below ho1 (a := ⟨b + 1, 0, none⟩) (by show b + 1 < _; omega) (.slice a2 (n - 1) c2)) (a := ⟨b + 1, 1, none⟩) (by show b + 1 < _; omega) (.int .i64 m)
    refine bodyPost_ret (v := .tuple #[.agg #[.slice a2 (n - 1) c2, .int .i64 m], .int .i64 x, .bool true]) ?_ rfl ⟨⟨_, rfl, own_mono hWB (by rw [← hnR.out]; exact o3)⟩, by rw [hbw.out]; exact ((hb0.trans (hb1.mono hbW)).setCell (Nat.le_succ b) _).setCell (Nat.le_succ b) _⟩
    simp [results, Try.results23, go_sem, q0, q1]

theorem rpop_e (m : Nat) {w : World} {B : Nat} {v : Value} (h : w.ownsRow B 3 1 v 0 (vsi [])) :
    Calls Try.prog 23 #[.agg #[v, .int .i64 m]] w fun e w' => PopPost w' B m [] 0 false e ∧ Below w.heap.size w w' := by
  obtain ⟨a, c, rfl⟩ := own_slice h
  go_enter Try.func23, Try.ntmps23
  go_wp2
  have hb0 : Below w.heap.size w ((w.alloc (.cells #[.slice a 0 c, .int .i64 m] 29)).alloc (.cells #[.slice a 0 c, .int .i64 m] 29)) := ((Below.refl _ _).alloc (Nat.le_refl _) _).alloc (by simp) _
  refine bodyPost_ret (v := .tuple #[.agg #[.slice a 0 c, .int .i64 m], .int .i64 0, .bool false]) ?_ rfl ⟨⟨_, rfl, own_below hb0 h⟩, hb0⟩
  simp [results, Try.results23, go_sem]

end Go.Proofs.Ytekacaocijfepaa
