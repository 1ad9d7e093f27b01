/-
  THE DOCUMENT's OWN QUEUE: PUSH. Conditions: the length.
-/
import Derived.Test.YtekacaocijfepaaQr
namespace Go.Proofs.Ytekacaocijfepaa
open Go.ChangeShapes Go.WideShapes Go.ChangeAt Go.RowKit Go.Conc
set_option linter.unusedVariables false
set_option linter.unusedSimpArgs false
set_option maxRecDepth 20000

/-- the things behind a push, as the document has it -/
def pushI (m : Nat) (L : List Int) (x : Int) : List Int := if L.length < m then L ++ [x] else L

def PushPost (w' : World) (B m : Nat) (L : List Int) (ok : Bool) (e : Ending) : Prop := ∃ v', e = .returned (.tuple #[.agg #[v', .int .i64 m], .bool ok]) ∧ w'.ownsRow B 3 1 v' L.length (vsi L)

theorem own_lit0 {w : World} {B : Nat} (hB : B ≤ w.heap.size) : (w.alloc (.cells #[] 3)).ownsRow B 3 1 (.slice (some ⟨w.heap.size, 0, none⟩) 0 0) 0 [] :=
  ⟨rfl, .inr ⟨w.heap.size, 0, #[], rfl, hB, heap_alloc_new _ _, by simp, by unfold maxLen; omega, by simp, by simp⟩⟩

theorem own_al {w : World} {base : Nat} {e : TypeId} {size n : Nat} {v : Value} {xs : List Value} (h : w.ownsRow base e size v n xs) (o : Obj) : (w.alloc o).ownsRow base e size v n xs := own_below ((Below.refl _ _).alloc (Nat.le_refl _) _) h

set_option maxHeartbeats 4000000 in
theorem rpush_ok (L : List Int) (hL : L.length ≤ 4096) (m : Nat) (x : Int) {w : World} {B : Nat} {v : Value} (hB : B ≤ w.heap.size) (h : w.ownsRow B 3 1 v L.length (vsi L)) :
    Calls Try.prog 22 #[.agg #[v, .int .i64 m], .int .i64 x] w fun e w' =>
      PushPost w' B m (pushI m L x) (decide (L.length < m)) e ∧ Below w.heap.size w w' := by
  obtain ⟨i0, hi, hz0, hz1, hz2⟩ := info_parts rinfo
  obtain ⟨a, c, rfl⟩ := own_slice h
  by_cases hlt : L.length < m
  · have hP : pushI m L x = L ++ [x] := by unfold pushI; rw [if_pos hlt]
    have hD : decide (L.length < m) = true := by simpa using hlt
    rw [hP, hD]
    clear hP hD
    have g1 : ¬ (m : Int) ≤ (L.length : Int) := by omega
    go_enter Try.func22, Try.ntmps22
    go_upto_region 3 with fail
    have hb0 : Below w.heap.size w ((w.alloc (.cells #[.slice a L.length c, .int .i64 m] 29)).alloc (.cells #[.slice none 0 0, .int .i64 0] 29)) := ((Below.refl _ _).alloc (Nat.le_refl _) _).alloc (by simp) _
    have hx0 : ((w.alloc (.cells #[.slice a L.length c, .int .i64 m] 29)).alloc (.cells #[.slice none 0 0, .int .i64 0] 29)).heap[w.heap.size]? = some (.cells #[.slice a L.length c, .int .i64 m] 29 (0, 0)) := by rw [Below.heap_alloc _ _ _ (by simp)]; exact heap_alloc_new _ _
    have hx1 : ((w.alloc (.cells #[.slice a L.length c, .int .i64 m] 29)).alloc (.cells #[.slice none 0 0, .int .i64 0] 29)).heap[w.heap.size + 1]? = some (.cells #[.slice none 0 0, .int .i64 0] 29 (0, 0)) := by simpa only [World.size_alloc] using heap_alloc_new (w.alloc (.cells #[.slice a L.length c, .int .i64 m] 29)) (.cells #[.slice none 0 0, .int .i64 0] 29)
    have hsz : ((w.alloc (.cells #[.slice a L.length c, .int .i64 m] 29)).alloc (.cells #[.slice none 0 0, .int .i64 0] 29)).heap.size = w.heap.size + 2 := by simp
    have hW := own_below hb0 h
    have hc0 : ((w.alloc (.cells #[.slice a L.length c, .int .i64 m] 29)).alloc (.cells #[.slice none 0 0, .int .i64 0] 29)).cell? ⟨w.heap.size, 0, none⟩ = some (.slice a L.length c) := by unfold World.cell?; rw [hx0]; rfl
    have hc1 : ((w.alloc (.cells #[.slice a L.length c, .int .i64 m] 29)).alloc (.cells #[.slice none 0 0, .int .i64 0] 29)).cell? ⟨w.heap.size, 1, none⟩ = some (.int .i64 m) := by unfold World.cell?; rw [hx0]; rfl
    generalize ((w.alloc (.cells #[.slice a L.length c, .int .i64 m] 29)).alloc (.cells #[.slice none 0 0, .int .i64 0] 29)) = W at *
    generalize hbw : w.heap.size = b at *
    replace hbw := hid hbw
    have hs2 : b + 2 ≤ W.heap.size := by omega
    clear hsz
    have hLs := own_src hW
    have hWB : B ≤ W.heap.size := by omega
    have hbW : b ≤ W.heap.size := by omega
    have r0 : W.cell? ⟨b + 1, 0, none⟩ = some (.slice none 0 0) := by unfold World.cell?; rw [hx1]; rfl
    have r1 : W.cell? ⟨b + 1, 1, none⟩ = some (.int .i64 0) := by unfold World.cell?; rw [hx1]; rfl
    have f0 : W.frozen? ⟨b + 1, 0, none⟩ = false := by unfold World.frozen?; rw [hx1]; rfl
    have f1 : W.frozen? ⟨b + 1, 1, none⟩ = false := by unfold World.frozen?; rw [hx1]; rfl
    have B1 : Below W.heap.size W (W.alloc (.cells #[] 3)).drew := ((Below.refl _ _).alloc (Nat.le_refl _) _).drew
    have B2 : Below W.heap.size W ((W.alloc (.cells #[] 3)).alloc (.cells #[.int .i64 x] 3)).drew := (((Below.refl _ _).alloc (Nat.le_refl _) _).alloc (by simp) _).drew
    have B3 : Below W.heap.size W ((W.alloc (.cells #[.int .i64 x] 3)).alloc (.cells #[] 3)).drew := (((Below.refl _ _).alloc (Nat.le_refl _) _).alloc (by simp) _).drew
    have D1 : (W.alloc (.cells #[] 3)).drew.heap[W.heap.size]? = some (.cells #[] 3 (0, 0)) := heap_alloc_new W _
    have D2 : ((W.alloc (.cells #[] 3)).alloc (.cells #[.int .i64 x] 3)).drew.heap[W.heap.size]? = some (.cells #[] 3 (0, 0)) := (Below.heap_alloc _ _ _ (by simp)).trans (heap_alloc_new W _)
    have D3 : ((W.alloc (.cells #[.int .i64 x] 3)).alloc (.cells #[] 3)).drew.heap[W.heap.size + 1]? = some (.cells #[] 3 (0, 0)) := by
      have := heap_alloc_new (W.alloc (.cells #[.int .i64 x] 3)) (.cells #[] 3)
      simp only [World.size_alloc] at this
      exact this
    have S1 : W.heap.size ≤ (W.alloc (.cells #[] 3)).drew.heap.size := B1.size
    have X2 : ((W.alloc (.cells #[] 3)).alloc (.cells #[.int .i64 x] 3)).drew.cell? ⟨W.heap.size + 1, 0, none⟩ = some (.int .i64 x) := by
      have := cell_one_new (W.alloc (.cells #[] 3)) (.int .i64 x) 3 0 _ rfl
      simp only [World.size_alloc] at this
      exact this
    have X3 : ((W.alloc (.cells #[.int .i64 x] 3)).alloc (.cells #[] 3)).drew.cell? ⟨W.heap.size, 0, none⟩ = some (.int .i64 x) := cell_later (((Below.refl _ _).alloc (Nat.le_refl _) _).drew) (cell_one_new W (.int .i64 x) 3 0 _ rfl)
    have N2 : some (W.heap.size + 1) ≠ some W.heap.size := by simp
    have N3 : some W.heap.size ≠ some (W.heap.size + 1) := by simp
    have keep1 : ∀ {wx w1 : World} {d : Nat}, Below W.heap.size W wx → wx.grownBy w1 (some d) → W.heap.size ≤ d → Below W.heap.size W w1 := fun h1 h2 h3 => h1.grown h2 h1.size (fun k e => by cases e; exact h3)
    go_region_held3 (fun w' => w'.cell? ⟨b, 0, none⟩ = some (.slice a L.length c) ∧ w'.cell? ⟨b, 1, none⟩ = some (.int .i64 m)) (go_keep) (first | (refine step_lit rfl (.tmp 13) (.tmp 15) 27 rfl W.heap.size Try.underlying27 hi hz0 hz1 hz2 rfl _ (.slice a L.length c) (vsi L) rfl rfl (by first | exact D1 | exact D2 | exact D3) (by omega) (by rw [vsi_len]; exact hLs.near (by first | exact B1 | exact B2 | exact B3)) (by rw [vsi_len]; unfold maxLen; omega) (by rw [vsi_len]; omega) ?_; intro v1 w1 ho1 hg1; have hb1 : Below W.heap.size W w1 := keep1 (by first | exact B1 | exact B2 | exact B3) hg1 (by omega); have k0 := (hb1.cell (p := ⟨b, 0, none⟩) (by show b < _; omega)).trans hc0; have k1 := (hb1.cell (p := ⟨b, 1, none⟩) (by show b < _; omega)).trans hc1; have q0 := (hb1.cell (p := ⟨b + 1, 0, none⟩) (by show b + 1 < _; omega)).trans r0; have q1 := (hb1.cell (p := ⟨b + 1, 1, none⟩) (by show b + 1 < _; omega)).trans r1; first | (have kx := cell_far hg1 X2 N2) | (have kx := cell_far hg1 X3 N3) | skip) | (refine step_app (n := L.length) (m := 1) (xs := vsi L) (news := [.int .i64 x]) rfl (.tmp 16) (.tmp 18) 27 rfl W.heap.size Try.underlying27 hi hz0 hz1 hz2 rfl _ _ rfl rfl (by rw [vsi_len] at ho1; first | exact ho1 | exact own_al ho1 _) (by first | exact src_one kx rfl | exact src_one (cell_one_new _ _ _ 0 _ rfl) rfl) (by unfold maxLen; omega) (by omega) (by first | exact hb1.size | exact Nat.le_trans hb1.size (by simp)) ?_; intro v2 w2 ho2 hg2; have hb2 : Below W.heap.size W w2 := (by rw [vsi_len] at ho1; first | exact hb1.grown hg2 hb1.size (fun k e => (ho1.lt k e).1) | exact (hb1.alloc hb1.size _).grown hg2 (Nat.le_trans hb1.size (by simp)) (fun k e => (ho1.lt k e).1)); clear k0 k1 q0 q1; obtain ⟨a2, c2, rfl⟩ := own_slice ho2; have k0 := (hb2.cell (p := ⟨b, 0, none⟩) (by show b < _; omega)).trans hc0; have k1 := (hb2.cell (p := ⟨b, 1, none⟩) (by show b < _; omega)).trans hc1; have q0 := (hb2.cell (p := ⟨b + 1, 0, none⟩) (by show b + 1 < _; omega)).trans r0; have q1 := (hb2.cell (p := ⟨b + 1, 1, none⟩) (by show b + 1 < _; omega)).trans r1; have y0 := (hb2.frozen (p := ⟨b + 1, 0, none⟩) (by show b + 1 < _; omega)).trans f0; have y1 := (hb2.frozen (p := ⟨b + 1, 1, none⟩) (by show b + 1 < _; omega)).trans f1))
    all_goals
      go_wp2
      have o3 := ownsRow_setCell_below (ownsRow_setCell_below ho2 (a := ⟨b + 1, 0, none⟩) (by show b + 1 < _; omega) (.slice a2 (L.length + 1) c2)) (a := ⟨b + 1, 1, none⟩) (by show b + 1 < _; omega) (.int .i64 m)
      have e3 : vsi L ++ [.int .i64 x] = vsi (L ++ [x]) := by simp [vsi]
      rw [e3] at o3
      refine bodyPost_ret (v := .tuple #[.agg #[.slice a2 (L.length + 1) c2, .int .i64 m], .bool true]) ?_ rfl ⟨⟨_, rfl, own_mono hWB (by rw [List.length_append]; exact o3)⟩, by rw [hbw.out]; exact ((hb0.trans (hb2.mono hbW)).setCell (Nat.le_succ b) _).setCell (Nat.le_succ b) _⟩
      simp [results, Try.results22, go_sem, q0, q1]
  · have hP : pushI m L x = L := by unfold pushI; rw [if_neg hlt]
    have hD : decide (L.length < m) = false := by simpa using hlt
    rw [hP, hD]
    clear hP hD
    have g1 : (m : Int) ≤ (L.length : Int) := by omega
    go_enter Try.func22, Try.ntmps22
    go_wp2
    have hb0 : Below w.heap.size w ((w.alloc (.cells #[.slice a L.length c, .int .i64 m] 29)).alloc (.cells #[.slice a L.length c, .int .i64 m] 29)) := ((Below.refl _ _).alloc (Nat.le_refl _) _).alloc (by simp) _
    refine bodyPost_ret (v := .tuple #[.agg #[.slice a L.length c, .int .i64 m], .bool false]) ?_ rfl ⟨⟨_, rfl, own_below hb0 h⟩, hb0⟩
    simp [results, Try.results22, go_sem]

end Go.Proofs.Ytekacaocijfepaa
