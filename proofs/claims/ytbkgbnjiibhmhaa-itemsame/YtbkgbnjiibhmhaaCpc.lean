/-
  item.Copy: THE SAME ITEM, ITS LISTS IN MEMORY OF THEIR OWN. Conditions: how much there is.
-/
import Derived.Test.YtbkgbnjiibhmhaaCpy
namespace Go.Proofs.Ytbkgbnjiibhmhaa
open Go.ChangeShapes Go.WideShapes Go.ChangeAt Go.RowKit Go.Lib
set_option linter.unusedVariables false
set_option linter.unusedSimpArgs false
set_option maxRecDepth 20000

theorem below_setRow {B : Nat} {a w : World} (h : Below B a w) {g : Nat} (hg : B ≤ g) (cs : Array Value) : Below B a (w.setRow g cs) :=
  ⟨h.os, h.tape, h.output, by have := h.size; simpa [World.setRow] using this, fun k hk => (setRow_other w g k cs (by omega)).trans (h.block k hk)⟩
theorem Blk.other {w : World} {g k i : Nat} {cs : Array Value} {t : TypeId} (h : Blk w g cs t) (hne : g ≠ k) (v : Value) : Blk (w.setCell ⟨k, i, none⟩ v) g cs t := by
  unfold Blk at *
  rw [Below.heap_setCell w ⟨k, i, none⟩ v g hne]; exact h
theorem own_setCell {w : World} {B g i : Nat} {e : TypeId} {size n : Nat} {v : Value} {xs : List Value} (h : w.ownsRow B e size v n xs) (hg : g < B) (u : Value) : (w.setCell ⟨g, i, none⟩ u).ownsRow B e size v n xs := by
  obtain ⟨h1, h2 | ⟨k, cap, cur, hv, hbs, hk, hr⟩⟩ := h
  · exact ⟨h1, .inl h2⟩
  · refine ⟨h1, .inr ⟨k, cap, cur, hv, hbs, ?_, hr⟩⟩
    rw [Below.heap_setCell w ⟨g, i, none⟩ u k (by show k ≠ g; omega)]; exact hk
theorem own_setRow {w : World} {B g : Nat} {e : TypeId} {size n : Nat} {v : Value} {xs : List Value} (h : w.ownsRow B e size v n xs) (hg : g < B) (cs : Array Value) : (w.setRow g cs).ownsRow B e size v n xs := by
  obtain ⟨h1, h2 | ⟨k, cap, cur, hv, hbs, hk, hr⟩⟩ := h
  · exact ⟨h1, .inl h2⟩
  · refine ⟨h1, .inr ⟨k, cap, cur, hv, hbs, ?_, hr⟩⟩
    rw [setRow_other w g k cs (by omega)]; exact hk

theorem it_one (h : Hd) (a b : Option Addr) (n c m f : Nat) : (h.it (.slice a n c) (.slice b m f)).all (·.oneCell') = true := by kernel_rfl

abbrev zI : Array Value := #[.int .i64 0, .string ⟨#[]⟩, .string ⟨#[]⟩, .int .i64 0, .int .i64 0, .int .i64 0, .int .i64 0, .int .i64 0, .int .i64 0, .string ⟨#[]⟩, .string ⟨#[]⟩, .int .i64 0, .int .i64 0, .slice none 0 0, .slice none 0 0]

set_option maxHeartbeats 8000000 in
theorem copy_ok {w : World} {a d : Option Addr} {n c m f : Nat} {l : PL} {s : List Int} (h : Hd) (hp : Pys w a n c l) (hnl : a = none → n = 0 ∧ c = 0) (hn : n ≤ 1000000) (hd : Bys w d m f s) (hdl : d = none → m = 0 ∧ f = 0) (hm : m ≤ 1000000) :
    Calls Try.prog 11 #[.agg (h.it (.slice a n c) (.slice d m f))] w fun e w' => ∃ x y, e = .returned (.agg (h.it x y)) ∧ w'.ownsRow (w.heap.size + 2) 37 2 x n (pcs2 l) ∧ w'.ownsRow (w.heap.size + 2) 5 1 y m (u8s s) ∧ Below w.heap.size w w' := by
  have hac := (two_new w (.cells (h.it (.slice a n c) (.slice d m f)) 29) (.cells zI 29)).1
  have hZ : Blk ((w.alloc (.cells (h.it (.slice a n c) (.slice d m f)) 29)).alloc (.cells zI 29)) (w.heap.size + 1) zI 29 := (two_new w _ _).2
  have hX : Blk ((w.alloc (.cells (h.it (.slice a n c) (.slice d m f)) 29)).alloc (.cells zI 29)) w.heap.size (h.it (.slice a n c) (.slice d m f)) 29 := by
    have b : Blk (w.alloc (.cells (h.it (.slice a n c) (.slice d m f)) 29)) w.heap.size (h.it (.slice a n c) (.slice d m f)) 29 := heap_alloc_new _ _
    exact b.below (below_alloc _ _)
  have hsz : ((w.alloc (.cells (h.it (.slice a n c) (.slice d m f)) 29)).alloc (.cells zI 29)).heap.size = w.heap.size + 2 := by simp
  have hc1 := clonep_ok (hp.below hac) hnl hn
  rw [hsz] at hc1
  have hc2 := fun (wr : World) (hb : Below w.heap.size w wr) => cloneb_ok (hd.below hb) hdl hm
  have hinf : (Try.prog.info? 29).map (·.size) = some 15 := by kernel_rfl
  have hl := hid hp.1
  have hs1 := hid hd.1
  have hs2 := hid hd.2.2.2.1
  clear hp hnl hdl hd
  unfold Hd.it at hac hZ hX hc1 hsz ⊢
  unfold zI at hac hZ hX hc1 hsz
  go_enter Try.func11, Try.ntmps11
  go_upto_region 2 with (go_at_call 26; refine hc1.mono ?_; rintro e w1 ⟨x, rfl, hox, hb1⟩; replace hX := hX.below (hsz ▸ hb1); replace hZ := hZ.below (hsz ▸ hb1); replace hac := hac.trans (hb1.mono (by omega)); obtain ⟨ax, cx, rfl, -⟩ := own_pys hox hl.out; have yy := hX.free 13; have y2 := hX.free 14; (have xx : w1.cell? ⟨w.heap.size, 13, none⟩ = some (.slice a n c) := hX.cell 13); (have x2 : w1.cell? ⟨w.heap.size, 14, none⟩ = some (.slice d m f) := hX.cell 14))
  have hX2 : Blk (w1.setCell ⟨w.heap.size, 13, none⟩ (.slice ax n cx)) w.heap.size (h.it (.slice ax n cx) (.slice d m f)) 29 := hX.set (i := 13) (.slice ax n cx)
  have hZ2 := hZ.other (k := w.heap.size) (i := 13) (by omega) (.slice ax n cx)
  have ho2 := own_setCell (i := 13) hox (show w.heap.size < w.heap.size + 2 by omega) (.slice ax n cx)
  have hac2 : Below w.heap.size w (w1.setCell ⟨w.heap.size, 13, none⟩ (.slice ax n cx)) := hac.setCell (p := ⟨w.heap.size, 13, none⟩) (Nat.le_refl _) _
  have hge : w.heap.size + 2 ≤ w1.heap.size := hsz ▸ hb1.size
  clear hX hZ hox hac hb1 yy xx y2 x2 hc1
  obtain ⟨W2, hW2⟩ : ∃ W2, W2 = w1.setCell ⟨w.heap.size, 13, none⟩ (.slice ax n cx) := ⟨_, rfl⟩
  have hge2 : w.heap.size + 2 ≤ W2.heap.size := by rw [hW2]; simpa using hge
  rw [← hW2] at hX2 hZ2 ho2 hac2 ⊢
  have hcb := hc2 W2 hac2
  clear hW2 hge hc2 hsz
  have y2 := hX2.free 14
  have x2 : W2.cell? ⟨w.heap.size, 14, none⟩ = some (.slice d m f) := hX2.cell 14
  go_upto_region 3 with (go_at_call 27; refine hcb.mono ?_; rintro e w3 ⟨y, rfl, hoy, hb3⟩; replace hX2 := hX2.below hb3; replace hZ2 := hZ2.below hb3; replace ho2 := own_below hb3 ho2; replace hac2 := hac2.trans (hb3.mono hac2.size); obtain ⟨ay, cy, rfl, -⟩ := own_bys hoy hs1.out hs2.out; have y3 := hX2.free 14; (have x3 : w3.cell? ⟨w.heap.size, 14, none⟩ = some (.slice d m f) := hX2.cell 14))
  have hX4 : Blk (w3.setCell ⟨w.heap.size, 14, none⟩ (.slice ay m cy)) w.heap.size (h.it (.slice ax n cx) (.slice ay m cy)) 29 := hX2.set (i := 14) (.slice ay m cy)
  have hZ4 := hZ2.other (k := w.heap.size) (i := 14) (by omega) (.slice ay m cy)
  have ho4 := own_setCell (i := 14) ho2 (show w.heap.size < w.heap.size + 2 by omega) (.slice ay m cy)
  have hoy4 := own_setCell (i := 14) (own_mono hge2 hoy) (show w.heap.size < w.heap.size + 2 by omega) (.slice ay m cy)
  have hac4 : Below w.heap.size w (w3.setCell ⟨w.heap.size, 14, none⟩ (.slice ay m cy)) := hac2.setCell (p := ⟨w.heap.size, 14, none⟩) (Nat.le_refl _) _
  clear hX2 hZ2 ho2 hoy hac2 y2 x2 y3 x3 hb3 hcb
  generalize w3.setCell ⟨w.heap.size, 14, none⟩ (.slice ay m cy) = W4 at *
  have hone := it_one h ax ay n cx m cy
  go_wp2_with (first
    | (refine wpList_load_row (P := Try.prog) rfl 29 (.tmp 1) rfl w.heap.size rfl 29 _ (0, 0) _ hX4 Try.underlying29 rfl hinf ?_)
    | (refine wpList_store_row (P := Try.prog) rfl 29 (.tmp 2) (.tmp 13) rfl (w.heap.size + 1) (h.it (.slice ax n cx) (.slice ay m cy)) rfl rfl 29 zI hZ4 hinf rfl hone ?_))
  refine bodyPost_ret (v := .agg (h.it (.slice ax n cx) (.slice ay m cy))) (results_cell_row (P := Try.prog) Try.results11 _ _ (w.heap.size + 1) 29 (h.it (.slice ax n cx) (.slice ay m cy)) (0, 0) _ rfl (setRow_heap _ _ _ _ 29 (0, 0) hZ4) Try.underlying29 rfl hinf) rfl ⟨_, _, rfl, own_setRow ho4 (by omega) _, own_setRow hoy4 (by omega) _, below_setRow hac4 (by omega) _⟩

end Go.Proofs.Ytbkgbnjiibhmhaa
