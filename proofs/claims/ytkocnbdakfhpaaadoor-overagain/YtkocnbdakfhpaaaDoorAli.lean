/-
  THE CHAPTER's EXAMPLE OF OVERLAYS, as the statements ask for it: it holds. Conditions: what the listed variables hold.
-/
import Derived.Test.YtkocnbdakfhpaaaDoorOrt
import Derived.Test.YtkocnbdakfhpaaaDoorLal
import Derived.Test.YtkocnbdakfhpaaaDoorLive
namespace Go.Proofs.YtkocnbdakfhpaaaDoor
open Go.ChangeShapes Go.WideShapes Go.ChangeAt Go.RowKit Go.Lib
set_option linter.unusedVariables false
set_option linter.unusedSimpArgs false
set_option maxRecDepth 20000

set_option maxHeartbeats 2000000 in
theorem say_path (v : ByteArray) {w : World} {g : Nat} {H : Array Value} (hH : Blk w g H 52) (hs : H.size = 14) :
    Calls Tryd.prog 39 #[.pointer (some ⟨g, 0, none⟩), .agg #[.string ⟨#[112, 97, 116, 104]⟩, .string v]] w fun e w' => e = .returned (.tuple #[]) ∧ Blk w' g (H.setIfInBounds 1 (.string v)) 52 ∧ (∀ B, B ≤ g → Below B w w') ∧ ∀ k, k ≠ g → k < w.heap.size → w'.heap[k]? = w.heap[k]? := by
  have hlt := hH.lt
  have hA : Blk (w.alloc (.cells #[.string ⟨#[112, 97, 116, 104]⟩, .string v] 37)) g H 52 := hH.below ((Below.refl w.heap.size w).alloc (Nat.le_refl _) _)
  have y1 := hA.free 1
  obtain ⟨u, x1⟩ : ∃ u, (w.alloc (.cells #[.string ⟨#[112, 97, 116, 104]⟩, .string v] 37)).cell? ⟨g, 1, none⟩ = some u := ⟨_, (hA.cell 1).trans (Array.getElem?_eq_getElem (by omega))⟩
  have hS := (hH.set (i := 1) (.string v)).below ((Below.refl _ (w.setCell ⟨g, 1, none⟩ (.string v))).alloc (Nat.le_refl _) (.cells #[.string ⟨#[112, 97, 116, 104]⟩, .string v] 37))
  have hbel : ∀ B, B ≤ g → Below B w ((w.setCell ⟨g, 1, none⟩ (.string v)).alloc (.cells #[.string ⟨#[112, 97, 116, 104]⟩, .string v] 37)) := fun B hB => ((Below.refl B w).setCell hB _).alloc (by simp; omega) _
  have hoth : ∀ k, k ≠ g → k < w.heap.size → ((w.setCell ⟨g, 1, none⟩ (.string v)).alloc (.cells #[.string ⟨#[112, 97, 116, 104]⟩, .string v] 37)).heap[k]? = w.heap[k]? := fun k hk hkl => by
    rw [Below.heap_alloc _ _ k (by simpa using hkl), Below.heap_setCell w ⟨g, 1, none⟩ _ k hk]
  clear hH hA hs
  go_enter Tryd.func39, Tryd.ntmps39
  go_wp2
  exact bodyPost_end (v := .tuple #[]) (by simp [results, Tryd.results39]) rfl ⟨rfl, hS, hbel, hoth⟩

theorem blk14 {w : World} {g : Nat} {t : TypeId} {h0 h1 h2 h3 h4 h5 h6 h7 h8 h9 h10 h11 h12 h13 : Value} (h : Blk w g #[h0, h1, h2, h3, h4, h5, h6, h7, h8, h9, h10, h11, h12, h13] t) :
    w.cell? ⟨g, 0, none⟩ = some h0 ∧ w.cell? ⟨g, 1, none⟩ = some h1 ∧ w.cell? ⟨g, 2, none⟩ = some h2 ∧ w.cell? ⟨g, 3, none⟩ = some h3 ∧ w.cell? ⟨g, 4, none⟩ = some h4 ∧ w.cell? ⟨g, 5, none⟩ = some h5 ∧ w.cell? ⟨g, 6, none⟩ = some h6 ∧ w.cell? ⟨g, 7, none⟩ = some h7 ∧ w.cell? ⟨g, 8, none⟩ = some h8 ∧ w.cell? ⟨g, 9, none⟩ = some h9 ∧ w.cell? ⟨g, 10, none⟩ = some h10 ∧ w.cell? ⟨g, 11, none⟩ = some h11 ∧ w.cell? ⟨g, 12, none⟩ = some h12 ∧ w.cell? ⟨g, 13, none⟩ = some h13 := by
  refine ⟨h.cell 0, h.cell 1, h.cell 2, h.cell 3, h.cell 4, h.cell 5, h.cell 6, h.cell 7, h.cell 8, h.cell 9, h.cell 10, h.cell 11, h.cell 12, h.cell 13⟩
theorem free14 {w : World} {g : Nat} {t : TypeId} {cs : Array Value} (h : Blk w g cs t) :
    w.frozen? ⟨g, 0, none⟩ = false ∧ w.frozen? ⟨g, 1, none⟩ = false ∧ w.frozen? ⟨g, 2, none⟩ = false ∧ w.frozen? ⟨g, 3, none⟩ = false ∧ w.frozen? ⟨g, 4, none⟩ = false ∧ w.frozen? ⟨g, 5, none⟩ = false ∧ w.frozen? ⟨g, 6, none⟩ = false ∧ w.frozen? ⟨g, 7, none⟩ = false ∧ w.frozen? ⟨g, 8, none⟩ = false ∧ w.frozen? ⟨g, 9, none⟩ = false ∧ w.frozen? ⟨g, 10, none⟩ = false ∧ w.frozen? ⟨g, 11, none⟩ = false ∧ w.frozen? ⟨g, 12, none⟩ = false ∧ w.frozen? ⟨g, 13, none⟩ = false := ⟨h.free 0, h.free 1, h.free 2, h.free 3, h.free 4, h.free 5, h.free 6, h.free 7, h.free 8, h.free 9, h.free 10, h.free 11, h.free 12, h.free 13⟩

theorem fill14 {w : World} {g : Nat} {t : TypeId} {z0 z1 z2 z3 z4 z5 z6 z7 z8 z9 z10 z11 z12 z13 : Value} (h : Blk w g #[z0, z1, z2, z3, z4, z5, z6, z7, z8, z9, z10, z11, z12, z13] t) (v0 v1 v2 v3 v4 v5 v6 v7 v8 v9 v10 v11 v12 v13 : Value) :
    Blk ((((((((((((((w.setCell ⟨g, 0, none⟩ v0).setCell ⟨g, 1, none⟩ v1).setCell ⟨g, 2, none⟩ v2).setCell ⟨g, 3, none⟩ v3).setCell ⟨g, 4, none⟩ v4).setCell ⟨g, 5, none⟩ v5).setCell ⟨g, 6, none⟩ v6).setCell ⟨g, 7, none⟩ v7).setCell ⟨g, 8, none⟩ v8).setCell ⟨g, 9, none⟩ v9).setCell ⟨g, 10, none⟩ v10).setCell ⟨g, 11, none⟩ v11).setCell ⟨g, 12, none⟩ v12).setCell ⟨g, 13, none⟩ v13) g #[v0, v1, v2, v3, v4, v5, v6, v7, v8, v9, v10, v11, v12, v13] t := by
  have k0 : Blk (w.setCell ⟨g, 0, none⟩ v0) g #[v0, z1, z2, z3, z4, z5, z6, z7, z8, z9, z10, z11, z12, z13] t := h.set (i := 0) v0
  have k1 : Blk ((w.setCell ⟨g, 0, none⟩ v0).setCell ⟨g, 1, none⟩ v1) g #[v0, v1, z2, z3, z4, z5, z6, z7, z8, z9, z10, z11, z12, z13] t := k0.set (i := 1) v1
  have k2 : Blk (((w.setCell ⟨g, 0, none⟩ v0).setCell ⟨g, 1, none⟩ v1).setCell ⟨g, 2, none⟩ v2) g #[v0, v1, v2, z3, z4, z5, z6, z7, z8, z9, z10, z11, z12, z13] t := k1.set (i := 2) v2
  have k3 : Blk ((((w.setCell ⟨g, 0, none⟩ v0).setCell ⟨g, 1, none⟩ v1).setCell ⟨g, 2, none⟩ v2).setCell ⟨g, 3, none⟩ v3) g #[v0, v1, v2, v3, z4, z5, z6, z7, z8, z9, z10, z11, z12, z13] t := k2.set (i := 3) v3
  have k4 : Blk (((((w.setCell ⟨g, 0, none⟩ v0).setCell ⟨g, 1, none⟩ v1).setCell ⟨g, 2, none⟩ v2).setCell ⟨g, 3, none⟩ v3).setCell ⟨g, 4, none⟩ v4) g #[v0, v1, v2, v3, v4, z5, z6, z7, z8, z9, z10, z11, z12, z13] t := k3.set (i := 4) v4
  have k5 : Blk ((((((w.setCell ⟨g, 0, none⟩ v0).setCell ⟨g, 1, none⟩ v1).setCell ⟨g, 2, none⟩ v2).setCell ⟨g, 3, none⟩ v3).setCell ⟨g, 4, none⟩ v4).setCell ⟨g, 5, none⟩ v5) g #[v0, v1, v2, v3, v4, v5, z6, z7, z8, z9, z10, z11, z12, z13] t := k4.set (i := 5) v5
  have k6 : Blk (((((((w.setCell ⟨g, 0, none⟩ v0).setCell ⟨g, 1, none⟩ v1).setCell ⟨g, 2, none⟩ v2).setCell ⟨g, 3, none⟩ v3).setCell ⟨g, 4, none⟩ v4).setCell ⟨g, 5, none⟩ v5).setCell ⟨g, 6, none⟩ v6) g #[v0, v1, v2, v3, v4, v5, v6, z7, z8, z9, z10, z11, z12, z13] t := k5.set (i := 6) v6
  have k7 : Blk ((((((((w.setCell ⟨g, 0, none⟩ v0).setCell ⟨g, 1, none⟩ v1).setCell ⟨g, 2, none⟩ v2).setCell ⟨g, 3, none⟩ v3).setCell ⟨g, 4, none⟩ v4).setCell ⟨g, 5, none⟩ v5).setCell ⟨g, 6, none⟩ v6).setCell ⟨g, 7, none⟩ v7) g #[v0, v1, v2, v3, v4, v5, v6, v7, z8, z9, z10, z11, z12, z13] t := k6.set (i := 7) v7
  have k8 : Blk (((((((((w.setCell ⟨g, 0, none⟩ v0).setCell ⟨g, 1, none⟩ v1).setCell ⟨g, 2, none⟩ v2).setCell ⟨g, 3, none⟩ v3).setCell ⟨g, 4, none⟩ v4).setCell ⟨g, 5, none⟩ v5).setCell ⟨g, 6, none⟩ v6).setCell ⟨g, 7, none⟩ v7).setCell ⟨g, 8, none⟩ v8) g #[v0, v1, v2, v3, v4, v5, v6, v7, v8, z9, z10, z11, z12, z13] t := k7.set (i := 8) v8
  have k9 : Blk ((((((((((w.setCell ⟨g, 0, none⟩ v0).setCell ⟨g, 1, none⟩ v1).setCell ⟨g, 2, none⟩ v2).setCell ⟨g, 3, none⟩ v3).setCell ⟨g, 4, none⟩ v4).setCell ⟨g, 5, none⟩ v5).setCell ⟨g, 6, none⟩ v6).setCell ⟨g, 7, none⟩ v7).setCell ⟨g, 8, none⟩ v8).setCell ⟨g, 9, none⟩ v9) g #[v0, v1, v2, v3, v4, v5, v6, v7, v8, v9, z10, z11, z12, z13] t := k8.set (i := 9) v9
  have k10 : Blk (((((((((((w.setCell ⟨g, 0, none⟩ v0).setCell ⟨g, 1, none⟩ v1).setCell ⟨g, 2, none⟩ v2).setCell ⟨g, 3, none⟩ v3).setCell ⟨g, 4, none⟩ v4).setCell ⟨g, 5, none⟩ v5).setCell ⟨g, 6, none⟩ v6).setCell ⟨g, 7, none⟩ v7).setCell ⟨g, 8, none⟩ v8).setCell ⟨g, 9, none⟩ v9).setCell ⟨g, 10, none⟩ v10) g #[v0, v1, v2, v3, v4, v5, v6, v7, v8, v9, v10, z11, z12, z13] t := k9.set (i := 10) v10
  have k11 : Blk ((((((((((((w.setCell ⟨g, 0, none⟩ v0).setCell ⟨g, 1, none⟩ v1).setCell ⟨g, 2, none⟩ v2).setCell ⟨g, 3, none⟩ v3).setCell ⟨g, 4, none⟩ v4).setCell ⟨g, 5, none⟩ v5).setCell ⟨g, 6, none⟩ v6).setCell ⟨g, 7, none⟩ v7).setCell ⟨g, 8, none⟩ v8).setCell ⟨g, 9, none⟩ v9).setCell ⟨g, 10, none⟩ v10).setCell ⟨g, 11, none⟩ v11) g #[v0, v1, v2, v3, v4, v5, v6, v7, v8, v9, v10, v11, z12, z13] t := k10.set (i := 11) v11
  have k12 : Blk (((((((((((((w.setCell ⟨g, 0, none⟩ v0).setCell ⟨g, 1, none⟩ v1).setCell ⟨g, 2, none⟩ v2).setCell ⟨g, 3, none⟩ v3).setCell ⟨g, 4, none⟩ v4).setCell ⟨g, 5, none⟩ v5).setCell ⟨g, 6, none⟩ v6).setCell ⟨g, 7, none⟩ v7).setCell ⟨g, 8, none⟩ v8).setCell ⟨g, 9, none⟩ v9).setCell ⟨g, 10, none⟩ v10).setCell ⟨g, 11, none⟩ v11).setCell ⟨g, 12, none⟩ v12) g #[v0, v1, v2, v3, v4, v5, v6, v7, v8, v9, v10, v11, v12, z13] t := k11.set (i := 12) v12
  have k13 : Blk ((((((((((((((w.setCell ⟨g, 0, none⟩ v0).setCell ⟨g, 1, none⟩ v1).setCell ⟨g, 2, none⟩ v2).setCell ⟨g, 3, none⟩ v3).setCell ⟨g, 4, none⟩ v4).setCell ⟨g, 5, none⟩ v5).setCell ⟨g, 6, none⟩ v6).setCell ⟨g, 7, none⟩ v7).setCell ⟨g, 8, none⟩ v8).setCell ⟨g, 9, none⟩ v9).setCell ⟨g, 10, none⟩ v10).setCell ⟨g, 11, none⟩ v11).setCell ⟨g, 12, none⟩ v12).setCell ⟨g, 13, none⟩ v13) g #[v0, v1, v2, v3, v4, v5, v6, v7, v8, v9, v10, v11, v12, v13] t := k12.set (i := 13) v13
  exact k13
theorem fill14_below {B : Nat} {a w : World} {g : Nat} (h : Below B a w) (hg : B ≤ g) (v0 v1 v2 v3 v4 v5 v6 v7 v8 v9 v10 v11 v12 v13 : Value) : Below B a ((((((((((((((w.setCell ⟨g, 0, none⟩ v0).setCell ⟨g, 1, none⟩ v1).setCell ⟨g, 2, none⟩ v2).setCell ⟨g, 3, none⟩ v3).setCell ⟨g, 4, none⟩ v4).setCell ⟨g, 5, none⟩ v5).setCell ⟨g, 6, none⟩ v6).setCell ⟨g, 7, none⟩ v7).setCell ⟨g, 8, none⟩ v8).setCell ⟨g, 9, none⟩ v9).setCell ⟨g, 10, none⟩ v10).setCell ⟨g, 11, none⟩ v11).setCell ⟨g, 12, none⟩ v12).setCell ⟨g, 13, none⟩ v13) := ((((((((((((((h.setCell (p := ⟨g, 0, none⟩) hg v0).setCell (p := ⟨g, 1, none⟩) hg v1).setCell (p := ⟨g, 2, none⟩) hg v2).setCell (p := ⟨g, 3, none⟩) hg v3).setCell (p := ⟨g, 4, none⟩) hg v4).setCell (p := ⟨g, 5, none⟩) hg v5).setCell (p := ⟨g, 6, none⟩) hg v6).setCell (p := ⟨g, 7, none⟩) hg v7).setCell (p := ⟨g, 8, none⟩) hg v8).setCell (p := ⟨g, 9, none⟩) hg v9).setCell (p := ⟨g, 10, none⟩) hg v10).setCell (p := ⟨g, 11, none⟩) hg v11).setCell (p := ⟨g, 12, none⟩) hg v12).setCell (p := ⟨g, 13, none⟩) hg v13)

theorem ex_ov : ovB none [((⟨#[112, 97, 116, 104]⟩ : ByteArray), (⟨#[97]⟩ : ByteArray))] = true := by decide +kernel

set_option maxHeartbeats 8000000 in
theorem apply_path {w : World} {b c : Nat} (hp : Pys w (some ⟨b, 0, none⟩) 1 c [(⟨#[112, 97, 116, 104]⟩, ⟨#[97]⟩)]) (hL : Laid w) (a0 : Int) (s1 s2 : ByteArray) (a3 a4 a5 a6 a7 a8 : Int) (s9 s10 : ByteArray) (a11 a12 : Int) (xa : Option Addr) (xn xc : Nat) :
    Calls Tryd.prog 24 #[.agg #[.int .i64 a0, .string s1, .string s2, .int .i64 a3, .int .i64 a4, .int .i64 a5, .int .i64 a6, .int .i64 a7, .int .i64 a8, .string s9, .string s10, .int .i64 a11, .int .i64 a12, .slice xa xn xc], .slice (some ⟨b, 0, none⟩) 1 c] w fun e w' => e = .returned (.tuple #[.agg #[.int .i64 a0, .string ⟨#[97]⟩, .string s2, .int .i64 a3, .int .i64 a4, .int .i64 a5, .int .i64 a6, .int .i64 a7, .int .i64 a8, .string s9, .string s10, .int .i64 a11, .int .i64 a12, .slice none 0 0], .int .u8 0]) ∧ Below w.heap.size w w' := by
  have hb0 := ((Below.refl w.heap.size w).alloc (Nat.le_refl _) (.cells #[.int .i64 a0, .string s1, .string s2, .int .i64 a3, .int .i64 a4, .int .i64 a5, .int .i64 a6, .int .i64 a7, .int .i64 a8, .string s9, .string s10, .int .i64 a11, .int .i64 a12, .slice xa xn xc] 52))
  have hb1 := hb0.alloc hb0.size (.cells #[.int .i64 0, .string ⟨#[]⟩, .string ⟨#[]⟩, .int .i64 0, .int .i64 0, .int .i64 0, .int .i64 0, .int .i64 0, .int .i64 0, .string ⟨#[]⟩, .string ⟨#[]⟩, .int .i64 0, .int .i64 0, .slice none 0 0] 52)
  have hA : Blk ((w.alloc (.cells #[.int .i64 a0, .string s1, .string s2, .int .i64 a3, .int .i64 a4, .int .i64 a5, .int .i64 a6, .int .i64 a7, .int .i64 a8, .string s9, .string s10, .int .i64 a11, .int .i64 a12, .slice xa xn xc] 52)).alloc (.cells #[.int .i64 0, .string ⟨#[]⟩, .string ⟨#[]⟩, .int .i64 0, .int .i64 0, .int .i64 0, .int .i64 0, .int .i64 0, .int .i64 0, .string ⟨#[]⟩, .string ⟨#[]⟩, .int .i64 0, .int .i64 0, .slice none 0 0] 52)) w.heap.size #[.int .i64 a0, .string s1, .string s2, .int .i64 a3, .int .i64 a4, .int .i64 a5, .int .i64 a6, .int .i64 a7, .int .i64 a8, .string s9, .string s10, .int .i64 a11, .int .i64 a12, .slice xa xn xc] 52 := (Blk.new w _ _).below ((Below.refl _ _).alloc (Nat.le_refl _) _)
  have hZ : Blk ((w.alloc (.cells #[.int .i64 a0, .string s1, .string s2, .int .i64 a3, .int .i64 a4, .int .i64 a5, .int .i64 a6, .int .i64 a7, .int .i64 a8, .string s9, .string s10, .int .i64 a11, .int .i64 a12, .slice xa xn xc] 52)).alloc (.cells #[.int .i64 0, .string ⟨#[]⟩, .string ⟨#[]⟩, .int .i64 0, .int .i64 0, .int .i64 0, .int .i64 0, .int .i64 0, .int .i64 0, .string ⟨#[]⟩, .string ⟨#[]⟩, .int .i64 0, .int .i64 0, .slice none 0 0] 52)) (w.heap.size + 1) #[.int .i64 0, .string ⟨#[]⟩, .string ⟨#[]⟩, .int .i64 0, .int .i64 0, .int .i64 0, .int .i64 0, .int .i64 0, .int .i64 0, .string ⟨#[]⟩, .string ⟨#[]⟩, .int .i64 0, .int .i64 0, .slice none 0 0] 52 := by
    have := Blk.new (w.alloc (.cells #[.int .i64 a0, .string s1, .string s2, .int .i64 a3, .int .i64 a4, .int .i64 a5, .int .i64 a6, .int .i64 a7, .int .i64 a8, .string s9, .string s10, .int .i64 a11, .int .i64 a12, .slice xa xn xc] 52)) #[.int .i64 0, .string ⟨#[]⟩, .string ⟨#[]⟩, .int .i64 0, .int .i64 0, .int .i64 0, .int .i64 0, .int .i64 0, .int .i64 0, .string ⟨#[]⟩, .string ⟨#[]⟩, .int .i64 0, .int .i64 0, .slice none 0 0] 52
    rwa [show (w.alloc (.cells #[.int .i64 a0, .string s1, .string s2, .int .i64 a3, .int .i64 a4, .int .i64 a5, .int .i64 a6, .int .i64 a7, .int .i64 a8, .string s9, .string s10, .int .i64 a11, .int .i64 a12, .slice xa xn xc] 52)).heap.size = w.heap.size + 1 by simp] at this
  have hri := oright_ok (hp.below hb1) (by intro p hp; simp at hp; subst hp; exact ⟨by decide, by decide⟩) (hL.below hb1)
  rw [ex_ov] at hri
  go_enter Tryd.func24, Tryd.ntmps24
  go_wp2_with (go_at_call 17; refine hri.mono ?_; rintro e w1 ⟨rfl, hw1⟩; have hA1 := hA.below hw1; have hZ1 := hZ.below hw1; have hacc := hb1.trans (hw1.mono hb1.size); have y13 := hA1.free 13; (have x13 : w1.cell? ⟨w.heap.size, 13, none⟩ = some (.slice xa xn xc) := hA1.cell 13))
  have hA2 : Blk (w1.setCell ⟨w.heap.size, 13, none⟩ (.slice none 0 0)) w.heap.size #[.int .i64 a0, .string s1, .string s2, .int .i64 a3, .int .i64 a4, .int .i64 a5, .int .i64 a6, .int .i64 a7, .int .i64 a8, .string s9, .string s10, .int .i64 a11, .int .i64 a12, .slice none 0 0] 52 := hA1.set (i := 13) (.slice none 0 0)
  have hZ2 : Blk (w1.setCell ⟨w.heap.size, 13, none⟩ (.slice none 0 0)) (w.heap.size + 1) #[.int .i64 0, .string ⟨#[]⟩, .string ⟨#[]⟩, .int .i64 0, .int .i64 0, .int .i64 0, .int .i64 0, .int .i64 0, .int .i64 0, .string ⟨#[]⟩, .string ⟨#[]⟩, .int .i64 0, .int .i64 0, .slice none 0 0] 52 := by
    unfold Blk
    rw [Below.heap_setCell w1 ⟨w.heap.size, 13, none⟩ _ (w.heap.size + 1) (by simp)]
    exact hZ1
  have hac2 := hacc.setCell (p := ⟨w.heap.size, 13, none⟩) (Nat.le_refl _) (.slice none 0 0)
  have hpc := hp.below hac2
  obtain ⟨-, hc1, hc2, ⟨hx, -⟩ | ⟨-, b', off', hbo, hc⟩⟩ := hpc
  · cases hx
  simp only [Option.some.injEq, Addr.mk.injEq, and_true] at hbo
  obtain ⟨rfl, rfl⟩ := hbo
  obtain ⟨c0, c1⟩ := hc 0 (by decide)
  (have c0' : (w1.setCell ⟨w.heap.size, 13, none⟩ (.slice none 0 0)).cell? ⟨b, 0, none⟩ = some (.string ⟨#[112, 97, 116, 104]⟩) := c0)
  (have c1' : (w1.setCell ⟨w.heap.size, 13, none⟩ (.slice none 0 0)).cell? ⟨b, 1, none⟩ = some (.string ⟨#[97]⟩) := c1)
  have hfr := (Below.refl _ (w1.setCell ⟨w.heap.size, 13, none⟩ (.slice none 0 0))).alloc (Nat.le_refl _) (.cells #[.string ⟨#[112, 97, 116, 104]⟩, .string ⟨#[97]⟩] 37)
  have hsay := say_path ⟨#[97]⟩ (hA2.below hfr) rfl
  have hac3 := hac2.alloc hac2.size (.cells #[.string ⟨#[112, 97, 116, 104]⟩, .string ⟨#[97]⟩] 37)
  have hsz := hac2.size
  have hl2 : w.heap.size + 1 < ((w1.setCell ⟨w.heap.size, 13, none⟩ (.slice none 0 0)).alloc (.cells #[.string ⟨#[112, 97, 116, 104]⟩, .string ⟨#[97]⟩] 37)).heap.size := by have := (hZ2.below hfr).lt; exact this
  clear c0 c1 hc hA1 hZ1 hA hZ y13 x13
  refine wp_loop_rounds 2 ?_
  rw [rounds_succ]
  go_wp2_with (go_at_call 39; refine hsay.mono ?_; rintro e w3 ⟨rfl, hA3', hbel3, hoth3⟩; (have hA3 : Blk w3 w.heap.size #[.int .i64 a0, .string ⟨#[97]⟩, .string s2, .int .i64 a3, .int .i64 a4, .int .i64 a5, .int .i64 a6, .int .i64 a7, .int .i64 a8, .string s9, .string s10, .int .i64 a11, .int .i64 a12, .slice none 0 0] 52 := hA3'); (have hZ3 : Blk w3 (w.heap.size + 1) #[.int .i64 0, .string ⟨#[]⟩, .string ⟨#[]⟩, .int .i64 0, .int .i64 0, .int .i64 0, .int .i64 0, .int .i64 0, .int .i64 0, .string ⟨#[]⟩, .string ⟨#[]⟩, .int .i64 0, .int .i64 0, .slice none 0 0] 52 := by (unfold Blk; rw [hoth3 _ (by omega) hl2]; exact hZ2.below hfr)); obtain ⟨b0, b1, b2, b3, b4, b5, b6, b7, b8, b9, b10, b11, b12, b13⟩ := blk14 hA3; obtain ⟨z0, z1, z2, z3, z4, z5, z6, z7, z8, z9, z10, z11, z12, z13⟩ := blk14 hZ3; obtain ⟨f0, f1, f2, f3, f4, f5, f6, f7, f8, f9, f10, f11, f12, f13⟩ := free14 hZ3; have hac4 := hac3.trans (hbel3 _ (Nat.le_refl _)))
  rw [rounds_succ]
  go_wp2
  have hF := fill14 hZ3 (.int .i64 a0) (.string ⟨#[97]⟩) (.string s2) (.int .i64 a3) (.int .i64 a4) (.int .i64 a5) (.int .i64 a6) (.int .i64 a7) (.int .i64 a8) (.string s9) (.string s10) (.int .i64 a11) (.int .i64 a12) (.slice none 0 0)
  have hB4 := fill14_below hac4 (Nat.le_succ w.heap.size) (.int .i64 a0) (.string ⟨#[97]⟩) (.string s2) (.int .i64 a3) (.int .i64 a4) (.int .i64 a5) (.int .i64 a6) (.int .i64 a7) (.int .i64 a8) (.string s9) (.string s10) (.int .i64 a11) (.int .i64 a12) (.slice none 0 0)
  obtain ⟨g0, g1, g2, g3, g4, g5, g6, g7, g8, g9, g10, g11, g12, g13⟩ := blk14 hF
  clear hF z0 z1 z2 z3 z4 z5 z6 z7 z8 z9 z10 z11 z12 z13 b0 b1 b2 b3 b4 b5 b6 b7 b8 b9 b10 b11 b12 b13 f0 f1 f2 f3 f4 f5 f6 f7 f8 f9 f10 f11 f12 f13
  refine bodyPost_ret (v := .tuple #[.agg #[.int .i64 a0, .string ⟨#[97]⟩, .string s2, .int .i64 a3, .int .i64 a4, .int .i64 a5, .int .i64 a6, .int .i64 a7, .int .i64 a8, .string s9, .string s10, .int .i64 a11, .int .i64 a12, .slice none 0 0], .int .u8 0]) ?_ rfl ⟨rfl, hB4⟩
  clear hB4
  generalize (World.setCell (World.setCell (World.setCell (World.setCell (World.setCell (World.setCell (World.setCell (World.setCell (World.setCell (World.setCell (World.setCell (World.setCell (World.setCell (World.setCell w3 ⟨w.heap.size + 1, 0, none⟩ (.int .i64 a0)) ⟨w.heap.size + 1, 1, none⟩ (.string ⟨#[97]⟩)) ⟨w.heap.size + 1, 2, none⟩ (.string s2)) ⟨w.heap.size + 1, 3, none⟩ (.int .i64 a3)) ⟨w.heap.size + 1, 4, none⟩ (.int .i64 a4)) ⟨w.heap.size + 1, 5, none⟩ (.int .i64 a5)) ⟨w.heap.size + 1, 6, none⟩ (.int .i64 a6)) ⟨w.heap.size + 1, 7, none⟩ (.int .i64 a7)) ⟨w.heap.size + 1, 8, none⟩ (.int .i64 a8)) ⟨w.heap.size + 1, 9, none⟩ (.string s9)) ⟨w.heap.size + 1, 10, none⟩ (.string s10)) ⟨w.heap.size + 1, 11, none⟩ (.int .i64 a11)) ⟨w.heap.size + 1, 12, none⟩ (.int .i64 a12)) ⟨w.heap.size + 1, 13, none⟩ (.slice none 0 0)) = W4 at g0 g1 g2 g3 g4 g5 g6 g7 g8 g9 g10 g11 g12 g13 ⊢
  simp [results, Tryd.results24, go_sem, g0, g1, g2, g3, g4, g5, g6, g7, g8, g9, g10, g11, g12, g13]

theorem ex_lay : layL (layL [] [((⟨#[112, 97, 116, 104]⟩ : ByteArray), (⟨#[97]⟩ : ByteArray))]) [((⟨#[112, 97, 116, 104]⟩ : ByteArray), (⟨#[]⟩ : ByteArray))] = [] := by decide +kernel

set_option maxHeartbeats 4000000 in
theorem alive8_ok (w : World) (hL : Laid w) : Calls Tryd.prog 13 #[] w fun e w' => e = .returned (.bool true) ∧ Below w.heap.size w w' := by
  have hb0 := (Below.refl w.heap.size w).alloc (Nat.le_refl _) (.cells #[.string ⟨#[112, 97, 116, 104]⟩, .string ⟨#[97]⟩] 37)
  have hpy := one_pys w ⟨#[112, 97, 116, 104]⟩ ⟨#[97]⟩
  have hap := apply_path hpy (hL.below hb0) 0 ⟨#[98]⟩ ⟨#[]⟩ 0 0 0 0 0 0 ⟨#[]⟩ ⟨#[]⟩ 0 0 none 0 0
  go_enter Tryd.func13, Tryd.ntmps13
  go_wp2_with (first
    | (go_at_call 24; refine hap.mono ?_; rintro e w1 ⟨rfl, hb1⟩; have hacc := hb0.trans (hb1.mono hb0.size); have hpy1 := hpy.below hb1; have hbh := (Below.refl w1.heap.size w1).alloc (Nat.le_refl _) (.cells #[.int .i64 0, .string ⟨#[97]⟩, .string ⟨#[]⟩, .int .i64 0, .int .i64 0, .int .i64 0, .int .i64 0, .int .i64 0, .int .i64 0, .string ⟨#[]⟩, .string ⟨#[]⟩, .int .i64 0, .int .i64 0, .slice none 0 0] 52); have hpy2 := hpy1.below hbh; have hbp := (Below.refl _ (w1.alloc (.cells #[.int .i64 0, .string ⟨#[97]⟩, .string ⟨#[]⟩, .int .i64 0, .int .i64 0, .int .i64 0, .int .i64 0, .int .i64 0, .int .i64 0, .string ⟨#[]⟩, .string ⟨#[]⟩, .int .i64 0, .int .i64 0, .slice none 0 0] 52))).alloc (Nat.le_refl _) (.cells #[.string ⟨#[112, 97, 116, 104]⟩, .string ⟨#[]⟩] 37); have hpy3 := hpy2.below hbp; have hly := laytwo_ok hpy3 (one_pys (w1.alloc (.cells #[.int .i64 0, .string ⟨#[97]⟩, .string ⟨#[]⟩, .int .i64 0, .int .i64 0, .int .i64 0, .int .i64 0, .int .i64 0, .int .i64 0, .string ⟨#[]⟩, .string ⟨#[]⟩, .int .i64 0, .int .i64 0, .slice none 0 0] 52)) ⟨#[112, 97, 116, 104]⟩ ⟨#[]⟩) (by omega) (by omega); rw [ex_lay, show (w1.alloc (.cells #[.int .i64 0, .string ⟨#[97]⟩, .string ⟨#[]⟩, .int .i64 0, .int .i64 0, .int .i64 0, .int .i64 0, .int .i64 0, .int .i64 0, .string ⟨#[]⟩, .string ⟨#[]⟩, .int .i64 0, .int .i64 0, .slice none 0 0] 52)).heap.size = w1.heap.size + 1 by simp] at hly; have hH := (Blk.new w1 #[.int .i64 0, .string ⟨#[97]⟩, .string ⟨#[]⟩, .int .i64 0, .int .i64 0, .int .i64 0, .int .i64 0, .int .i64 0, .int .i64 0, .string ⟨#[]⟩, .string ⟨#[]⟩, .int .i64 0, .int .i64 0, .slice none 0 0] 52).below hbp; have hac3 := (hacc.alloc hacc.size (.cells #[.int .i64 0, .string ⟨#[97]⟩, .string ⟨#[]⟩, .int .i64 0, .int .i64 0, .int .i64 0, .int .i64 0, .int .i64 0, .int .i64 0, .string ⟨#[]⟩, .string ⟨#[]⟩, .int .i64 0, .int .i64 0, .slice none 0 0] 52)); replace hac3 := hac3.alloc hac3.size (.cells #[.string ⟨#[112, 97, 116, 104]⟩, .string ⟨#[]⟩] 37))
    | (go_at_call 15; refine hly.mono ?_; rintro e w2 ⟨a2, m2, c2, rfl, hp2, hb2⟩; obtain rfl : m2 = 0 := hp2.1.symm; have hH2 := hH.below hb2; (have x1 : w2.cell? ⟨w1.heap.size, 1, none⟩ = some (.string ⟨#[97]⟩) := hH2.cell 1); have hfin := hac3.trans (hb2.mono hac3.size)))
  all_goals go_ret
  all_goals exact ⟨rfl, hfin⟩

end Go.Proofs.YtkocnbdakfhpaaaDoor
