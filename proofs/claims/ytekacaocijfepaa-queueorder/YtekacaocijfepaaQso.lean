/-
  WHAT A SLICE OF TEXTS THAT IS HANDED IN HOLDS. Conditions: none.
-/
import Derived.Test.YtekacaocijfepaaQor
import Derived.Deep.Strs
import Derived.OpenShut
namespace Go.Proofs.Ytekacaocijfepaa
open Go.ChangeShapes Go.WideShapes Go.ChangeAt Go.RowKit Go.Deep
set_option linter.unusedVariables false
set_option maxRecDepth 20000

theorem cellsStr : Try.prog.cellsOf 9 = 1 := by kernel_rfl
theorem laidOut : laidOutB Try.prog = true := by kernel_rfl

theorem open_srow {H : Type} {enc : TypeId × Value → H} {W : World} {fuel : Nat} {a : Option Addr} {n c : Nat} {d : DataW H} {p : List MemPlace}
    (hf : DataW.trod enc Try.prog W 0 (fun _ => true) true fuel 38 [.slice a n c] = some (d, p)) : ∃ L, SRow W a n c L := by
  rcases open_strs Try.underlying38 Try.underlying9 cellsStr hf with ⟨hcs, hx⟩ | ⟨a', len, cap, m, Sx, hcs, _, hl, hm, hmm, hx, hall⟩
  · simp only [List.cons.injEq, and_true, Value.slice.injEq] at hcs
    obtain ⟨rfl, rfl, rfl⟩ := hcs
    exact ⟨[], rfl, Nat.le_refl _, by omega, fun h => by omega⟩
  · simp only [List.cons.injEq, and_true, Value.slice.injEq] at hcs
    obtain ⟨rfl, rfl, rfl⟩ := hcs
    simp only [if_true] at hmm
    refine ⟨(List.range n).map Sx, by simp, hl, by unfold maxLen at hm; omega, fun h0 => ?_⟩
    obtain ⟨sb, so, spot⟩ := a'
    have hspot : spot = none := by simpa [Addr.add] using World.cell?_spot (hall 0 (by omega)).1
    subst hspot
    refine ⟨sb, so, rfl, fun i hi => ?_⟩
    have g := (hall i (by omega)).1
    rw [show (⟨sb, so, none⟩ : Addr).add i = ⟨sb, so + i, none⟩ from by simp [Addr.add]] at g
    rw [g, List.getD_eq_getElem?_getD, List.getElem?_map, List.getElem?_range hi]; rfl

theorem order_all {W : World} {a : Option Addr} {n c : Nat} {L : List ByteArray} (h : SRow W a n c L) {r : Int} (hr : (Lit.int .u8 r).wf = true) :
    Calls Try.prog 4 #[.slice a n c, .int .u8 r] W fun e w' => e = .returned (.bool true) ∧ Below W.heap.size W w' := by
  have := bounds_u8 hr
  obtain ⟨k, rfl⟩ : ∃ k : Nat, r = k := ⟨r.toNat, by omega⟩
  exact order_walk a n c L k (by omega) W h

end Go.Proofs.Ytekacaocijfepaa
