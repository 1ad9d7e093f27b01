/-
  WHAT A SLICE OF PAIRS THAT IS HANDED IN HOLDS; AND WHAT FOLLOWS OF IT. Conditions: those that each part names.
-/
import Derived.Test.YthnaanjhmehgcaaGreatDoorN11
import Derived.Deep.SlicePairs
import Derived.OpenShut
/-
  WHAT A SLICE OF PAIRS THAT IS HANDED IN HOLDS. Conditions: none.
-/
namespace Go.Proofs.YthnaanjhmehgcaaGreatDoor
open Go.ChangeShapes Go.WideShapes Go.ChangeAt Go.RowKit Go.Lib Go.Deep
set_option linter.unusedVariables false
set_option maxRecDepth 20000

theorem cellsPair : Tryz.prog.cellsOf 50 = 2 := by kernel_rfl
theorem cellsStr : Tryz.prog.cellsOf 9 = 1 := by kernel_rfl

theorem weights_all {H : Type} {P : Program} {e : TypeId} : ∀ {l : List (DataW H)} {d : DataW H}, d ∈ l → ∀ n ∈ d.weights P e, n ∈ DataW.weightsAll P e l
  | d0 :: l, d, h, n, hn => by
    simp only [DataW.weightsAll, List.mem_append]
    rcases List.mem_cons.1 h with rfl | h
    · exact Or.inl hn
    · exact Or.inr (weights_all h n hn)

def strV (v : Value) : ByteArray := match v with | .string s => s | _ => ⟨#[]⟩

theorem open_pairs {H : Type} {enc : TypeId × Value → H} {W : World} {fuel : Nat} {a : Option Addr} {n c : Nat} {d : DataW H} {p : List MemPlace}
    (hf : DataW.trod enc Tryz.prog W 0 (fun _ => true) true fuel 24 [.slice a n c] = some (d, p)) :
    ∃ l, Pys W a n c l ∧ (∀ q ∈ l, q.1.size ∈ d.weights Tryz.prog 24 ∧ q.2.size ∈ d.weights Tryz.prog 24) := by
  rcases open_slice_pairs Tryz.underlying24 Tryz.underlying50 cellsPair rfl rfl cellsStr cellsStr hf with ⟨hcs, hx⟩ | ⟨a', len, cap, m, k, V0, V1, D0, D1, P0, P1, hcs, _, hl, hm, hmm, hx, hall⟩
  · simp only [List.cons.injEq, and_true, Value.slice.injEq] at hcs
    obtain ⟨rfl, rfl, rfl⟩ := hcs
    exact ⟨[], ⟨rfl, Nat.le_refl _, by omega, .inl ⟨rfl, rfl⟩⟩, fun q hq => by cases hq⟩
  · simp only [List.cons.injEq, and_true, Value.slice.injEq] at hcs
    obtain ⟨rfl, rfl, rfl⟩ := hcs
    simp only [if_true] at hmm
    simp only [Prod.mk.injEq] at hx
    obtain ⟨rfl, rfl⟩ := hx
    have key : ∀ i, i < n → V0 i = .string (strV (V0 i)) ∧ V1 i = .string (strV (V1 i)) ∧ D0 i = .lit (.string (strV (V0 i)).data.toList) ∧ D1 i = .lit (.string (strV (V1 i)).data.toList) := fun i hi => by
      obtain ⟨_, _, t0, t1⟩ := hall i (by omega)
      obtain ⟨s, e0, x0, _⟩ := DataW.trod_string Tryz.underlying9 t0
      obtain ⟨s', e1, x1, _⟩ := DataW.trod_string Tryz.underlying9 t1
      simp only [List.cons.injEq, and_true] at e0 e1
      simp only [Prod.mk.injEq] at x0 x1
      rw [e0, e1]
      exact ⟨rfl, rfl, x0.1, x1.1⟩
    refine ⟨(List.range n).map fun i => (strV (V0 i), strV (V1 i)), ⟨by simp, hl, by unfold maxLen at hm; omega, ?_⟩, ?_⟩
    · rcases Nat.eq_zero_or_pos n with e | e
      · subst e; exact .inl ⟨rfl, rfl⟩
      · obtain ⟨sb, so, spot⟩ := a'
        have hspot : spot = none := by simpa [Addr.add] using World.cell?_spot (hall 0 (by omega)).1
        subst hspot
        refine .inr ⟨e, sb, so, rfl, fun i hi => ?_⟩
        have hi' : i < n := by simpa using hi
        obtain ⟨k0, k1, _, _⟩ := key i hi'
        obtain ⟨g0, g1, _, _⟩ := hall i (by omega)
        have eg : (List.map (fun i => (strV (V0 i), strV (V1 i))) (List.range n)).getD i (⟨#[]⟩, ⟨#[]⟩) = (strV (V0 i), strV (V1 i)) := by
          rw [List.getD_eq_getElem?_getD, List.getElem?_map, List.getElem?_range hi']; rfl
        rw [eg]
        rw [k0] at g0
        rw [k1] at g1
        rw [show ∀ j, (⟨sb, so, none⟩ : Addr).add j = ⟨sb, so + j, none⟩ from fun j => by simp [Addr.add]] at g0 g1
        exact ⟨g0, by rw [Nat.add_assoc]; exact g1⟩
    · intro q hq
      obtain ⟨i, hi, rfl⟩ := List.mem_map.1 hq
      have hi' := List.mem_range.1 hi
      obtain ⟨_, _, k0, k1⟩ := key i hi'
      have hin : DataW.agg [D0 i, D1 i] ∈ (List.range n).map fun i => DataW.agg [D0 i, D1 i] := List.mem_map.2 ⟨i, hi, rfl⟩
      have hw : ∀ x ∈ (DataW.agg [D0 i, D1 i]).weights Tryz.prog 50, x ∈ DataW.weights Tryz.prog 24 (DataW.slice ((List.range n).map fun i => DataW.agg [D0 i, D1 i]) ((List.range (m - n)).map fun j => DataW.agg [D0 (n + j), D1 (n + j)])) := by
        intro x hx
        rw [DataW.weights, Tryz.underlying24]
        exact List.mem_cons_of_mem _ (List.mem_append_left _ (weights_all hin x hx))
      have h2 : (DataW.agg [D0 i, D1 i]).weights Tryz.prog 50 = [(strV (V0 i)).size, (strV (V1 i)).size] := by
        rw [DataW.weights, Tryz.underlying50, k0, k1]
        rfl
      rw [h2] at hw
      exact ⟨hw _ (by simp), hw _ (by simp)⟩

end Go.Proofs.YthnaanjhmehgcaaGreatDoor

/-
  A SLICE OF PAIRS THAT IS HANDED IN WITHOUT MEMORY IS NIL. Conditions: none.
-/
namespace Go.Proofs.YthnaanjhmehgcaaGreatDoor
open Go.ChangeShapes Go.WideShapes Go.ChangeAt Go.RowKit Go.Lib Go.Deep

theorem pairs_nil {H : Type} {enc : TypeId × Value → H} {W : World} {fuel : Nat} {a : Option Addr} {n c : Nat} {d : DataW H} {p : List MemPlace}
    (hf : DataW.trod enc Tryz.prog W 0 (fun _ => true) true fuel 24 [.slice a n c] = some (d, p)) : a = none → n = 0 ∧ c = 0 := by
  rcases open_slice_pairs Tryz.underlying24 Tryz.underlying50 cellsPair rfl rfl cellsStr cellsStr hf with ⟨hcs, hx⟩ | ⟨a', len, cap, m, k, V0, V1, D0, D1, P0, P1, hcs, _⟩
  · simp only [List.cons.injEq, and_true, Value.slice.injEq] at hcs
    exact fun _ => ⟨hcs.2.1, hcs.2.2⟩
  · simp only [List.cons.injEq, and_true, Value.slice.injEq] at hcs
    intro h
    rw [h] at hcs
    cases hcs.1

end Go.Proofs.YthnaanjhmehgcaaGreatDoor
