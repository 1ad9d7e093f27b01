/-
  A SLICE OF PAIRS THAT IS HANDED IN WITHOUT MEMORY IS NIL. Conditions: none.
-/
import Derived.Test.YtlehomcodkbpmaaDoorOpn
namespace Go.Proofs.YtlehomcodkbpmaaDoor
open Go.ChangeShapes Go.WideShapes Go.ChangeAt Go.RowKit Go.Lib Go.Deep

theorem pairs_nil {H : Type} {enc : TypeId × Value → H} {W : World} {fuel : Nat} {a : Option Addr} {n c : Nat} {d : DataW H} {p : List MemPlace}
    (hf : DataW.trod enc Tryd.prog W 0 (fun _ => true) true fuel 24 [.slice a n c] = some (d, p)) : a = none → n = 0 ∧ c = 0 := by
  rcases open_slice_pairs Tryd.underlying24 Tryd.underlying36 cellsPair rfl rfl cellsStr cellsStr hf with ⟨hcs, hx⟩ | ⟨a', len, cap, m, k, V0, V1, D0, D1, P0, P1, hcs, _⟩
  · simp only [List.cons.injEq, and_true, Value.slice.injEq] at hcs
    exact fun _ => ⟨hcs.2.1, hcs.2.2⟩
  · simp only [List.cons.injEq, and_true, Value.slice.injEq] at hcs
    intro h
    rw [h] at hcs
    cases hcs.1

end Go.Proofs.YtlehomcodkbpmaaDoor
