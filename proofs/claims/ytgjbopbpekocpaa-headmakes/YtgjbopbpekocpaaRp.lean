/-
  THE DOCUMENT's Make OF A HEADER: its order. Conditions: that the numbers are 64 bits wide, a flag is a byte, and the texts have at most 3000 bytes each.
-/
import Derived.Test.YtgjbopbpekocpaaRm
namespace Go.Proofs.Ytgjbopbpekocpaa
open Go.ChangeShapes Go.WideShapes Go.ChangeAt Go.RowKit
set_option linter.unusedVariables false
set_option maxRecDepth 20000

theorem num_cases (id n : Int) (k : Nat) (wd : Bool) (h2 : 2 ≤ k) (h32 : k ≤ 32) :
    (numC id n k wd = 0 ∧ putC n k wd = 0 ∧ numL id n k wd = putL n k wd ∧ (0 ≤ n ∨ id = 8)) ∨ (numC id n k wd = 5 ∧ (putC n k wd = 5 ∨ (putC n k wd = 0 ∧ n < 0 ∧ id ≠ 8))) := by
  unfold numC numL
  cases hm : mayB id n
  · right
    refine ⟨rfl, ?_⟩
    unfold mayB at hm
    simp at hm
    rcases putC_is n k wd h2 h32 with h | h
    · exact .inr ⟨h, hm.1, hm.2⟩
    · exact .inl h
  · unfold mayB at hm
    simp at hm
    rcases putC_is n k wd h2 h32 with h | h
    · left; exact ⟨h, h, rfl, hm⟩
    · right; exact ⟨h, .inl h⟩

/-- what the document's order says of a row -/
structure OrdR (R : RawV) (r : RowD) (v : Int) (i : Nat) : Prop where
  txt : r.txt = true → v = 100 + (i : Int) ∧ i < 5 ∧ (∃ s d : Int, s = (r.st : Nat) ∧ d = (r.wd : Nat) ∧ ∀ w, (Instr.index 69 (.agg #[.int .i64 0, .int .i64 100, .int .i64 157, .int .i64 100, .int .i64 265, .int .i64 32, .int .i64 297, .int .i64 32, .int .i64 345, .int .i64 155]) (.int .i64 i)).run Try.prog w = .ok (.agg #[.int .i64 s, .int .i64 d]) w) ∧ R.rarr[2 + i]? = some (.string (R.T r.fld))
  num : r.txt = false → v = (i : Int) ∧ i < 7 ∧ (∃ s d : Int, s = (r.st : Nat) ∧ d = (r.wd : Nat) ∧ ∀ w, (Instr.index 73 (.agg #[.int .i64 100, .int .i64 8, .int .i64 108, .int .i64 8, .int .i64 116, .int .i64 8, .int .i64 124, .int .i64 12, .int .i64 136, .int .i64 12, .int .i64 329, .int .i64 8, .int .i64 337, .int .i64 8]) (.int .i64 i)).run Try.prog w = .ok (.agg #[.int .i64 s, .int .i64 d]) w) ∧ R.rarr[7 + i]? = some (.int .i64 (R.N r.fld)) ∧ (r.id = 8 ↔ i = 4)
  which : (v, r.inn) ∈ [(100, (0 : Int)), (0, 0), (1, 0), (2, 0), (3, 0), (4, 0), (101, 0), (102, 1), (103, 1), (5, 2), (6, 2), (104, 3)]

theorem ord_row (R : RawV) : ∀ k, k < 12 → ∃ (r : RowD) (v : Int) (i : Nat), r ∈ rowsD ∧ Hid (rowsD.drop k = r :: rowsD.drop (k + 1)) ∧ ordA[k]? = some (.int .i64 v) ∧ OrdR R r v i := by
  intro k hk
  match k, hk with
  | 0, _ => exact ⟨(⟨0, 100, 0, 2, true, 2⟩ : RowD), 100, 0, by simp [rowsD], hid rfl, rfl, ⟨fun _ => ⟨rfl, by omega, ⟨0, 100, rfl, rfl, tidx0⟩, rfl⟩, fun h => by (cases h), by decide⟩⟩
  | 1, _ => exact ⟨(⟨100, 8, 0, 4, false, 7⟩ : RowD), 0, 0, by simp [rowsD], hid rfl, rfl, ⟨fun h => by (cases h), fun _ => ⟨rfl, by omega, ⟨100, 8, rfl, rfl, nidx0⟩, rfl, by decide⟩, by decide⟩⟩
  | 2, _ => exact ⟨(⟨108, 8, 0, 5, false, 8⟩ : RowD), 1, 1, by simp [rowsD], hid rfl, rfl, ⟨fun h => by (cases h), fun _ => ⟨rfl, by omega, ⟨108, 8, rfl, rfl, nidx1⟩, rfl, by decide⟩, by decide⟩⟩
  | 3, _ => exact ⟨(⟨116, 8, 0, 6, false, 9⟩ : RowD), 2, 2, by simp [rowsD], hid rfl, rfl, ⟨fun h => by (cases h), fun _ => ⟨rfl, by omega, ⟨116, 8, rfl, rfl, nidx2⟩, rfl, by decide⟩, by decide⟩⟩
  | 4, _ => exact ⟨(⟨124, 12, 0, 7, false, 10⟩ : RowD), 3, 3, by simp [rowsD], hid rfl, rfl, ⟨fun h => by (cases h), fun _ => ⟨rfl, by omega, ⟨124, 12, rfl, rfl, nidx3⟩, rfl, by decide⟩, by decide⟩⟩
  | 5, _ => exact ⟨(⟨136, 12, 0, 8, false, 11⟩ : RowD), 4, 4, by simp [rowsD], hid rfl, rfl, ⟨fun h => by (cases h), fun _ => ⟨rfl, by omega, ⟨136, 12, rfl, rfl, nidx4⟩, rfl, by decide⟩, by decide⟩⟩
  | 6, _ => exact ⟨(⟨157, 100, 0, 3, true, 3⟩ : RowD), 101, 1, by simp [rowsD], hid rfl, rfl, ⟨fun _ => ⟨rfl, by omega, ⟨157, 100, rfl, rfl, tidx1⟩, rfl⟩, fun h => by (cases h), by decide⟩⟩
  | 7, _ => exact ⟨(⟨265, 32, 1, 9, true, 5⟩ : RowD), 102, 2, by simp [rowsD], hid rfl, rfl, ⟨fun _ => ⟨rfl, by omega, ⟨265, 32, rfl, rfl, tidx2⟩, rfl⟩, fun h => by (cases h), by decide⟩⟩
  | 8, _ => exact ⟨(⟨297, 32, 1, 10, true, 6⟩ : RowD), 103, 3, by simp [rowsD], hid rfl, rfl, ⟨fun _ => ⟨rfl, by omega, ⟨297, 32, rfl, rfl, tidx3⟩, rfl⟩, fun h => by (cases h), by decide⟩⟩
  | 9, _ => exact ⟨(⟨329, 8, 2, 11, false, 12⟩ : RowD), 5, 5, by simp [rowsD], hid rfl, rfl, ⟨fun h => by (cases h), fun _ => ⟨rfl, by omega, ⟨329, 8, rfl, rfl, nidx5⟩, rfl, by decide⟩, by decide⟩⟩
  | 10, _ => exact ⟨(⟨337, 8, 2, 12, false, 13⟩ : RowD), 6, 6, by simp [rowsD], hid rfl, rfl, ⟨fun h => by (cases h), fun _ => ⟨rfl, by omega, ⟨337, 8, rfl, rfl, nidx6⟩, rfl, by decide⟩, by decide⟩⟩
  | 11, _ => exact ⟨(⟨345, 155, 3, 0, true, 4⟩ : RowD), 104, 4, by simp [rowsD], hid rfl, rfl, ⟨fun _ => ⟨rfl, by omega, ⟨345, 155, rfl, rfl, tidx4⟩, rfl⟩, fun h => by (cases h), by decide⟩⟩

def lateV (v : Int) : Bool := v == 102 || v == 103 || v == 104 || v == 5 || v == 6

theorem ord_late {v inn : Int} (h : (v, inn) ∈ [(100, (0 : Int)), (0, 0), (1, 0), (2, 0), (3, 0), (4, 0), (101, 0), (102, 1), (103, 1), (5, 2), (6, 2), (104, 3)]) :
    ((v == 102) = false ∧ (v == 103) = false ∧ (v == 104) = false ∧ (v == 5) = false ∧ (v == 6) = false ∧ inn = 0 ∧ lateV v = false) ∨ ((v = 102 ∧ inn = 1) ∨ (v = 103 ∧ inn = 1) ∨ (v = 5 ∧ inn = 2) ∨ (v = 6 ∧ inn = 2) ∨ (v = 104 ∧ inn = 3)) := by
  simp only [List.mem_cons, Prod.mk.injEq, List.not_mem_nil, or_false] at h
  rcases h with ⟨rfl, rfl⟩ | ⟨rfl, rfl⟩ | ⟨rfl, rfl⟩ | ⟨rfl, rfl⟩ | ⟨rfl, rfl⟩ | ⟨rfl, rfl⟩ | ⟨rfl, rfl⟩ | ⟨rfl, rfl⟩ | ⟨rfl, rfl⟩ | ⟨rfl, rfl⟩ | ⟨rfl, rfl⟩ | ⟨rfl, rfl⟩
  all_goals first | (left; exact ⟨rfl, rfl, rfl, rfl, rfl, rfl, rfl⟩) | (right; simp)

end Go.Proofs.Ytgjbopbpekocpaa
