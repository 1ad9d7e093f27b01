/-
  THE TABLE OF A HEADER's FIELDS, as the program makes it. No condition.
-/
import Derived.Test.YtgjbopbpekocpaaHd
import Derived.BigRegion
namespace Go.Proofs.Ytgjbopbpekocpaa
open Go.ChangeShapes Go.WideShapes Go.ChangeAt Go.RowKit
set_option linter.unusedVariables false
set_option maxRecDepth 20000

/-- what a row of the table says: where its field lies, in which headers, its number, is it a text, which cell of the header's things it is -/
structure RowD where
  st : Nat
  wd : Nat
  inn : Int
  id : Int
  txt : Bool
  fld : Nat

def rowsD : List RowD := [⟨0, 100, 0, 2, true, 2⟩, ⟨100, 8, 0, 4, false, 7⟩, ⟨108, 8, 0, 5, false, 8⟩, ⟨116, 8, 0, 6, false, 9⟩, ⟨124, 12, 0, 7, false, 10⟩, ⟨136, 12, 0, 8, false, 11⟩, ⟨157, 100, 0, 3, true, 3⟩, ⟨265, 32, 1, 9, true, 5⟩, ⟨297, 32, 1, 10, true, 6⟩, ⟨329, 8, 2, 11, false, 12⟩, ⟨337, 8, 2, 12, false, 13⟩, ⟨345, 155, 3, 0, true, 4⟩]

/-- the cells of a row of the table -/
def rowC (g : Nat) (r : RowD) : List Value := [.int .i64 r.st, .int .i64 r.wd, .int .i64 r.inn, .int .i64 r.id, .pointer (if r.txt then some ⟨g, r.fld, none⟩ else none), .pointer (if r.txt then none else some ⟨g, r.fld, none⟩)]
/-- the cells of the table over the block 'g' -/
def tabC (g : Nat) : List Value := rowsD.flatMap (rowC g)

/-- the table in memory -/
def Tab (w : World) (t g : Nat) : Prop := w.heap[t]? = some (.cells (tabC g).toArray 65)

theorem Tab.below {w w' : World} {t g : Nat} (h : Tab w t g) (hb : Below w.heap.size w w') : Tab w' t g := by
  unfold Tab at *
  rw [hb.block t (by have := Array.getElem?_eq_some_iff.mp h; exact this.1)]; exact h

theorem tab_row (g : Nat) : ∀ k : Fin 12, ∃ r ∈ rowsD, rowsD[k.val]? = some r ∧ ∀ j, j < 6 → (tabC g)[k.val * 6 + j]? = (rowC g r)[j]? := by
  intro k
  match k with
  | 0 => exact ⟨⟨0, 100, 0, 2, true, 2⟩, by simp [rowsD], rfl, by intro j hj; match j, hj with | 0, _ => rfl | 1, _ => rfl | 2, _ => rfl | 3, _ => rfl | 4, _ => rfl | 5, _ => rfl⟩
  | 1 => exact ⟨⟨100, 8, 0, 4, false, 7⟩, by simp [rowsD], rfl, by intro j hj; match j, hj with | 0, _ => rfl | 1, _ => rfl | 2, _ => rfl | 3, _ => rfl | 4, _ => rfl | 5, _ => rfl⟩
  | 2 => exact ⟨⟨108, 8, 0, 5, false, 8⟩, by simp [rowsD], rfl, by intro j hj; match j, hj with | 0, _ => rfl | 1, _ => rfl | 2, _ => rfl | 3, _ => rfl | 4, _ => rfl | 5, _ => rfl⟩
  | 3 => exact ⟨⟨116, 8, 0, 6, false, 9⟩, by simp [rowsD], rfl, by intro j hj; match j, hj with | 0, _ => rfl | 1, _ => rfl | 2, _ => rfl | 3, _ => rfl | 4, _ => rfl | 5, _ => rfl⟩
  | 4 => exact ⟨⟨124, 12, 0, 7, false, 10⟩, by simp [rowsD], rfl, by intro j hj; match j, hj with | 0, _ => rfl | 1, _ => rfl | 2, _ => rfl | 3, _ => rfl | 4, _ => rfl | 5, _ => rfl⟩
  | 5 => exact ⟨⟨136, 12, 0, 8, false, 11⟩, by simp [rowsD], rfl, by intro j hj; match j, hj with | 0, _ => rfl | 1, _ => rfl | 2, _ => rfl | 3, _ => rfl | 4, _ => rfl | 5, _ => rfl⟩
  | 6 => exact ⟨⟨157, 100, 0, 3, true, 3⟩, by simp [rowsD], rfl, by intro j hj; match j, hj with | 0, _ => rfl | 1, _ => rfl | 2, _ => rfl | 3, _ => rfl | 4, _ => rfl | 5, _ => rfl⟩
  | 7 => exact ⟨⟨265, 32, 1, 9, true, 5⟩, by simp [rowsD], rfl, by intro j hj; match j, hj with | 0, _ => rfl | 1, _ => rfl | 2, _ => rfl | 3, _ => rfl | 4, _ => rfl | 5, _ => rfl⟩
  | 8 => exact ⟨⟨297, 32, 1, 10, true, 6⟩, by simp [rowsD], rfl, by intro j hj; match j, hj with | 0, _ => rfl | 1, _ => rfl | 2, _ => rfl | 3, _ => rfl | 4, _ => rfl | 5, _ => rfl⟩
  | 9 => exact ⟨⟨329, 8, 2, 11, false, 12⟩, by simp [rowsD], rfl, by intro j hj; match j, hj with | 0, _ => rfl | 1, _ => rfl | 2, _ => rfl | 3, _ => rfl | 4, _ => rfl | 5, _ => rfl⟩
  | 10 => exact ⟨⟨337, 8, 2, 12, false, 13⟩, by simp [rowsD], rfl, by intro j hj; match j, hj with | 0, _ => rfl | 1, _ => rfl | 2, _ => rfl | 3, _ => rfl | 4, _ => rfl | 5, _ => rfl⟩
  | 11 => exact ⟨⟨345, 155, 3, 0, true, 4⟩, by simp [rowsD], rfl, by intro j hj; match j, hj with | 0, _ => rfl | 1, _ => rfl | 2, _ => rfl | 3, _ => rfl | 4, _ => rfl | 5, _ => rfl⟩

theorem Tab.row {w : World} {t g : Nat} (h : Tab w t g) (k : Nat) (hk : k < 12) : ∃ r ∈ rowsD, Hid (rowsD.drop k = r :: rowsD.drop (k + 1)) ∧
    w.cell? ⟨t, k * 6, none⟩ = some (.int .i64 r.st) ∧ w.cell? ⟨t, k * 6 + 1, none⟩ = some (.int .i64 r.wd) ∧ w.cell? ⟨t, k * 6 + 2, none⟩ = some (.int .i64 r.inn) ∧ w.cell? ⟨t, k * 6 + 3, none⟩ = some (.int .i64 r.id) ∧
    w.cell? ⟨t, k * 6 + 4, none⟩ = some (.pointer (if r.txt then some ⟨g, r.fld, none⟩ else none)) ∧ w.cell? ⟨t, k * 6 + 5, none⟩ = some (.pointer (if r.txt then none else some ⟨g, r.fld, none⟩)) := by
  obtain ⟨r, hr, hk', hj⟩ := tab_row g ⟨k, hk⟩
  have hc : ∀ j, j < 6 → w.cell? ⟨t, k * 6 + j, none⟩ = (rowC g r)[j]? := by
    intro j hj'
    rw [← hj j hj']
    have : w.heap[t]? = some (.cells (tabC g).toArray 65) := h
    simp [World.cell?, this]
  refine ⟨r, hr, hid ?_, hc 0 (by omega), hc 1 (by omega), hc 2 (by omega), hc 3 (by omega), hc 4 (by omega), hc 5 (by omega)⟩
  have hk2 : k < rowsD.length := hk
  rw [List.drop_eq_getElem_cons hk2]
  congr 1
  simpa [List.getElem?_eq_getElem hk2] using hk'

theorem row_places : ∀ r ∈ rowsD, r.st + r.wd ≤ 500 ∧ 0 < r.wd ∧ r.wd ≤ 155 ∧ 2 ≤ r.fld ∧ r.fld < 14 ∧ (r.txt = true → r.fld < 7) ∧ (r.txt = false → 7 ≤ r.fld) := by decide

set_option maxHeartbeats 8000000 in
theorem fields_ok (w : World) (g : Nat) :
    Calls Try.prog 25 #[.pointer (some ⟨g, 0, none⟩)] w fun e w' => e = .returned (.slice (some ⟨w.heap.size, 0, none⟩) 12 12) ∧ Tab w' w.heap.size g ∧ Below w.heap.size w w' := by
  have hb := (Below.refl w.heap.size w).alloc (Nat.le_refl _) (.cells (tabC g).toArray 65)
  have ht : Tab (w.alloc (.cells (tabC g).toArray 65)) w.heap.size g := by unfold Tab World.alloc; simp
  go_enter Try.func25, Try.ntmps25
  go_wp2
  go_region
  all_goals
    go_wp2
    go_ret
    exact ⟨rfl, ht, hb.drew⟩

end Go.Proofs.Ytgjbopbpekocpaa
