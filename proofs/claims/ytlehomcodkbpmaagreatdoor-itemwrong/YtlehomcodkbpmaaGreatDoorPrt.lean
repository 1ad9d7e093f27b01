/-
  SLICES OF PAIRS; THE RECORDS OF PAIRS. Conditions: how many pairs there are, and how many bytes their texts have; what the listed variables hold.
-/
import Derived.Test.YtlehomcodkbpmaaGreatDoorRec
import Derived.Lib.AppendStr
namespace Go.Proofs.YtlehomcodkbpmaaGreatDoor
open Go.ChangeShapes Go.WideShapes Go.ChangeAt Go.RowKit Go.Lib
set_option linter.unusedVariables false
set_option maxRecDepth 20000

/-- the cells of pairs, from offset 'off' of block 'b' on -/
def PCells (w : World) (b off : Nat) (l : List (ByteArray × ByteArray)) : Prop :=
  ∀ i, i < l.length → w.cell? ⟨b, off + i * 2, none⟩ = some (.string (l.getD i (⟨#[]⟩, ⟨#[]⟩)).1) ∧ w.cell? ⟨b, off + i * 2 + 1, none⟩ = some (.string (l.getD i (⟨#[]⟩, ⟨#[]⟩)).2)
/-- the pairs that a slice value holds -/
def Pys (w : World) (a : Option Addr) (n c : Nat) (l : List (ByteArray × ByteArray)) : Prop :=
  l.length = n ∧ n ≤ c ∧ c ≤ 9223372036854775807 ∧ ((l = [] ∧ n = 0) ∨ (0 < n ∧ ∃ b off, a = some ⟨b, off, none⟩ ∧ PCells w b off l))
theorem PCells.below {w w' : World} (hb : Below w.heap.size w w') {b off : Nat} {l : List (ByteArray × ByteArray)} (h : PCells w b off l) : PCells w' b off l :=
  fun i hi => ⟨cell_later hb (h i hi).1, cell_later hb (h i hi).2⟩
theorem Pys.below {w w' : World} (hb : Below w.heap.size w w') {a : Option Addr} {n c : Nat} {l : List (ByteArray × ByteArray)} (h : Pys w a n c l) : Pys w' a n c l := by
  obtain ⟨h1, h2, h3, h4 | ⟨h0, b, off, rfl, hc⟩⟩ := h
  · exact ⟨h1, h2, h3, .inl h4⟩
  · exact ⟨h1, h2, h3, .inr ⟨h0, b, off, rfl, hc.below hb⟩⟩
theorem PCells.at {w : World} {b off : Nat} {l : List (ByteArray × ByteArray)} (h : PCells w b off l) (i : Nat) (hi : i < l.length) :
    ∃ k v : ByteArray, (k, v) ∈ l ∧ Hid (l.drop i = (k, v) :: l.drop (i + 1)) ∧ w.cell? ⟨b, off + i * 2, none⟩ = some (.string k) ∧ w.cell? ⟨b, off + i * 2 + 1, none⟩ = some (.string v) := by
  have := h i hi
  rw [List.getD_eq_getElem?_getD, List.getElem?_eq_getElem hi] at this
  exact ⟨l[i].1, l[i].2, List.getElem_mem hi, hid (List.drop_eq_getElem_cons hi), this.1, this.2⟩

theorem Tryz.info5' : (Tryz.prog.info? 5).map (fun i => (i.zero, i.size, i.bytes)) = some (some (.int .u8 0), 1, 1) := by kernel_rfl

end Go.Proofs.YtlehomcodkbpmaaGreatDoor
