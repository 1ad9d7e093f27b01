/-
  A PAIR TAKEN AWAY OUT OF A ROW OF PAIRS THAT THE CALL OWNS (slices.Delete). Conditions: none but that it is there.
-/
import Derived.Test.YthnaanjhmehgcaaGreatDoorN30
import Derived.Test.YthnaanjhmehgcaaGreatDoorN16
import Derived.Deep.RegionLaw
namespace Go.Proofs.YthnaanjhmehgcaaGreatDoor
open Go.ChangeShapes Go.WideShapes Go.ChangeAt Go.RowKit Go.Lib
set_option linter.unusedVariables false
set_option linter.unusedSimpArgs false
set_option maxRecDepth 20000

/-- a row of pairs that the call owns: its block -/
structure PRow (w : World) (B g n cap : Nat) (l : List (ByteArray × ByteArray)) (cur : Array Value) : Prop where
  len : l.length = n
  base : B ≤ g
  blk : w.heap[g]? = some (.cells cur 50 (0, 0))
  nc : n ≤ cap
  cm : cap ≤ 9223372036854775807
  size : cur.size = cap * 2
  take : cur.toList.take (n * 2) = pcs2 l

theorem PRow.of {w : World} {B g n cap : Nat} {l : List (ByteArray × ByteArray)} (h : w.ownsRow B 50 2 (.slice (some ⟨g, 0, none⟩) n cap) n (pcs2 l)) : ∃ cur, PRow w B g n cap l cur := by
  have hl : l.length = n := by have := h.1; rw [pcs2_len] at this; omega
  rcases h.2 with ⟨h0, _⟩ | ⟨g', cap', cur, hv, hb, hg, h1, h2, h3, h4⟩
  · cases h0
  · cases hv
    exact ⟨cur, hl, hb, hg, h1, by unfold maxLen at h2; omega, h3, h4⟩
theorem PRow.own {w : World} {B g n cap : Nat} {l : List (ByteArray × ByteArray)} {cur : Array Value} (h : PRow w B g n cap l cur) : w.ownsRow B 50 2 (.slice (some ⟨g, 0, none⟩) n cap) n (pcs2 l) :=
  ⟨by rw [pcs2_len, h.len], .inr ⟨g, cap, cur, rfl, h.base, h.blk, h.nc, by have := h.cm; unfold maxLen; omega, h.size, h.take⟩⟩
theorem PRow.cell {w : World} {B g n cap : Nat} {l : List (ByteArray × ByteArray)} {cur : Array Value} (h : PRow w B g n cap l cur) (j : Nat) : w.cell? ⟨g, j, none⟩ = cur[j]? := by simp [World.cell?, h.blk]
theorem pcs2_drop (l : List (ByteArray × ByteArray)) : ∀ i, (pcs2 l).drop (i * 2) = pcs2 (l.drop i) := by
  induction l with
  | nil => intro i; simp [pcs2]
  | cons p t ih =>
    intro i
    cases i with
    | zero => simp
    | succ i =>
      have e : pcs2 (p :: t) = .string p.1 :: .string p.2 :: pcs2 t := rfl
      rw [e, show (i + 1) * 2 = i * 2 + 1 + 1 by omega, List.drop_succ_cons, List.drop_succ_cons, ih, List.drop_succ_cons]
theorem pcs2_take (l : List (ByteArray × ByteArray)) : ∀ i, (pcs2 l).take (i * 2) = pcs2 (l.take i) := by
  induction l with
  | nil => intro i; simp [pcs2]
  | cons p t ih =>
    intro i
    cases i with
    | zero => simp [pcs2]
    | succ i =>
      have e : pcs2 (p :: t) = .string p.1 :: .string p.2 :: pcs2 t := rfl
      rw [e, show (i + 1) * 2 = i * 2 + 1 + 1 by omega, List.take_succ_cons, List.take_succ_cons, ih, List.take_succ_cons]
      rfl
theorem pcs2_cat (a b : List (ByteArray × ByteArray)) : pcs2 (a ++ b) = pcs2 a ++ pcs2 b := by unfold pcs2; simp
theorem pcs2_one (l : List (ByteArray × ByteArray)) : ∀ u ∈ pcs2 l, u.oneCell' = true := by
  intro u hu
  unfold pcs2 at hu
  obtain ⟨p, _, h⟩ := List.mem_flatMap.1 hu
  simp at h
  rcases h with rfl | rfl <;> rfl
/-- the cells from an element on -/
theorem PRow.from {w : World} {B g n cap : Nat} {l : List (ByteArray × ByteArray)} {cur : Array Value} (h : PRow w B g n cap l cur) (i : Nat) (hi : i ≤ n) : ∀ j u, (pcs2 (l.drop i))[j]? = some u → w.cell? ⟨g, i * 2 + j, none⟩ = some u := by
  intro j u hj
  rw [← pcs2_drop, List.getElem?_drop] at hj
  have hlt : i * 2 + j < n * 2 := by
    have := (List.getElem?_eq_some_iff.1 hj).1
    rw [pcs2_len, h.len] at this
    exact this
  rw [h.cell, ← Array.getElem?_toList, ← List.getElem?_take_of_lt hlt, h.take]
  exact hj
theorem PRow.head {w : World} {B g n cap : Nat} {l : List (ByteArray × ByteArray)} {cur : Array Value} (h : PRow w B g n cap l cur) (i : Nat) (hi : i ≤ n) : cur.toList.take (i * 2) = pcs2 (l.take i) := by
  have := congrArg (List.take (i * 2)) h.take
  rwa [List.take_take, Nat.min_eq_left (by omega), pcs2_take] at this

end Go.Proofs.YthnaanjhmehgcaaGreatDoor
