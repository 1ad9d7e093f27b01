/-
  THE PAIRS WHOSE RECORDS BYTES ARE. Conditions: how many bytes there are; what the listed variables hold.
-/
import Derived.Test.YtlehomcodkbpmaaGreatDoorFgo
namespace Go.Proofs.YtlehomcodkbpmaaGreatDoor
open Go.ChangeShapes Go.WideShapes Go.ChangeAt Go.RowKit Go.Lib
set_option linter.unusedVariables false
set_option maxRecDepth 20000

/-- the cells of pairs -/
def pcs2 (l : List (ByteArray × ByteArray)) : List Value := l.flatMap fun p => [.string p.1, .string p.2]
theorem pcs2_len (l : List (ByteArray × ByteArray)) : (pcs2 l).length = l.length * 2 := by
  unfold pcs2
  induction l with
  | nil => rfl
  | cons p t ih => rw [List.flatMap_cons, List.length_append, ih, List.length_cons]; simp; omega
theorem pcs2_app (l : List (ByteArray × ByteArray)) (k v : ByteArray) : pcs2 (l ++ [(k, v)]) = pcs2 l ++ [.string k, .string v] := by unfold pcs2; simp
theorem pcs2_at : ∀ (l : List (ByteArray × ByteArray)) (i : Nat), i < l.length → (pcs2 l)[i * 2]? = some (.string (l.getD i (⟨#[]⟩, ⟨#[]⟩)).1) ∧ (pcs2 l)[i * 2 + 1]? = some (.string (l.getD i (⟨#[]⟩, ⟨#[]⟩)).2)
  | p :: t, 0, _ => ⟨rfl, rfl⟩
  | p :: t, i + 1, h => by
    have ih := pcs2_at t i (by simpa using h)
    have e : pcs2 (p :: t) = .string p.1 :: .string p.2 :: pcs2 t := rfl
    rw [e, show (i + 1) * 2 = i * 2 + 1 + 1 by omega]
    exact ⟨by simpa using ih.1, by simpa using ih.2⟩

theorem own_pys {w : World} {B n : Nat} {v : Value} {l : List (ByteArray × ByteArray)} (h : w.ownsRow B 39 2 v n (pcs2 l)) (hl : l.length = n) : ∃ a c, v = .slice a n c ∧ Pys w a n c l := by
  rcases h.2 with ⟨rfl, rfl⟩ | ⟨g, cap, cur, rfl, hb, hg, hnc, hcm, hcs, htake⟩
  · have : l = [] := by simpa using hl
    subst this
    exact ⟨none, 0, rfl, rfl, by omega, by omega, .inl ⟨rfl, rfl⟩⟩
  · refine ⟨_, cap, rfl, hl, hnc, by unfold maxLen at hcm; omega, ?_⟩
    rcases Nat.eq_zero_or_pos n with e | e
    · exact .inl ⟨by subst e; simpa using hl, e⟩
    · refine .inr ⟨e, g, 0, rfl, fun i hi => ?_⟩
      obtain ⟨p1, p2⟩ := pcs2_at l i hi
      have l2 := pcs2_len l
      have key : ∀ j, j < n * 2 → w.cell? ⟨g, j, none⟩ = (pcs2 l)[j]? := by
        intro j hj
        have hc : w.cell? ⟨g, j, none⟩ = cur[j]? := by simp [World.cell?, hg]
        rw [hc, ← htake, List.getElem?_take_of_lt hj, Array.getElem?_toList]
      rw [Nat.zero_add]
      exact ⟨(key _ (by omega)).trans p1, (key _ (by omega)).trans p2⟩

theorem infoPair : (Tryz.prog.info? 39).map (fun i => (i.zero, i.size, i.bytes)) = some (some (.agg #[.string ⟨#[]⟩, .string ⟨#[]⟩]), 2, 32) := by kernel_rfl
theorem pair_new (w : World) (k v : ByteArray) : ∀ j u, ([.string k, .string v] : List Value)[j]? = some u → (w.alloc (.cells #[.string k, .string v] 39)).cell? ((⟨w.heap.size, 0, none⟩ : Addr).add j) = some u := by
  obtain ⟨h1, h2⟩ := new_two w (.string k) (.string v) 39
  intro j u hj
  match j, hj with
  | 0, hj => cases hj; exact h1
  | 1, hj => cases hj; simp [Addr.add]

end Go.Proofs.YtlehomcodkbpmaaGreatDoor
