/-
  Numbers in fields (from stage 1): Pad. No condition.
-/
import Derived.Test.YtgjbopbpekocpaaBack
import Derived.Test.YtgjbopbpekocpaaRowops
namespace Go.Proofs.Ytgjbopbpekocpaa
open Go.ChangeShapes Go.WideShapes Go.ChangeAt Go.RowKit
set_option linter.unusedVariables false
set_option maxRecDepth 20000

theorem fill_not_dig (c : Int) (h : fill c = true) : ¬ dig c = true := by
  have : c = 0 ∨ c = 32 := by simpa [fill] using h
  rw [dig_iff]; omega

theorem oct_fill (m : Int) (f : List Int) (h : f.all fill = true) : oct m f = some (m, f) := by
  match f, h with
  | [], _ => rfl
  | c :: t, h => exact oct_stop _ _ _ (fill_not_dig c (by simp at h; exact h.1))

theorem oct_append (f : List Int) (hf : f.all fill = true) (d : List Int) : ∀ n, oct n (d ++ f) = (oct n d).map (fun x => (x.1, x.2 ++ f)) := by
  induction d with
  | nil => intro n; rw [List.nil_append, oct_fill n f hf]; rfl
  | cons c t ih =>
    intro n
    rw [List.cons_append, oct, oct]
    by_cases hd : dig c = true
    · rw [if_pos hd, if_pos hd]
      split
      · rfl
      · exact ih _
    · rw [if_neg hd, if_neg hd]; rfl

theorem dropWhile_rep (p : Nat) (l : List Int) : (List.replicate p 32 ++ l).dropWhile (· == 32) = l.dropWhile (· == 32) := by
  induction p with
  | zero => simp
  | succ p ih => rw [List.replicate_succ, List.cons_append, List.dropWhile_cons, if_pos (by decide), ih]

theorem all_drop (f : List Int) (h : f.all fill = true) : (f.dropWhile (· == 32)).all fill = true := by
  rw [List.all_eq_true] at h ⊢
  exact fun x hx => h x ((List.dropWhile_suffix _).subset hx)

theorem octal_pads (p : Nat) (l f : List Int) (hf : f.all fill = true) : octal (List.replicate p 32 ++ l ++ f) = octal l := by
  unfold octal
  rw [List.append_assoc, dropWhile_rep]
  by_cases hl : (l.dropWhile (· == 32)) = []
  · rw [List.dropWhile_append, hl]
    have ha := all_drop f hf
    simp only [List.isEmpty_nil, if_true, oct_fill 0 _ ha]
    rw [ha]; rfl
  · rw [List.dropWhile_append, if_neg (by simpa using hl), oct_append f hf]
    cases h : oct 0 (l.dropWhile (· == 32)) with
    | none => rfl
    | some x =>
      obtain ⟨n, r⟩ := x
      simp only [Option.map_some, List.all_append, hf, Bool.and_true]

open Go.ChangeShapes Go.WideShapes Go.ChangeAt Go.RowKit
set_option linter.unusedVariables false

theorem u8s_set32 (j q : Nat) : (u8s (List.replicate j 32 ++ List.replicate (q + 1) 0)).set j (.int .u8 32) = u8s (List.replicate (j + 1) 32 ++ List.replicate q 0) := by
  unfold u8s
  rw [← List.map_set]
  congr 1
  rw [List.set_append, if_neg (by simp), List.length_replicate, Nat.sub_self, List.replicate_succ, List.set_cons_zero, List.replicate_succ', List.append_assoc]
  rfl

theorem row_32 {w : World} {B g p j q : Nat} (hp : j + (q + 1) = p) (h : w.ownsRow B 5 1 (.slice (some ⟨g, 0, none⟩) p p) p (u8s (List.replicate j 32 ++ List.replicate (q + 1) 0))) :
    w.cell? ⟨g, j, none⟩ = some (.int .u8 0) ∧ w.frozen? ⟨g, j, none⟩ = false ∧
    (w.setCell ⟨g, j, none⟩ (.int .u8 32)).ownsRow B 5 1 (.slice (some ⟨g, 0, none⟩) p p) p (u8s (List.replicate (j + 1) 32 ++ List.replicate q 0)) := by
  refine ⟨?_, h.frozenAt j, ?_⟩
  · rw [h.cellAt j (by omega), u8s_get _ _ (by simp)]
    simp
  · rw [← u8s_set32]; exact (h.stored j _).1

end Go.Proofs.Ytgjbopbpekocpaa
