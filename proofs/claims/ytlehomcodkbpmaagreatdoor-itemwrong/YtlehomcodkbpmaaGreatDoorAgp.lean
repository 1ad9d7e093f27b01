/-
  WHAT FOLLOWS OF OVERLAYS, on lists: what is laid is an overlay; laying the same once more changes nothing; pairs of other keys stay. No condition.
-/
import Derived.Test.YtlehomcodkbpmaaGreatDoorOpl
import Derived.Test.YtlehomcodkbpmaaGreatDoorBak
namespace Go.Proofs.YtlehomcodkbpmaaGreatDoor
open Go.ChangeShapes Go.WideShapes Go.ChangeAt Go.RowKit Go.Lib
set_option linter.unusedVariables false
set_option linter.unusedSimpArgs false
set_option maxRecDepth 20000

theorem Ful.nil : Ful [] := fun q hq => by cases hq
theorem get_mem : ∀ (l : PL) (k v : ByteArray), getK l k = some v → (k, v) ∈ l
  | [], k, v, h => by cases h
  | q :: t, k, v, h => by
    rw [getK] at h
    split at h
    · rename_i e
      have : q.2 = v := Option.some.inj h
      rw [← e, ← this]
      exact List.mem_cons_self ..
    · exact List.mem_cons_of_mem _ (get_mem t k v h)
theorem last_get : ∀ (l : PL) (k : ByteArray), Srt l → lastK l k = getK l k
  | [], k, _ => rfl
  | q :: t, k, hs => by
    rw [lastK, last_get t k hs.tail, getK]
    by_cases h : q.1 = k
    · rw [get_none t k (fun r hr => by rw [← h]; exact hs.head r hr), if_pos h]
    · rw [if_neg h, if_neg h]
      cases getK t k <;> rfl
theorem last_none : ∀ (l : PL) (k : ByteArray), getK l k = none → lastK l k = none
  | [], k, _ => rfl
  | q :: t, k, h => by
    rw [getK] at h
    split at h
    · cases h
    · rename_i e
      rw [lastK, last_none t k h, if_neg e]

/-- an overlay, laid over nothing, is itself -/
theorem lay_self (x : PL) (hs : Srt x) (hf : Ful x) : layL [] x = x := by
  refine srt_ext _ _ (layL_srt x [] Srt.nil) hs fun k => ?_
  rw [get_layL x [] k Srt.nil, last_get x k hs]
  cases h : getK x k with
  | none => rfl
  | some v => simp only; rw [if_neg (hf (k, v) (get_mem x k v h))]
theorem layL_mem : ∀ (ps l : PL) (q : ByteArray × ByteArray), q ∈ layL l ps → q ∈ l ∨ q ∈ ps
  | [], l, q, h => .inl h
  | p :: t, l, q, h => by
    rcases layL_mem t (layP l p) q h with e | e
    · rcases lay_mem l p q e with e | ⟨e, _⟩
      · exact .inl e
      · exact .inr (by rw [e]; exact List.mem_cons_self ..)
    · exact .inr (List.mem_cons_of_mem _ e)

/-- are all right? -/
def rgB (l : PL) : Bool := l.all fun p => rightP (bs p.1) (bs p.2)
theorem rgB_iff (l : PL) : rgB l = true ↔ Rgt l := by unfold rgB Rgt; rw [List.all_eq_true]
theorem rgB_drop {l : PL} {i : Nat} {k v : ByteArray} (h : l.drop i = (k, v) :: l.drop (i + 1)) : rgB (l.drop i) = (rightP (bs k) (bs v) && rgB (l.drop (i + 1))) := by rw [h]; rfl

end Go.Proofs.YtlehomcodkbpmaaGreatDoor
