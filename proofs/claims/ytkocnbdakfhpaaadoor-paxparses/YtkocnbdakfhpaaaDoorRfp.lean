/-
  THE RECORD AT THE BEGINNING OF BYTES, AS THE DOCUMENT LOOKS FOR IT: on lists. No condition but how many bytes there are.
-/
import Derived.Test.YtkocnbdakfhpaaaDoorBak
namespace Go.Proofs.YtkocnbdakfhpaaaDoor
open Go.ChangeShapes Go.WideShapes Go.ChangeAt Go.RowKit Go.Lib
set_option linter.unusedVariables false
set_option linter.unusedSimpArgs false
set_option maxRecDepth 20000

theorem ah_hit (x : Int) (l : List Int) (i : Nat) (h : l.drop i = x :: l.drop (i + 1)) : ahI x (l.drop i) = [] := by rw [h]; simp [ahI]
theorem ah_miss (x c : Int) (l : List Int) (i : Nat) (hc : c ≠ x) (h : l.drop i = c :: l.drop (i + 1)) : ahI x (l.drop i) = c :: ahI x (l.drop (i + 1)) := by
  rw [h]
  unfold ahI
  rw [List.takeWhile_cons, if_pos (by simpa using hc)]
theorem ah_none (x : Int) : ∀ l : List Int, x ∉ l → ahI x l = l
  | [], _ => rfl
  | c :: t, h => by
    have hc : (c != x) = true := by simp; intro e; exact h (by simp [e])
    have ih := ah_none x t (fun m => h (List.mem_cons_of_mem _ m))
    unfold ahI at ih ⊢
    rw [List.takeWhile_cons, if_pos hc, ih]

theorem val_low {l : List UInt8} (hd : allD l = true) (h0 : l ≠ []) (hz : ¬ (l.head? = some 48 ∧ 1 < l.length)) (h1 : 1 < l.length) : 10 ^ (l.length - 1) ≤ val 0 l := by
  cases l with
  | nil => exact absurd rfl h0
  | cons c t =>
    rw [allD_cons, Bool.and_eq_true, isD_iff] at hd
    have hc : c ≠ 48 := fun e => hz ⟨by rw [e]; rfl, h1⟩
    have hc2 : c.toNat ≠ 48 := fun e => hc (UInt8.toNat_inj.1 (by rw [e]; rfl))
    rw [val_cons, val_acc, List.length_cons, Nat.add_sub_cancel]
    have : 1 * 10 ^ t.length ≤ (0 * 10 + (c.toNat - 48)) * 10 ^ t.length := Nat.mul_le_mul_right _ (by omega)
    omega

/-- more digits than eight tell more than there is -/
theorem frst_long (r : List Int) (hr : r.length ≤ 3000) (hd : 8 < (ahI 32 r).length) : frst r = none := by
  unfold frst
  cases hN : nat63 (bytesOf (ahI 32 r)) with
  | none => rfl
  | some u =>
    simp only
    obtain ⟨n1, n2, n3, n4, _⟩ := nat63_some hN
    have hl : (bytesOf (ahI 32 r)).length = (ahI 32 r).length := bytesOf_length _
    have := val_low n2 n1 n3 (by omega)
    have h8 : 10 ^ 8 ≤ 10 ^ ((bytesOf (ahI 32 r)).length - 1) := Nat.pow_le_pow_right (by omega) (by omega)
    rw [if_neg (by omega)]
theorem nat63_small {r : List Int} {u : Nat} (hN : nat63 (bytesOf (ahI 32 r)) = some u) (hd : (ahI 32 r).length ≤ 8) : u < 100000000 := by
  obtain ⟨n1, n2, n3, n4, _⟩ := nat63_some hN
  have := val_lt _ n2
  rw [bytesOf_length, n4] at this
  have h8 : 10 ^ (ahI 32 r).length ≤ 10 ^ 8 := Nat.pow_le_pow_right (by omega) hd
  omega
theorem frst_nonum {r : List Int} (hN : nat63 (bytesOf (ahI 32 r)) = none) : frst r = none := by unfold frst; rw [hN]
theorem frst_over {r : List Int} {u : Nat} (hN : nat63 (bytesOf (ahI 32 r)) = some u) (hu : ¬ u ≤ r.length) : frst r = none := by unfold frst; rw [hN]; simp only; rw [if_neg hu]

theorem in_of_ah (x : Int) (r : List Int) (h : (ahI x r).length < r.length) : x ∈ r := Decidable.byContradiction fun hn => by rw [ah_none x r hn] at h; omega
theorem ah_drop (x : Int) (r : List Int) (h : (ahI x r).length < r.length) : beI x r = r.drop ((ahI x r).length + 1) := by
  have c := cut_app x r (in_of_ah x r h)
  have : r.drop ((ahI x r).length + 1) = (ahI x r ++ x :: beI x r).drop ((ahI x r).length + 1) := by rw [← c]
  rw [this, List.drop_append, List.drop_eq_nil_iff.2 (by omega), show (ahI x r).length + 1 - (ahI x r).length = 1 by omega]
  rfl

theorem frst_split {r : List Int} {u : Nat} (hN : nat63 (bytesOf (ahI 32 r)) = some u) (hu : u ≤ r.length) :
    (u < (ahI 32 r).length + 2 → frst r = none) ∧
    ((ahI 32 r).length + 2 ≤ u → r.getD (u - 1) 0 ≠ 10 → frst r = none) ∧
    ((ahI 32 r).length + 2 ≤ u → r.getD (u - 1) 0 = 10 → ∀ X, X = (r.drop ((ahI 32 r).length + 1)).take (u - (ahI 32 r).length - 2) →
      frst r = if inI 61 X && rightP (bytesOf (ahI 61 X)) (bytesOf (beI 61 X)) then some (ahI 61 X, beI 61 X, u) else none) := by
  obtain ⟨A, hA⟩ : ∃ A, A = ahI 32 r := ⟨_, rfl⟩
  have hfree : (32 : Int) ∉ A := by rw [hA]; exact ahI_free 32 r
  have hAle : A.length ≤ r.length := by rw [hA]; exact ahI_len 32 r
  have htk : r.take A.length = A := by
    rw [hA]
    by_cases hm : (32 : Int) ∈ r
    · have c := cut_app 32 r hm
      have : r.take (ahI 32 r).length = (ahI 32 r ++ 32 :: beI 32 r).take (ahI 32 r).length := by rw [← c]
      rw [this, List.take_left]
    · rw [ah_none 32 r hm, List.take_length]
  have hfr : frst r = (if endI 10 (beI 32 (r.take u)) && (inI 61 (trI 10 (beI 32 (r.take u))) && rightP (bytesOf (ahI 61 (trI 10 (beI 32 (r.take u))))) (bytesOf (beI 61 (trI 10 (beI 32 (r.take u)))))) then some (ahI 61 (trI 10 (beI 32 (r.take u))), beI 61 (trI 10 (beI 32 (r.take u))), u) else none) := by
    unfold frst; rw [hN]; simp only; rw [if_pos hu]
  rw [← hA]
  have hcut : A.length < r.length → r = A ++ 32 :: r.drop (A.length + 1) := by
    intro h
    have hlt : (ahI 32 r).length < r.length := by rw [← hA]; exact h
    have c := cut_app 32 r (in_of_ah 32 r hlt)
    rw [ah_drop 32 r hlt, ← hA] at c
    exact c
  refine ⟨?_, ?_, ?_⟩
  · intro h
    have hb : beI 32 (r.take u) = [] := by
      by_cases h1 : u ≤ A.length
      · refine beI_none _ _ fun hm => hfree ?_
        rw [← htk]
        have : r.take u = (r.take A.length).take u := by rw [List.take_take, Nat.min_eq_left h1]
        rw [this] at hm
        exact List.mem_of_mem_take hm
      · have h2 : u = A.length + 1 := by omega
        have hc := hcut (by omega)
        generalize r.drop (A.length + 1) = R at hc
        rw [hc, h2, List.take_append, List.take_of_length_le (by omega), show A.length + 1 - A.length = 1 by omega, List.take_succ_cons, beI_app _ _ _ hfree]
        simp
    rw [hfr, hb]
    simp [endI]
  all_goals
    intro h
    have hc := hcut (by omega)
    obtain ⟨R, hR⟩ : ∃ R, R = r.drop (A.length + 1) := ⟨_, rfl⟩
    rw [← hR] at hc
    try rw [← hR]
    have hRl : R.length = r.length - (A.length + 1) := by rw [hR, List.length_drop]
    have hb : beI 32 (r.take u) = R.take (u - A.length - 2) ++ [r.getD (u - 1) 0] := by
      have e1 : r.take u = A ++ 32 :: R.take (u - A.length - 1) := by
        rw [hc, List.take_append, List.take_of_length_le (by omega), show u - A.length = (u - A.length - 1) + 1 by omega, List.take_succ_cons]
        simp
      rw [e1, beI_app _ _ _ hfree]
      have e2 : u - A.length - 1 = (u - A.length - 2) + 1 := by omega
      have e3 : r.getD (u - 1) 0 = R.getD (u - A.length - 2) 0 := by
        rw [hR, List.getD_eq_getElem?_getD, List.getD_eq_getElem?_getD, List.getElem?_drop]
        congr 2
        omega
      rw [e2, e3, List.take_add_one, List.getD_eq_getElem?_getD, List.getElem?_eq_getElem (by omega)]
      rfl
  · intro hne
    rw [hfr, hb]
    have : endI 10 (R.take (u - A.length - 2) ++ [r.getD (u - 1) 0]) = false := by unfold endI; simp; exact hne
    rw [this]; rfl
  · intro he X hX
    rw [hfr, hb, he, endI_app, trI_app, ← hX]
    rfl

end Go.Proofs.YtkocnbdakfhpaaaDoor
