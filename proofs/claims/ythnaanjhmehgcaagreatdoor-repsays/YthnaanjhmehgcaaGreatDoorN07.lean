/-
  TEXTS AS PIECES (a code point's bytes, or one byte that is part of none), in lists of bytes: how many there are, where the first wrong one is, what is mended, where is cut; what is mended is right and stays; what is cut lies between pieces. Nothing of the program. No conditions.
-/
import Derived.Lib.MapLaws
namespace Go.Proofs.YthnaanjhmehgcaaGreatDoor
open Go.Lib
set_option linter.unusedVariables false

/-- how many bytes the piece in front has -/
def wd (l : List UInt8) : Nat := (decodeL l).2
/-- are they a code point's -/
def ok (l : List UInt8) : Bool := !(decide ((decodeL l).1 = 65533) && decide ((decodeL l).2 = 1))

def pcsF : Nat → List UInt8 → List (Nat × Bool)
  | 0, _ => []
  | n + 1, l => if l = [] then [] else (wd l, ok l) :: pcsF n (l.drop (wd l))
def pcs (l : List UInt8) : List (Nat × Bool) := pcsF l.length l

theorem wd_pos (l : List UInt8) : 1 ≤ wd l := decodeL_width l
theorem wd_le (l : List UInt8) (hne : l ≠ []) : wd l ≤ l.length := decodeL_le l hne

theorem pcsF_nil : ∀ n, pcsF n [] = []
  | 0 => rfl
  | _ + 1 => by simp [pcsF]

theorem pcsF_fuel : ∀ (n m : Nat) (l : List UInt8), l.length ≤ n → l.length ≤ m → pcsF n l = pcsF m l
  | 0, m, l, hn, _ => by
    obtain rfl : l = [] := List.eq_nil_of_length_eq_zero (by omega)
    rw [pcsF_nil, pcsF_nil]
  | n + 1, 0, l, _, hm => by
    obtain rfl : l = [] := List.eq_nil_of_length_eq_zero (by omega)
    rw [pcsF_nil, pcsF_nil]
  | n + 1, m + 1, l, hn, hm => by
    by_cases hne : l = []
    · subst hne; rw [pcsF_nil, pcsF_nil]
    · have hw := wd_pos l
      have hl : 0 < l.length := List.length_pos_iff.2 hne
      simp only [pcsF, if_neg hne]
      rw [pcsF_fuel n m _ (by rw [List.length_drop]; omega) (by rw [List.length_drop]; omega)]

theorem pcs_nil : pcs [] = [] := rfl
theorem pcs_step (l : List UInt8) (hne : l ≠ []) : pcs l = (wd l, ok l) :: pcs (l.drop (wd l)) := by
  have hw := wd_pos l
  have hl : 0 < l.length := List.length_pos_iff.2 hne
  unfold pcs
  obtain ⟨n, hn⟩ : ∃ n, l.length = n + 1 := ⟨l.length - 1, by omega⟩
  rw [hn]
  simp only [pcsF, if_neg hne]
  rw [pcsF_fuel n _ _ (by rw [List.length_drop]; omega) (Nat.le_refl _)]

theorem pcs_ind {P : List UInt8 → Prop} (h0 : P []) (hs : ∀ l, l ≠ [] → P (l.drop (wd l)) → P l) : ∀ (n : Nat) (l : List UInt8), l.length ≤ n → P l
  | 0, l, h => by
    obtain rfl : l = [] := List.eq_nil_of_length_eq_zero (by omega)
    exact h0
  | n + 1, l, h => by
    by_cases hne : l = []
    · subst hne; exact h0
    · have hw := wd_pos l
      have hl : 0 < l.length := List.length_pos_iff.2 hne
      exact hs l hne (pcs_ind h0 hs n _ (by rw [List.length_drop]; omega))

theorem bad_dec {l : List UInt8} (h : ok l = false) : decodeL l = (65533, 1) := by
  simp only [ok, Bool.not_eq_false', Bool.and_eq_true, decide_eq_true_eq] at h
  exact Prod.ext h.1 h.2
theorem ok_not {l : List UInt8} (h : ok l = true) : ¬ ((decodeL l).1 = 65533 ∧ (decodeL l).2 = 1) := by
  intro hh
  simp [ok, hh.1, hh.2] at h
theorem bad_wd {l : List UInt8} (h : ok l = false) : wd l = 1 := by unfold wd; rw [bad_dec h]

/-! ### what is asked of the pieces -/
def firstP : List (Nat × Bool) → Nat → Int
  | [], _ => -1
  | p :: r, at' => if p.2 then firstP r (at' + p.1) else at'
def endsP : List (Nat × Bool) → Nat → List Int
  | [], _ => []
  | p :: r, at' => (if p.2 then ((at' + p.1 : Nat) : Int) else -((at' + p.1 : Nat) : Int)) :: endsP r (at' + p.1)

def firstL (l : List UInt8) : Int := firstP (pcs l) 0
def countL (l : List UInt8) : Nat := (pcs l).length

set_option maxRecDepth 100000 in
set_option maxHeartbeats 2000000 in
theorem dec_more (l r : List UInt8) (hne : l ≠ []) (h : ok l = true) : decodeL (l.take (wd l) ++ r) = decodeL l := by
  have hl : 0 < l.length := List.length_pos_iff.2 hne
  have hv := ok_not h
  unfold wd
  rw [decodeL_N] at hv ⊢
  rw [decodeL_N l] at *
  have k0 := (l.getD 0 0).toNat_lt
  have k1 := (l.getD 1 0).toNat_lt
  have k2 := (l.getD 2 0).toNat_lt
  have k3 := (l.getD 3 0).toNat_lt
  rcases decodeN_shape l.length (l.getD 0 0).toNat (l.getD 1 0).toNat (l.getD 2 0).toNat (l.getD 3 0).toNat with ⟨c, e⟩ | ⟨c1, c2, c3, cv, e⟩ | ⟨c1, c2, c3, c4, cv, cs, e⟩ | ⟨c1, c2, c3, c4, c5, cv, cw, e⟩ | e
  · rw [e]
    dsimp only
    rw [takeA l hl]
    exact decodeN_ascii _ _ _ _ _ c
  · rw [e]
    dsimp only
    rw [takeB l c2]
    generalize l.getD 0 0 = b0 at *
    generalize l.getD 1 0 = b1 at *
    show decodeN (r.length + 1 + 1) b0.toNat b1.toNat _ _ = _
    unfold decodeN
    repeat' split
    all_goals first | rfl | (exfalso; omega)
  · rw [e]
    dsimp only
    rw [takeC l c2]
    generalize l.getD 0 0 = b0 at *
    generalize l.getD 1 0 = b1 at *
    generalize l.getD 2 0 = b2 at *
    show decodeN (r.length + 1 + 1 + 1) b0.toNat b1.toNat b2.toNat _ = _
    unfold decodeN
    repeat' split
    all_goals first | rfl | (exfalso; omega)
  · rw [e]
    dsimp only
    rw [takeD l c2]
    generalize l.getD 0 0 = b0 at *
    generalize l.getD 1 0 = b1 at *
    generalize l.getD 2 0 = b2 at *
    generalize l.getD 3 0 = b3 at *
    show decodeN (r.length + 1 + 1 + 1 + 1) b0.toNat b1.toNat b2.toNat b3.toNat = _
    unfold decodeN
    repeat' split
    all_goals first | rfl | (exfalso; omega)
  · rw [e] at hv
    exact absurd ⟨rfl, rfl⟩ hv

theorem stop_ok : ok [239, 191, 189] = true ∧ wd [239, 191, 189] = 3 := by unfold ok wd; rw [decodeL_N]; decide
theorem count_le (l : List UInt8) : countL l ≤ l.length := by
  refine pcs_ind (P := fun l => countL l ≤ l.length) (Nat.le_refl _) ?_ l.length l (Nat.le_refl _)
  intro l hne ih
  have hw := wd_pos l
  have hl : 0 < l.length := List.length_pos_iff.2 hne
  unfold countL at *
  rw [pcs_step l hne, List.length_cons]
  rw [List.length_drop] at ih
  omega

/-! ### cut -/
set_option maxRecDepth 100000 in
theorem stop_hit (l : List UInt8) (hne : l ≠ []) (h : ok l = true) (hr : (decodeL l).1 = 65533) : l.take 3 = [239, 191, 189] := by
  have hl : 0 < l.length := List.length_pos_iff.2 hne
  have hv := ok_not h
  rw [decodeL_N] at hv hr
  have k0 := (l.getD 0 0).toNat_lt
  have k1 := (l.getD 1 0).toNat_lt
  have k2 := (l.getD 2 0).toNat_lt
  have k3 := (l.getD 3 0).toNat_lt
  rcases decodeN_shape l.length (l.getD 0 0).toNat (l.getD 1 0).toNat (l.getD 2 0).toNat (l.getD 3 0).toNat with ⟨c, e⟩ | ⟨c1, c2, c3, cv, e⟩ | ⟨c1, c2, c3, c4, cv, cs, e⟩ | ⟨c1, c2, c3, c4, c5, cv, cw, e⟩ | e
  · rw [e] at hr; dsimp only at hr; omega
  · rw [e] at hr; dsimp only at hr; omega
  · rw [e] at hr; dsimp only at hr
    rw [takeC l c2]
    have e0 : l.getD 0 0 = 239 := UInt8.toNat_inj.1 (by show _ = 239; omega)
    have e1 : l.getD 1 0 = 191 := UInt8.toNat_inj.1 (by show _ = 191; omega)
    have e2 : l.getD 2 0 = 189 := UInt8.toNat_inj.1 (by show _ = 189; omega)
    rw [e0, e1, e2]
  · rw [e] at hr; dsimp only at hr; omega
  · rw [e] at hv; exact absurd ⟨rfl, rfl⟩ hv

theorem stop_miss (l : List UInt8) (h : ok l = false) : l.take 3 ≠ [239, 191, 189] := by
  intro e
  have hl : l = [239, 191, 189] ++ l.drop 3 := by rw [← e, List.take_append_drop]
  have hd := dec_more [239, 191, 189] (l.drop 3) (by simp) stop_ok.1
  rw [stop_ok.2] at hd
  rw [show ([239, 191, 189] : List UInt8).take 3 = [239, 191, 189] from rfl, ← hl] at hd
  have : ok l = ok [239, 191, 189] := by unfold ok; rw [hd]
  rw [h, stop_ok.1] at this
  cases this

/-! ### the same out of the ends -/
def firstE : List Int → Int
  | [] => -1
  | x :: r => if x < 0 then -x - 1 else firstE r
/-- what is said of pieces: a wrong one is one byte, and none is empty -/
def Fit (p : List (Nat × Bool)) : Prop := ∀ x ∈ p, 1 ≤ x.1 ∧ (x.2 = false → x.1 = 1)
theorem pcs_fit (l : List UInt8) : Fit (pcs l) := by
  refine pcs_ind (P := fun l => Fit (pcs l)) (by intro x hx; simp [pcs_nil] at hx) ?_ l.length l (Nat.le_refl _)
  intro l hne ih x hx
  rw [pcs_step l hne] at hx
  rcases List.mem_cons.1 hx with rfl | hx
  · exact ⟨wd_pos l, fun h => bad_wd h⟩
  · exact ih x hx

theorem firstE_ends : ∀ (p : List (Nat × Bool)) (at' : Nat), Fit p → firstE (endsP p at') = firstP p at'
  | [], _, _ => rfl
  | x :: r, at', h => by
    have hx := h x (by simp)
    have ih := firstE_ends r (at' + x.1) fun y hy => h y (by simp [hy])
    rw [endsP, firstE, firstP]
    cases hb : x.2 with
    | true => simp only [if_true]; rw [if_neg (by omega), ih]
    | false => have := hx.2 hb; simp only [Bool.false_eq_true, if_false]; rw [if_pos (by omega)]; omega

theorem ends_len (p : List (Nat × Bool)) : ∀ at', (endsP p at').length = p.length := by
  induction p with
  | nil => intro _; rfl
  | cons x r ih => intro at'; rw [endsP, List.length_cons, List.length_cons, ih]

end Go.Proofs.YthnaanjhmehgcaaGreatDoor
