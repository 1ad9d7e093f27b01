/-
  TEXTS AS PIECES (a code point's bytes, or one byte that is part of none), in lists of bytes: how many there are, where the first wrong one is, what is mended, where is cut; what is mended is right and stays; what is cut lies between pieces. Nothing of the program. No conditions.
-/
import Derived.Lib.MapLaws
namespace Go.Proofs.YtkocnbdakfhpaaaGreatDoor
open Go.Lib
set_option linter.unusedVariables false

/-- how many bytes the piece in front has -/
def wd (l : List UInt8) : Nat := (decodeL l).2
/-- are they a code point's -/
def ok (l : List UInt8) : Bool := !(decide ((decodeL l).1 = 65533) && decide ((decodeL l).2 = 1))

def pcsF : Nat → List UInt8 → List (Nat × Bool)
  | 0, _ => []
  | n + 1, l => if l = [] then [] else (wd l, ok l) :: pcsF n (l.drop (wd l))
def pcs (l : List UInt8) : List (Nat × Bool) := pcsF l.length l

theorem wd_pos (l : List UInt8) : 1 ≤ wd l := decodeL_width l
theorem wd_le (l : List UInt8) (hne : l ≠ []) : wd l ≤ l.length := decodeL_le l hne

theorem pcsF_nil : ∀ n, pcsF n [] = []
  | 0 => rfl
  | _ + 1 => by simp [pcsF]

theorem pcsF_fuel : ∀ (n m : Nat) (l : List UInt8), l.length ≤ n → l.length ≤ m → pcsF n l = pcsF m l
  | 0, m, l, hn, _ => by
    obtain rfl : l = [] := List.eq_nil_of_length_eq_zero (by omega)
    rw [pcsF_nil, pcsF_nil]
  | n + 1, 0, l, _, hm => by
    obtain rfl : l = [] := List.eq_nil_of_length_eq_zero (by omega)
    rw [pcsF_nil, pcsF_nil]
  | n + 1, m + 1, l, hn, hm => by
    by_cases hne : l = []
    · subst hne; rw [pcsF_nil, pcsF_nil]
    · have hw := wd_pos l
      have hl : 0 < l.length := List.length_pos_iff.2 hne
      simp only [pcsF, if_neg hne]
      rw [pcsF_fuel n m _ (by rw [List.length_drop]; omega) (by rw [List.length_drop]; omega)]

theorem pcs_nil : pcs [] = [] := rfl
theorem pcs_step (l : List UInt8) (hne : l ≠ []) : pcs l = (wd l, ok l) :: pcs (l.drop (wd l)) := by
  have hw := wd_pos l
  have hl : 0 < l.length := List.length_pos_iff.2 hne
  unfold pcs
  obtain ⟨n, hn⟩ : ∃ n, l.length = n + 1 := ⟨l.length - 1, by omega⟩
  rw [hn]
  simp only [pcsF, if_neg hne]
  rw [pcsF_fuel n _ _ (by rw [List.length_drop]; omega) (Nat.le_refl _)]

theorem pcs_ind {P : List UInt8 → Prop} (h0 : P []) (hs : ∀ l, l ≠ [] → P (l.drop (wd l)) → P l) : ∀ (n : Nat) (l : List UInt8), l.length ≤ n → P l
  | 0, l, h => by
    obtain rfl : l = [] := List.eq_nil_of_length_eq_zero (by omega)
    exact h0
  | n + 1, l, h => by
    by_cases hne : l = []
    · subst hne; exact h0
    · have hw := wd_pos l
      have hl : 0 < l.length := List.length_pos_iff.2 hne
      exact hs l hne (pcs_ind h0 hs n _ (by rw [List.length_drop]; omega))

theorem bad_dec {l : List UInt8} (h : ok l = false) : decodeL l = (65533, 1) := by
  simp only [ok, Bool.not_eq_false', Bool.and_eq_true, decide_eq_true_eq] at h
  exact Prod.ext h.1 h.2
theorem ok_not {l : List UInt8} (h : ok l = true) : ¬ ((decodeL l).1 = 65533 ∧ (decodeL l).2 = 1) := by
  intro hh
  simp [ok, hh.1, hh.2] at h
theorem bad_wd {l : List UInt8} (h : ok l = false) : wd l = 1 := by unfold wd; rw [bad_dec h]

/-! ### what is asked of the pieces -/
def firstP : List (Nat × Bool) → Nat → Int
  | [], _ => -1
  | p :: r, at' => if p.2 then firstP r (at' + p.1) else at'
def mendP : List (Nat × Bool) → List UInt8 → List UInt8
  | [], _ => []
  | p :: r, l => (if p.2 then l.take p.1 else [239, 191, 189]) ++ mendP r (l.drop p.1)
def cutP (n : Int) : List (Nat × Bool) → Nat → Nat → Nat
  | [], _, e => e
  | p :: r, at', e => cutP n r (at' + p.1) (if ((at' + p.1 : Nat) : Int) ≤ n then at' + p.1 else e)
def endsP : List (Nat × Bool) → Nat → List Int
  | [], _ => []
  | p :: r, at' => (if p.2 then ((at' + p.1 : Nat) : Int) else -((at' + p.1 : Nat) : Int)) :: endsP r (at' + p.1)

def firstL (l : List UInt8) : Int := firstP (pcs l) 0
def mendL (l : List UInt8) : List UInt8 := mendP (pcs l) l
def cutL (l : List UInt8) (n : Int) : Nat := cutP n (pcs l) 0 0
def countL (l : List UInt8) : Nat := (pcs l).length

theorem mend_nil : mendL [] = [] := rfl
theorem mend_step (l : List UInt8) (hne : l ≠ []) : mendL l = (if ok l then l.take (wd l) else [239, 191, 189]) ++ mendL (l.drop (wd l)) := by
  unfold mendL; rw [pcs_step l hne, mendP]

/-- what WriteRune puts in for the piece in front -/
theorem piece_rune (l : List UInt8) (hne : l ≠ []) : encodeRune ((decodeL l).1 : Int) = if ok l then l.take (wd l) else [239, 191, 189] := by
  cases h : ok l with
  | true => simp only [if_true]; exact encode_decode l hne (ok_not h)
  | false => rw [bad_dec h]; exact (by decide : encodeRune 65533 = [239, 191, 189])

/-! ### a code point's bytes are one whatever follows -/
set_option maxRecDepth 100000 in
set_option maxHeartbeats 2000000 in
theorem dec_more (l r : List UInt8) (hne : l ≠ []) (h : ok l = true) : decodeL (l.take (wd l) ++ r) = decodeL l := by
  have hl : 0 < l.length := List.length_pos_iff.2 hne
  have hv := ok_not h
  unfold wd
  rw [decodeL_N] at hv ⊢
  rw [decodeL_N l] at *
  have k0 := (l.getD 0 0).toNat_lt
  have k1 := (l.getD 1 0).toNat_lt
  have k2 := (l.getD 2 0).toNat_lt
  have k3 := (l.getD 3 0).toNat_lt
  rcases decodeN_shape l.length (l.getD 0 0).toNat (l.getD 1 0).toNat (l.getD 2 0).toNat (l.getD 3 0).toNat with ⟨c, e⟩ | ⟨c1, c2, c3, cv, e⟩ | ⟨c1, c2, c3, c4, cv, cs, e⟩ | ⟨c1, c2, c3, c4, c5, cv, cw, e⟩ | e
  · rw [e]
    dsimp only
    rw [takeA l hl]
    exact decodeN_ascii _ _ _ _ _ c
  · rw [e]
    dsimp only
    rw [takeB l c2]
    generalize l.getD 0 0 = b0 at *
    generalize l.getD 1 0 = b1 at *
    show decodeN (r.length + 1 + 1) b0.toNat b1.toNat _ _ = _
    unfold decodeN
    repeat' split
    all_goals first | rfl | (exfalso; omega)
  · rw [e]
    dsimp only
    rw [takeC l c2]
    generalize l.getD 0 0 = b0 at *
    generalize l.getD 1 0 = b1 at *
    generalize l.getD 2 0 = b2 at *
    show decodeN (r.length + 1 + 1 + 1) b0.toNat b1.toNat b2.toNat _ = _
    unfold decodeN
    repeat' split
    all_goals first | rfl | (exfalso; omega)
  · rw [e]
    dsimp only
    rw [takeD l c2]
    generalize l.getD 0 0 = b0 at *
    generalize l.getD 1 0 = b1 at *
    generalize l.getD 2 0 = b2 at *
    generalize l.getD 3 0 = b3 at *
    show decodeN (r.length + 1 + 1 + 1 + 1) b0.toNat b1.toNat b2.toNat b3.toNat = _
    unfold decodeN
    repeat' split
    all_goals first | rfl | (exfalso; omega)
  · rw [e] at hv
    exact absurd ⟨rfl, rfl⟩ hv

theorem pcs_ok_app (l r : List UInt8) (hne : l ≠ []) (h : ok l = true) : pcs (l.take (wd l) ++ r) = (wd l, true) :: pcs r := by
  have hw := wd_pos l
  have hle := wd_le l hne
  have hd := dec_more l r hne h
  have hlen : (l.take (wd l)).length = wd l := by rw [List.length_take]; omega
  have e1 : wd (l.take (wd l) ++ r) = wd l := by show (decodeL _).2 = _; rw [hd]; rfl
  have e2 : ok (l.take (wd l) ++ r) = true := by rw [← h]; unfold ok; rw [hd]
  rw [pcs_step _ (by intro e; have := congrArg List.length e; rw [List.length_append, hlen] at this; simp at this; omega), e1, e2, List.drop_left' hlen]

theorem stop_ok : ok [239, 191, 189] = true ∧ wd [239, 191, 189] = 3 := by unfold ok wd; rw [decodeL_N]; decide
theorem pcs_stop (r : List UInt8) : pcs ([239, 191, 189] ++ r) = (3, true) :: pcs r := by
  have := pcs_ok_app [239, 191, 189] r (by simp) stop_ok.1
  rw [stop_ok.2] at this
  exact this

/-- shorter is no more a code point's -/
theorem bad_take (l : List UInt8) (k : Nat) (hne : l ≠ []) (h : ok l = false) (hk : 1 ≤ k) : ok (l.take k) = false := by
  cases hm : ok (l.take k) with
  | false => rfl
  | true =>
    have hne' : l.take k ≠ [] := by
      intro e; have h1 := congrArg List.length e; rw [List.length_take, List.length_nil] at h1
      have h2 := List.length_pos_iff.2 hne; omega
    have hd := dec_more (l.take k) ((l.take k).drop (wd (l.take k)) ++ l.drop k) hne' hm
    rw [← List.append_assoc, List.take_append_drop, List.take_append_drop] at hd
    have : ok l = true := by rw [← hm]; unfold ok; rw [hd]
    rw [h] at this; cases this

theorem pcs_bad_app (l : List UInt8) (b : Nat) (hne : l ≠ []) (h : ok l = false) : pcs (l.take (1 + b)) = (1, false) :: pcs ((l.drop 1).take b) := by
  have hb := bad_take l (1 + b) hne h (by omega)
  have hne' : l.take (1 + b) ≠ [] := by
    intro e; have h1 := congrArg List.length e; rw [List.length_take, List.length_nil] at h1
    have h2 := List.length_pos_iff.2 hne; omega
  rw [pcs_step _ hne', bad_wd hb, hb, List.drop_take, Nat.add_sub_cancel_left]

theorem pcs_take (l : List UInt8) (b : Nat) (hne : l ≠ []) : pcs (l.take (wd l + b)) = (wd l, ok l) :: pcs ((l.drop (wd l)).take b) := by
  cases h : ok l with
  | true => rw [List.take_add, pcs_ok_app l _ hne h]
  | false => rw [bad_wd h]; exact pcs_bad_app l b hne h

/-! ### mended -/
theorem pcs_mend (l : List UInt8) : pcs (mendL l) = (pcs l).map fun p => if p.2 then (p.1, true) else (3, true) := by
  refine pcs_ind (P := fun l => pcs (mendL l) = (pcs l).map fun p => if p.2 then (p.1, true) else (3, true)) rfl ?_ l.length l (Nat.le_refl _)
  intro l hne ih
  rw [mend_step l hne, pcs_step l hne, List.map_cons, ← ih]
  cases h : ok l with
  | true => simp only [if_true]; exact pcs_ok_app l _ hne h
  | false => exact pcs_stop _

theorem firstP_all : ∀ (p : List (Nat × Bool)) (at' : Nat), (∀ x ∈ p, x.2 = true) → firstP p at' = -1
  | [], _, _ => rfl
  | x :: r, at', h => by
    rw [firstP, if_pos (h x (by simp))]
    exact firstP_all r _ fun y hy => h y (by simp [hy])
theorem firstP_neg : ∀ (p : List (Nat × Bool)) (at' : Nat), firstP p at' < 0 → ∀ x ∈ p, x.2 = true
  | [], _, _ => by simp
  | x :: r, at', h => by
    rw [firstP] at h
    split at h
    · rename_i hx
      intro y hy
      rcases List.mem_cons.1 hy with rfl | hy
      · exact hx
      · exact firstP_neg r _ h y hy
    · omega

theorem right_all {l : List UInt8} : firstL l < 0 ↔ ∀ x ∈ pcs l, x.2 = true :=
  ⟨firstP_neg _ _, fun h => by unfold firstL; rw [firstP_all _ _ h]; decide⟩

theorem right_mend (l : List UInt8) : firstL (mendL l) < 0 := by
  rw [right_all, pcs_mend]
  intro x hx
  obtain ⟨y, _, rfl⟩ := List.mem_map.1 hx
  split <;> rfl

theorem mend_right (l : List UInt8) : (∀ x ∈ pcs l, x.2 = true) → mendL l = l := by
  refine pcs_ind (P := fun l => (∀ x ∈ pcs l, x.2 = true) → mendL l = l) (fun _ => rfl) ?_ l.length l (Nat.le_refl _)
  intro l hne ih h
  rw [pcs_step l hne] at h
  rw [mend_step l hne, ih (fun x hx => h x (by simp [hx])), if_pos (h (wd l, ok l) (by simp)), List.take_append_drop]

theorem mend_mend (l : List UInt8) : mendL (mendL l) = mendL l := mend_right _ (right_all.1 (right_mend l))
theorem right_iff {l : List UInt8} : firstL l < 0 ↔ mendL l = l :=
  ⟨fun h => mend_right l (right_all.1 h), fun h => by have := right_mend l; rwa [h] at this⟩
theorem count_mend (l : List UInt8) : countL (mendL l) = countL l := by unfold countL; rw [pcs_mend, List.length_map]

theorem mend_len (l : List UInt8) : (mendL l).length ≤ 3 * l.length := by
  refine pcs_ind (P := fun l => (mendL l).length ≤ 3 * l.length) (by simp [mend_nil]) ?_ l.length l (Nat.le_refl _)
  intro l hne ih
  have hw := wd_pos l
  have hle := wd_le l hne
  rw [mend_step l hne, List.length_append]
  rw [List.length_drop] at ih
  split
  · rw [List.length_take]; omega
  · simp only [List.length_cons, List.length_nil]; omega

theorem count_le (l : List UInt8) : countL l ≤ l.length := by
  refine pcs_ind (P := fun l => countL l ≤ l.length) (Nat.le_refl _) ?_ l.length l (Nat.le_refl _)
  intro l hne ih
  have hw := wd_pos l
  have hl : 0 < l.length := List.length_pos_iff.2 hne
  unfold countL at *
  rw [pcs_step l hne, List.length_cons]
  rw [List.length_drop] at ih
  omega

/-! ### cut -/
theorem cut_parts (n : Int) (l : List UInt8) : ∀ at' e, cutP n (pcs l) at' e = e ∨ ∃ b, b ≤ l.length ∧ cutP n (pcs l) at' e = at' + b ∧ ((at' + b : Nat) : Int) ≤ n ∧ pcs (l.take b) ++ pcs (l.drop b) = pcs l := by
  refine pcs_ind (P := fun l => ∀ at' e, cutP n (pcs l) at' e = e ∨ ∃ b, b ≤ l.length ∧ cutP n (pcs l) at' e = at' + b ∧ ((at' + b : Nat) : Int) ≤ n ∧ pcs (l.take b) ++ pcs (l.drop b) = pcs l) (fun _ _ => .inl rfl) ?_ l.length l (Nat.le_refl _)
  intro l hne ih at' e
  have hle := wd_le l hne
  have hst : ∀ b, pcs ((l.drop (wd l)).take b) ++ pcs ((l.drop (wd l)).drop b) = pcs (l.drop (wd l)) → pcs (l.take (wd l + b)) ++ pcs (l.drop (wd l + b)) = pcs l := by
    intro b hb
    rw [pcs_take l b hne, List.cons_append, ← List.drop_drop, hb, ← pcs_step l hne]
  rw [pcs_step l hne] at *
  rw [cutP]
  dsimp only
  rcases ih (at' + wd l) (if ((at' + wd l : Nat) : Int) ≤ n then at' + wd l else e) with h | ⟨b, hb, h, hn, hp⟩
  · rw [h]
    split
    · rename_i hn
      refine .inr ⟨wd l, hle, rfl, hn, ?_⟩
      have := hst 0 (by simp [pcs_nil])
      rwa [Nat.add_zero] at this
    · exact .inl rfl
  · refine .inr ⟨wd l + b, by rw [List.length_drop] at hb; omega, by rw [h]; omega, by omega, hst b hp⟩

theorem cut_facts (l : List UInt8) (n : Int) : cutL l n ≤ l.length ∧ (n < 0 ∨ (cutL l n : Int) ≤ n) ∧ pcs (l.take (cutL l n)) ++ pcs (l.drop (cutL l n)) = pcs l := by
  unfold cutL
  rcases cut_parts n l 0 0 with h | ⟨b, hb, h, hn, hp⟩
  · rw [h]; exact ⟨Nat.zero_le _, by omega, by simp [pcs_nil]⟩
  · rw [h, Nat.zero_add]; rw [Nat.zero_add] at hn; exact ⟨hb, .inr hn, hp⟩

theorem cut_count (l : List UInt8) (n : Int) : countL (l.take (cutL l n)) + countL (l.drop (cutL l n)) = countL l := by
  unfold countL; rw [← List.length_append, (cut_facts l n).2.2]
theorem cut_right (l : List UInt8) (n : Int) (h : firstL l < 0) : firstL (l.take (cutL l n)) < 0 := by
  rw [right_all] at h ⊢
  intro x hx
  refine h x ?_
  rw [← (cut_facts l n).2.2]
  exact List.mem_append_left _ hx

theorem cut_all (n : Int) (l : List UInt8) : ∀ at' e, ((at' + l.length : Nat) : Int) ≤ n → cutP n (pcs l) at' e = if l = [] then e else at' + l.length := by
  refine pcs_ind (P := fun l => ∀ at' e, ((at' + l.length : Nat) : Int) ≤ n → cutP n (pcs l) at' e = if l = [] then e else at' + l.length) (fun _ _ _ => by simp [pcs_nil, cutP]) ?_ l.length l (Nat.le_refl _)
  intro l hne ih at' e h
  have hle := wd_le l hne
  rw [pcs_step l hne, cutP]
  dsimp only
  rw [if_pos (by omega), ih _ _ (by rw [List.length_drop]; omega), if_neg hne]
  split
  · rename_i h0
    have := congrArg List.length h0
    rw [List.length_drop] at this
    simp at this
    omega
  · rw [List.length_drop]; omega

theorem cut_whole (l : List UInt8) (n : Int) (h : (l.length : Int) ≤ n) : cutL l n = l.length := by
  unfold cutL
  rw [cut_all n l 0 0 (by omega)]
  split
  · rename_i h; rw [h]; rfl
  · omega

theorem cut_stop (n : Int) : ∀ (p : List (Nat × Bool)) (at' e : Nat), n < at' → cutP n p at' e = e
  | [], _, _, _ => rfl
  | x :: r, at', e, h => by
    rw [cutP, if_neg (by omega)]
    exact cut_stop n r _ e (by omega)

/-! ### a wrong byte, told from the stopgap itself -/
set_option maxRecDepth 100000 in
theorem stop_hit (l : List UInt8) (hne : l ≠ []) (h : ok l = true) (hr : (decodeL l).1 = 65533) : l.take 3 = [239, 191, 189] := by
  have hl : 0 < l.length := List.length_pos_iff.2 hne
  have hv := ok_not h
  rw [decodeL_N] at hv hr
  have k0 := (l.getD 0 0).toNat_lt
  have k1 := (l.getD 1 0).toNat_lt
  have k2 := (l.getD 2 0).toNat_lt
  have k3 := (l.getD 3 0).toNat_lt
  rcases decodeN_shape l.length (l.getD 0 0).toNat (l.getD 1 0).toNat (l.getD 2 0).toNat (l.getD 3 0).toNat with ⟨c, e⟩ | ⟨c1, c2, c3, cv, e⟩ | ⟨c1, c2, c3, c4, cv, cs, e⟩ | ⟨c1, c2, c3, c4, c5, cv, cw, e⟩ | e
  · rw [e] at hr; dsimp only at hr; omega
  · rw [e] at hr; dsimp only at hr; omega
  · rw [e] at hr; dsimp only at hr
    rw [takeC l c2]
    have e0 : l.getD 0 0 = 239 := UInt8.toNat_inj.1 (by show _ = 239; omega)
    have e1 : l.getD 1 0 = 191 := UInt8.toNat_inj.1 (by show _ = 191; omega)
    have e2 : l.getD 2 0 = 189 := UInt8.toNat_inj.1 (by show _ = 189; omega)
    rw [e0, e1, e2]
  · rw [e] at hr; dsimp only at hr; omega
  · rw [e] at hv; exact absurd ⟨rfl, rfl⟩ hv

theorem stop_miss (l : List UInt8) (h : ok l = false) : l.take 3 ≠ [239, 191, 189] := by
  intro e
  have hl : l = [239, 191, 189] ++ l.drop 3 := by rw [← e, List.take_append_drop]
  have hd := dec_more [239, 191, 189] (l.drop 3) (by simp) stop_ok.1
  rw [stop_ok.2] at hd
  rw [show ([239, 191, 189] : List UInt8).take 3 = [239, 191, 189] from rfl, ← hl] at hd
  have : ok l = ok [239, 191, 189] := by unfold ok; rw [hd]
  rw [h, stop_ok.1] at this
  cases this

/-! ### the same out of the ends -/
def firstE : List Int → Int
  | [] => -1
  | x :: r => if x < 0 then -x - 1 else firstE r
def mendE (L : List UInt8) : List Int → Nat → List UInt8
  | [], _ => []
  | x :: r, k => if x < 0 then [239, 191, 189] ++ mendE L r (-x).toNat else (L.drop k).take (x.toNat - k) ++ mendE L r x.toNat
def cutE (n : Int) : List Int → Int → Int
  | [], e => e
  | x :: r, e => cutE n r (if (if x < 0 then -x else x) ≤ n then (if x < 0 then -x else x) else e)

/-- what is said of pieces: a wrong one is one byte, and none is empty -/
def Fit (p : List (Nat × Bool)) : Prop := ∀ x ∈ p, 1 ≤ x.1 ∧ (x.2 = false → x.1 = 1)
theorem pcs_fit (l : List UInt8) : Fit (pcs l) := by
  refine pcs_ind (P := fun l => Fit (pcs l)) (by intro x hx; simp [pcs_nil] at hx) ?_ l.length l (Nat.le_refl _)
  intro l hne ih x hx
  rw [pcs_step l hne] at hx
  rcases List.mem_cons.1 hx with rfl | hx
  · exact ⟨wd_pos l, fun h => bad_wd h⟩
  · exact ih x hx

theorem firstE_ends : ∀ (p : List (Nat × Bool)) (at' : Nat), Fit p → firstE (endsP p at') = firstP p at'
  | [], _, _ => rfl
  | x :: r, at', h => by
    have hx := h x (by simp)
    have ih := firstE_ends r (at' + x.1) fun y hy => h y (by simp [hy])
    rw [endsP, firstE, firstP]
    cases hb : x.2 with
    | true => simp only [if_true]; rw [if_neg (by omega), ih]
    | false => have := hx.2 hb; simp only [Bool.false_eq_true, if_false]; rw [if_pos (by omega)]; omega

theorem mendE_ends (L : List UInt8) : ∀ (p : List (Nat × Bool)) (at' : Nat), Fit p → mendE L (endsP p at') at' = mendP p (L.drop at')
  | [], _, _ => rfl
  | x :: r, at', h => by
    have hx := h x (by simp)
    have ih := mendE_ends L r (at' + x.1) fun y hy => h y (by simp [hy])
    rw [endsP, mendE, mendP, List.drop_drop]
    cases hb : x.2 with
    | true =>
      simp only [if_true]
      rw [if_neg (by omega), ← ih]
      congr 2
      · omega
    | false =>
      simp only [Bool.false_eq_true, if_false]
      rw [if_pos (by omega), ← ih]
      congr 2
      omega

theorem cutE_ends (n : Int) : ∀ (p : List (Nat × Bool)) (at' e : Nat), Fit p → cutE n (endsP p at') e = cutP n p at' e
  | [], _, _, _ => rfl
  | x :: r, at', e, h => by
    have hx := h x (by simp)
    have ih := fun e => cutE_ends n r (at' + x.1) e fun y hy => h y (by simp [hy])
    rw [endsP, cutE, cutP, ← ih]
    congr 1
    cases hb : x.2 with
    | true => simp only [if_true]; split <;> split <;> (first | omega | (split <;> omega))
    | false => simp only [Bool.false_eq_true, if_false]; split <;> split <;> (first | omega | (split <;> omega))

theorem ends_len (p : List (Nat × Bool)) : ∀ at', (endsP p at').length = p.length := by
  induction p with
  | nil => intro _; rfl
  | cons x r ih => intro at'; rw [endsP, List.length_cons, List.length_cons, ih]

end Go.Proofs.YtkocnbdakfhpaaaGreatDoor
