/-
  OVERLAYS, on lists of pairs: keys in order, what is laid over them, what a key's value is. No condition.
-/
import Derived.Test.YtlehomcodkbpmaaGreatDoorPrt
import Derived.Lib.Bytealg
namespace Go.Proofs.YtlehomcodkbpmaaGreatDoor
open Go.ChangeShapes Go.WideShapes Go.ChangeAt Go.RowKit Go.Lib
set_option linter.unusedVariables false
set_option linter.unusedSimpArgs false
set_option maxRecDepth 20000

theorem cb_self : ∀ l : List UInt8, compareBytes l l = 0
  | [] => rfl
  | a :: l => by
    unfold compareBytes
    rw [if_neg (UInt8.lt_irrefl a), if_neg (UInt8.lt_irrefl a), cb_self l]
theorem cb_zero : ∀ a b : List UInt8, compareBytes a b = 0 → a = b
  | [], [], _ => rfl
  | [], _ :: _, h => by simp [compareBytes] at h
  | _ :: _, [], h => by simp [compareBytes] at h
  | x :: a, y :: b, h => by
    unfold compareBytes at h
    by_cases h1 : x < y
    · rw [if_pos h1] at h; cases h
    · rw [if_neg h1] at h
      by_cases h2 : y < x
      · rw [if_pos h2] at h; cases h
      · rw [if_neg h2] at h
        have e : x = y := by
          rw [UInt8.lt_iff_toNat_lt] at h1 h2
          exact UInt8.toNat_inj.1 (by omega)
        rw [e, cb_zero a b h]
theorem cb_anti : ∀ a b : List UInt8, compareBytes b a = - compareBytes a b
  | [], [] => rfl
  | [], _ :: _ => rfl
  | _ :: _, [] => rfl
  | x :: a, y :: b => by
    unfold compareBytes
    by_cases h1 : x < y
    · have h2 : ¬ y < x := by rw [UInt8.lt_iff_toNat_lt] at h1 ⊢; omega
      rw [if_pos h1, if_neg h2, if_pos h1]; rfl
    · by_cases h2 : y < x
      · rw [if_pos h2, if_neg h1, if_pos h2]
      · rw [if_neg h1, if_neg h2, if_neg h2, if_neg h1, cb_anti a b]
theorem cb_trans : ∀ a b c : List UInt8, compareBytes a b < 0 → compareBytes b c < 0 → compareBytes a c < 0
  | [], [], _, h, _ => by simp [compareBytes] at h
  | [], _ :: _, [], _, h => by simp [compareBytes] at h
  | [], _ :: _, _ :: _, _, _ => by simp [compareBytes]
  | _ :: _, [], _, h, _ => by simp [compareBytes] at h
  | _ :: _, _ :: _, [], _, h => by simp [compareBytes] at h
  | x :: a, y :: b, z :: c, h1, h2 => by
    unfold compareBytes at h1 h2 ⊢
    simp only [UInt8.lt_iff_toNat_lt] at h1 h2 ⊢
    by_cases a1 : x.toNat < y.toNat
    · by_cases b1 : y.toNat < z.toNat
      · rw [if_pos (by omega)]; decide
      · rw [if_neg b1] at h2
        by_cases b2 : z.toNat < y.toNat
        · rw [if_pos b2] at h2; omega
        · rw [if_pos (by omega)]; decide
    · rw [if_neg a1] at h1
      by_cases a2 : y.toNat < x.toNat
      · rw [if_pos a2] at h1; omega
      · rw [if_neg a2] at h1
        by_cases b1 : y.toNat < z.toNat
        · rw [if_pos (by omega)]; decide
        · rw [if_neg b1] at h2
          by_cases b2 : z.toNat < y.toNat
          · rw [if_pos b2] at h2; omega
          · rw [if_neg b2] at h2
            rw [if_neg (by omega), if_neg (by omega)]
            exact cb_trans a b c h1 h2
/-- two keys, compared -/
def kc (a b : ByteArray) : Int := compareBytes (bs a) (bs b)
theorem kc_self (a : ByteArray) : kc a a = 0 := cb_self _
theorem kc_zero {a b : ByteArray} (h : kc a b = 0) : a = b := by
  have := cb_zero _ _ h
  rw [← txt_bs a, ← txt_bs b, this]
theorem kc_anti (a b : ByteArray) : kc b a = - kc a b := cb_anti _ _
theorem kc_trans {a b c : ByteArray} (h1 : kc a b < 0) (h2 : kc b c < 0) : kc a c < 0 := cb_trans _ _ _ h1 h2
theorem kc_ne {a b : ByteArray} (h : kc a b < 0) : a ≠ b := fun e => by rw [e, kc_self] at h; omega
theorem kc_tri {a b : ByteArray} (h1 : ¬ kc a b < 0) (h2 : a ≠ b) : kc b a < 0 := by
  have h3 : kc a b ≠ 0 := fun e => h2 (kc_zero e)
  rw [kc_anti]; omega

/-- pairs -/
abbrev PL := List (ByteArray × ByteArray)
/-- keys that rise -/
def Srt (l : PL) : Prop := l.Pairwise fun p q => kc p.1 q.1 < 0
/-- no value is empty -/
def Ful (l : PL) : Prop := ∀ p ∈ l, p.2.size ≠ 0

theorem Srt.nil : Srt [] := List.Pairwise.nil
theorem Srt.tail {p : ByteArray × ByteArray} {l : PL} (h : Srt (p :: l)) : Srt l := (List.pairwise_cons.1 h).2
theorem Srt.head {p : ByteArray × ByteArray} {l : PL} (h : Srt (p :: l)) : ∀ q ∈ l, kc p.1 q.1 < 0 := (List.pairwise_cons.1 h).1

/-- one pair, laid over an overlay -/
def layP : PL → ByteArray × ByteArray → PL
  | [], p => if p.2.size = 0 then [] else [p]
  | q :: t, p => if kc q.1 p.1 < 0 then q :: layP t p else if q.1 = p.1 then (if p.2.size = 0 then t else p :: t) else (if p.2.size = 0 then q :: t else p :: q :: t)
/-- the first value of a key -/
def getK : PL → ByteArray → Option ByteArray
  | [], _ => none
  | q :: t, k => if q.1 = k then some q.2 else getK t k

theorem lay_mem : ∀ (l : PL) (p q : ByteArray × ByteArray), q ∈ layP l p → q ∈ l ∨ (q = p ∧ p.2.size ≠ 0)
  | [], p, q, h => by
    rw [layP] at h
    split at h
    · cases h
    · rename_i h0; exact .inr ⟨by simpa using h, h0⟩
  | a :: t, p, q, h => by
    rw [layP] at h
    split at h
    · rcases List.mem_cons.1 h with e | e
      · exact .inl (by rw [e]; exact List.mem_cons_self ..)
      · rcases lay_mem t p q e with e | e
        · exact .inl (List.mem_cons_of_mem _ e)
        · exact .inr e
    · split at h
      · split at h
        · exact .inl (List.mem_cons_of_mem _ h)
        · rename_i h0
          rcases List.mem_cons.1 h with e | e
          · exact .inr ⟨e, h0⟩
          · exact .inl (List.mem_cons_of_mem _ e)
      · split at h
        · exact .inl h
        · rename_i h0
          rcases List.mem_cons.1 h with e | e
          · exact .inr ⟨e, h0⟩
          · exact .inl e

theorem lay_srt : ∀ (l : PL) (p : ByteArray × ByteArray), Srt l → Srt (layP l p)
  | [], p, _ => by
    rw [layP]; split
    · exact Srt.nil
    · exact List.pairwise_singleton ..
  | a :: t, p, h => by
    rw [layP]
    split
    · rename_i h1
      refine List.pairwise_cons.2 ⟨fun q hq => ?_, lay_srt t p h.tail⟩
      rcases lay_mem t p q hq with e | ⟨e, _⟩
      · exact h.head q e
      · rw [e]; exact h1
    · rename_i h1
      split
      · rename_i h2
        split
        · exact h.tail
        · exact List.pairwise_cons.2 ⟨fun q hq => by rw [← h2]; exact h.head q hq, h.tail⟩
      · rename_i h2
        split
        · exact h
        · refine List.pairwise_cons.2 ⟨fun q hq => ?_, h⟩
          have h3 := kc_tri h1 h2
          rcases List.mem_cons.1 hq with e | e
          · rw [e]; exact h3
          · exact kc_trans h3 (h.head q e)
theorem lay_ful (l : PL) (p : ByteArray × ByteArray) (h : Ful l) : Ful (layP l p) := fun q hq => by
  rcases lay_mem l p q hq with e | ⟨e, h0⟩
  · exact h q e
  · rw [e]; exact h0

theorem get_none : ∀ (l : PL) (k : ByteArray), (∀ q ∈ l, kc k q.1 < 0) → getK l k = none
  | [], k, _ => rfl
  | q :: t, k, h => by
    rw [getK, if_neg (fun e => kc_ne (h q (List.mem_cons_self ..)) e.symm)]
    exact get_none t k fun r hr => h r (List.mem_cons_of_mem _ hr)

theorem get_lay : ∀ (l : PL) (p : ByteArray × ByteArray) (k : ByteArray), Srt l → getK (layP l p) k = if p.1 = k then (if p.2.size = 0 then none else some p.2) else getK l k
  | [], p, k, _ => by
    rw [layP]
    by_cases h0 : p.2.size = 0
    · rw [if_pos h0, if_pos h0]; split <;> rfl
    · rw [if_neg h0, if_neg h0, getK]; rfl
  | a :: t, p, k, h => by
    have ih := get_lay t p k h.tail
    rw [layP]
    by_cases h1 : kc a.1 p.1 < 0
    · rw [if_pos h1, getK, ih, getK]
      by_cases ha : a.1 = k
      · rw [if_pos ha, if_pos ha, if_neg (fun e => kc_ne h1 (ha.trans e.symm))]
      · rw [if_neg ha, if_neg ha]
    · rw [if_neg h1]
      by_cases h2 : a.1 = p.1
      · rw [if_pos h2]
        have htn : getK t p.1 = none := get_none t p.1 fun q hq => by rw [← h2]; exact h.head q hq
        by_cases hk : p.1 = k
        · subst hk
          by_cases h0 : p.2.size = 0
          · rw [if_pos h0, if_pos rfl, if_pos h0, htn]
          · rw [if_neg h0, if_pos rfl, if_neg h0, getK, if_pos rfl]
        · rw [if_neg hk]
          have hak : a.1 ≠ k := fun e => hk (h2.symm.trans e)
          by_cases h0 : p.2.size = 0
          · rw [if_pos h0, getK, if_neg hak]
          · rw [if_neg h0, getK, if_neg hk, getK, if_neg hak]
      · rw [if_neg h2]
        have h3 := kc_tri h1 h2
        by_cases h0 : p.2.size = 0
        · rw [if_pos h0, if_pos h0]
          by_cases hk : p.1 = k
          · subst hk
            rw [if_pos rfl]
            exact get_none (a :: t) p.1 fun q hq => by
              rcases List.mem_cons.1 hq with e | e
              · rw [e]; exact h3
              · exact kc_trans h3 (h.head q e)
          · rw [if_neg hk]
        · rw [if_neg h0, if_neg h0, getK]

theorem srt_ext : ∀ (l m : PL), Srt l → Srt m → (∀ k, getK l k = getK m k) → l = m
  | [], [], _, _, _ => rfl
  | [], b :: m, _, _, h => by have := h b.1; rw [getK, getK, if_pos rfl] at this; cases this
  | a :: l, [], _, _, h => by have := h a.1; rw [getK, getK, if_pos rfl] at this; cases this
  | a :: l, b :: m, hl, hm, h => by
    have hk : a.1 = b.1 := Decidable.byContradiction fun hne => by
      by_cases hlt : kc a.1 b.1 < 0
      · have := h a.1
        rw [getK, if_pos rfl, get_none (b :: m) a.1 (fun q hq => by
          rcases List.mem_cons.1 hq with e | e
          · rw [e]; exact hlt
          · exact kc_trans hlt (hm.head q e))] at this
        cases this
      · have hgt := kc_tri hlt hne
        have := h b.1
        rw [get_none (a :: l) b.1 (fun q hq => by
          rcases List.mem_cons.1 hq with e | e
          · rw [e]; exact hgt
          · exact kc_trans hgt (hl.head q e)), getK, if_pos rfl] at this
        cases this
    have hv : a.2 = b.2 := by
      have := h a.1
      rw [getK, if_pos rfl, getK, if_pos hk.symm] at this
      exact Option.some.inj this
    have ht : l = m := srt_ext l m hl.tail hm.tail fun k => by
      by_cases he : a.1 = k
      · rw [get_none l k (fun q hq => by rw [← he]; exact hl.head q hq), get_none m k (fun q hq => by rw [← he, hk]; exact hm.head q hq)]
      · have := h k
        rwa [getK, if_neg he, getK, if_neg (fun e => he (hk.trans e))] at this
    rw [ht, show a = b from Prod.ext hk hv]

/-- pairs, one behind the other -/
def layL (l ps : PL) : PL := ps.foldl layP l
theorem layL_srt : ∀ (ps l : PL), Srt l → Srt (layL l ps)
  | [], l, h => h
  | p :: t, l, h => layL_srt t (layP l p) (lay_srt l p h)
theorem layL_ful : ∀ (ps l : PL), Ful l → Ful (layL l ps)
  | [], l, h => h
  | p :: t, l, h => layL_ful t (layP l p) (lay_ful l p h)
/-- the last value of a key among pairs, or none; empty: taken away -/
def lastK : PL → ByteArray → Option ByteArray
  | [], _ => none
  | p :: t, k => match lastK t k with
    | some v => some v
    | none => if p.1 = k then some p.2 else none
theorem get_layL : ∀ (ps l : PL) (k : ByteArray), Srt l → getK (layL l ps) k = match lastK ps k with
    | some v => if v.size = 0 then none else some v
    | none => getK l k
  | [], l, k, _ => rfl
  | p :: t, l, k, h => by
    have ih := get_layL t (layP l p) k (lay_srt l p h)
    show getK (layL (layP l p) t) k = _
    rw [ih, get_lay l p k h, lastK]
    cases lastK t k with
    | some v => rfl
    | none =>
      simp only
      by_cases hk : p.1 = k
      · rw [if_pos hk, if_pos hk]
      · rw [if_neg hk, if_neg hk]

end Go.Proofs.YtlehomcodkbpmaaGreatDoor
