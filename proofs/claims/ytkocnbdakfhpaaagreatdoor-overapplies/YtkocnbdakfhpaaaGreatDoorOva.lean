/-
  OVERLAYS, on lists of pairs: keys in order, what is laid over them, what a key's value is. No condition.; AND WHAT FOLLOWS OF IT. Conditions: those that each part names.
-/
import Derived.Test.YtkocnbdakfhpaaaGreatDoorPrt
import Derived.Lib.Bytealg
import Derived.Test.YtkocnbdakfhpaaaGreatDoorShelfb
import Derived.Test.YtkocnbdakfhpaaaGreatDoorSmp
import Derived.Test.YtkocnbdakfhpaaaGreatDoorRowops
import Derived.Laws.CopyRow
import Derived.Laws.AppendOwn
import Derived.Deep.DeepAppendRoom
import Derived.Test.YtkocnbdakfhpaaaGreatDoorPrs
import Derived.Deep.RegionLaw
import Derived.Test.YtkocnbdakfhpaaaGreatDoorFst
import Derived.Lib.Overlaps
import Derived.Laws.Externs
import Derived.Test.YtkocnbdakfhpaaaGreatDoorFgo
/-
  OVERLAYS, on lists of pairs: keys in order, what is laid over them, what a key's value is. No condition.
-/
namespace Go.Proofs.YtkocnbdakfhpaaaGreatDoor
open Go.ChangeShapes Go.WideShapes Go.ChangeAt Go.RowKit Go.Lib
set_option linter.unusedVariables false
set_option linter.unusedSimpArgs false
set_option maxRecDepth 20000

theorem cb_self : ∀ l : List UInt8, compareBytes l l = 0
  | [] => rfl
  | a :: l => by
    unfold compareBytes
    rw [if_neg (UInt8.lt_irrefl a), if_neg (UInt8.lt_irrefl a), cb_self l]
theorem cb_zero : ∀ a b : List UInt8, compareBytes a b = 0 → a = b
  | [], [], _ => rfl
  | [], _ :: _, h => by simp [compareBytes] at h
  | _ :: _, [], h => by simp [compareBytes] at h
  | x :: a, y :: b, h => by
    unfold compareBytes at h
    by_cases h1 : x < y
    · rw [if_pos h1] at h; cases h
    · rw [if_neg h1] at h
      by_cases h2 : y < x
      · rw [if_pos h2] at h; cases h
      · rw [if_neg h2] at h
        have e : x = y := by
          rw [UInt8.lt_iff_toNat_lt] at h1 h2
          exact UInt8.toNat_inj.1 (by omega)
        rw [e, cb_zero a b h]
theorem cb_anti : ∀ a b : List UInt8, compareBytes b a = - compareBytes a b
  | [], [] => rfl
  | [], _ :: _ => rfl
  | _ :: _, [] => rfl
  | x :: a, y :: b => by
    unfold compareBytes
    by_cases h1 : x < y
    · have h2 : ¬ y < x := by rw [UInt8.lt_iff_toNat_lt] at h1 ⊢; omega
      rw [if_pos h1, if_neg h2, if_pos h1]; rfl
    · by_cases h2 : y < x
      · rw [if_pos h2, if_neg h1, if_pos h2]
      · rw [if_neg h1, if_neg h2, if_neg h2, if_neg h1, cb_anti a b]
theorem cb_trans : ∀ a b c : List UInt8, compareBytes a b < 0 → compareBytes b c < 0 → compareBytes a c < 0
  | [], [], _, h, _ => by simp [compareBytes] at h
  | [], _ :: _, [], _, h => by simp [compareBytes] at h
  | [], _ :: _, _ :: _, _, _ => by simp [compareBytes]
  | _ :: _, [], _, h, _ => by simp [compareBytes] at h
  | _ :: _, _ :: _, [], _, h => by simp [compareBytes] at h
  | x :: a, y :: b, z :: c, h1, h2 => by
    unfold compareBytes at h1 h2 ⊢
    simp only [UInt8.lt_iff_toNat_lt] at h1 h2 ⊢
    by_cases a1 : x.toNat < y.toNat
    · by_cases b1 : y.toNat < z.toNat
      · rw [if_pos (by omega)]; decide
      · rw [if_neg b1] at h2
        by_cases b2 : z.toNat < y.toNat
        · rw [if_pos b2] at h2; omega
        · rw [if_pos (by omega)]; decide
    · rw [if_neg a1] at h1
      by_cases a2 : y.toNat < x.toNat
      · rw [if_pos a2] at h1; omega
      · rw [if_neg a2] at h1
        by_cases b1 : y.toNat < z.toNat
        · rw [if_pos (by omega)]; decide
        · rw [if_neg b1] at h2
          by_cases b2 : z.toNat < y.toNat
          · rw [if_pos b2] at h2; omega
          · rw [if_neg b2] at h2
            rw [if_neg (by omega), if_neg (by omega)]
            exact cb_trans a b c h1 h2
theorem cb_range : ∀ a b : List UInt8, compareBytes a b = -1 ∨ compareBytes a b = 0 ∨ compareBytes a b = 1
  | [], [] => by simp [compareBytes]
  | [], _ :: _ => by simp [compareBytes]
  | _ :: _, [] => by simp [compareBytes]
  | x :: a, y :: b => by
    unfold compareBytes
    split
    · exact .inl rfl
    · split
      · exact .inr (.inr rfl)
      · exact cb_range a b

/-- two keys, compared -/
def kc (a b : ByteArray) : Int := compareBytes (bs a) (bs b)
theorem kc_self (a : ByteArray) : kc a a = 0 := cb_self _
theorem kc_zero {a b : ByteArray} (h : kc a b = 0) : a = b := by
  have := cb_zero _ _ h
  rw [← txt_bs a, ← txt_bs b, this]
theorem kc_anti (a b : ByteArray) : kc b a = - kc a b := cb_anti _ _
theorem kc_trans {a b c : ByteArray} (h1 : kc a b < 0) (h2 : kc b c < 0) : kc a c < 0 := cb_trans _ _ _ h1 h2
theorem kc_ne {a b : ByteArray} (h : kc a b < 0) : a ≠ b := fun e => by rw [e, kc_self] at h; omega
theorem kc_tri {a b : ByteArray} (h1 : ¬ kc a b < 0) (h2 : a ≠ b) : kc b a < 0 := by
  have h3 : kc a b ≠ 0 := fun e => h2 (kc_zero e)
  rw [kc_anti]; omega

/-- pairs -/
abbrev PL := List (ByteArray × ByteArray)
/-- keys that rise -/
def Srt (l : PL) : Prop := l.Pairwise fun p q => kc p.1 q.1 < 0
/-- no value is empty -/
def Ful (l : PL) : Prop := ∀ p ∈ l, p.2.size ≠ 0

theorem Srt.nil : Srt [] := List.Pairwise.nil
theorem Srt.tail {p : ByteArray × ByteArray} {l : PL} (h : Srt (p :: l)) : Srt l := (List.pairwise_cons.1 h).2
theorem Srt.head {p : ByteArray × ByteArray} {l : PL} (h : Srt (p :: l)) : ∀ q ∈ l, kc p.1 q.1 < 0 := (List.pairwise_cons.1 h).1

/-- one pair, laid over an overlay -/
def layP : PL → ByteArray × ByteArray → PL
  | [], p => if p.2.size = 0 then [] else [p]
  | q :: t, p => if kc q.1 p.1 < 0 then q :: layP t p else if q.1 = p.1 then (if p.2.size = 0 then t else p :: t) else (if p.2.size = 0 then q :: t else p :: q :: t)
/-- the first value of a key -/
def getK : PL → ByteArray → Option ByteArray
  | [], _ => none
  | q :: t, k => if q.1 = k then some q.2 else getK t k

theorem lay_mem : ∀ (l : PL) (p q : ByteArray × ByteArray), q ∈ layP l p → q ∈ l ∨ (q = p ∧ p.2.size ≠ 0)
  | [], p, q, h => by
    rw [layP] at h
    split at h
    · cases h
    · rename_i h0; exact .inr ⟨by simpa using h, h0⟩
  | a :: t, p, q, h => by
    rw [layP] at h
    split at h
    · rcases List.mem_cons.1 h with e | e
      · exact .inl (by rw [e]; exact List.mem_cons_self ..)
      · rcases lay_mem t p q e with e | e
        · exact .inl (List.mem_cons_of_mem _ e)
        · exact .inr e
    · split at h
      · split at h
        · exact .inl (List.mem_cons_of_mem _ h)
        · rename_i h0
          rcases List.mem_cons.1 h with e | e
          · exact .inr ⟨e, h0⟩
          · exact .inl (List.mem_cons_of_mem _ e)
      · split at h
        · exact .inl h
        · rename_i h0
          rcases List.mem_cons.1 h with e | e
          · exact .inr ⟨e, h0⟩
          · exact .inl e

theorem lay_srt : ∀ (l : PL) (p : ByteArray × ByteArray), Srt l → Srt (layP l p)
  | [], p, _ => by
    rw [layP]; split
    · exact Srt.nil
    · exact List.pairwise_singleton ..
  | a :: t, p, h => by
    rw [layP]
    split
    · rename_i h1
      refine List.pairwise_cons.2 ⟨fun q hq => ?_, lay_srt t p h.tail⟩
      rcases lay_mem t p q hq with e | ⟨e, _⟩
      · exact h.head q e
      · rw [e]; exact h1
    · rename_i h1
      split
      · rename_i h2
        split
        · exact h.tail
        · exact List.pairwise_cons.2 ⟨fun q hq => by rw [← h2]; exact h.head q hq, h.tail⟩
      · rename_i h2
        split
        · exact h
        · refine List.pairwise_cons.2 ⟨fun q hq => ?_, h⟩
          have h3 := kc_tri h1 h2
          rcases List.mem_cons.1 hq with e | e
          · rw [e]; exact h3
          · exact kc_trans h3 (h.head q e)
theorem lay_ful (l : PL) (p : ByteArray × ByteArray) (h : Ful l) : Ful (layP l p) := fun q hq => by
  rcases lay_mem l p q hq with e | ⟨e, h0⟩
  · exact h q e
  · rw [e]; exact h0

theorem get_none : ∀ (l : PL) (k : ByteArray), (∀ q ∈ l, kc k q.1 < 0) → getK l k = none
  | [], k, _ => rfl
  | q :: t, k, h => by
    rw [getK, if_neg (fun e => kc_ne (h q (List.mem_cons_self ..)) e.symm)]
    exact get_none t k fun r hr => h r (List.mem_cons_of_mem _ hr)

theorem get_lay : ∀ (l : PL) (p : ByteArray × ByteArray) (k : ByteArray), Srt l → getK (layP l p) k = if p.1 = k then (if p.2.size = 0 then none else some p.2) else getK l k
  | [], p, k, _ => by
    rw [layP]
    by_cases h0 : p.2.size = 0
    · rw [if_pos h0, if_pos h0]; split <;> rfl
    · rw [if_neg h0, if_neg h0, getK]; rfl
  | a :: t, p, k, h => by
    have ih := get_lay t p k h.tail
    rw [layP]
    by_cases h1 : kc a.1 p.1 < 0
    · rw [if_pos h1, getK, ih, getK]
      by_cases ha : a.1 = k
      · rw [if_pos ha, if_pos ha, if_neg (fun e => kc_ne h1 (ha.trans e.symm))]
      · rw [if_neg ha, if_neg ha]
    · rw [if_neg h1]
      by_cases h2 : a.1 = p.1
      · rw [if_pos h2]
        have htn : getK t p.1 = none := get_none t p.1 fun q hq => by rw [← h2]; exact h.head q hq
        by_cases hk : p.1 = k
        · subst hk
          by_cases h0 : p.2.size = 0
          · rw [if_pos h0, if_pos rfl, if_pos h0, htn]
          · rw [if_neg h0, if_pos rfl, if_neg h0, getK, if_pos rfl]
        · rw [if_neg hk]
          have hak : a.1 ≠ k := fun e => hk (h2.symm.trans e)
          by_cases h0 : p.2.size = 0
          · rw [if_pos h0, getK, if_neg hak]
          · rw [if_neg h0, getK, if_neg hk, getK, if_neg hak]
      · rw [if_neg h2]
        have h3 := kc_tri h1 h2
        by_cases h0 : p.2.size = 0
        · rw [if_pos h0, if_pos h0]
          by_cases hk : p.1 = k
          · subst hk
            rw [if_pos rfl]
            exact get_none (a :: t) p.1 fun q hq => by
              rcases List.mem_cons.1 hq with e | e
              · rw [e]; exact h3
              · exact kc_trans h3 (h.head q e)
          · rw [if_neg hk]
        · rw [if_neg h0, if_neg h0, getK]

theorem srt_ext : ∀ (l m : PL), Srt l → Srt m → (∀ k, getK l k = getK m k) → l = m
  | [], [], _, _, _ => rfl
  | [], b :: m, _, _, h => by have := h b.1; rw [getK, getK, if_pos rfl] at this; cases this
  | a :: l, [], _, _, h => by have := h a.1; rw [getK, getK, if_pos rfl] at this; cases this
  | a :: l, b :: m, hl, hm, h => by
    have hk : a.1 = b.1 := Decidable.byContradiction fun hne => by
      by_cases hlt : kc a.1 b.1 < 0
      · have := h a.1
        rw [getK, if_pos rfl, get_none (b :: m) a.1 (fun q hq => by
          rcases List.mem_cons.1 hq with e | e
          · rw [e]; exact hlt
          · exact kc_trans hlt (hm.head q e))] at this
        cases this
      · have hgt := kc_tri hlt hne
        have := h b.1
        rw [get_none (a :: l) b.1 (fun q hq => by
          rcases List.mem_cons.1 hq with e | e
          · rw [e]; exact hgt
          · exact kc_trans hgt (hl.head q e)), getK, if_pos rfl] at this
        cases this
    have hv : a.2 = b.2 := by
      have := h a.1
      rw [getK, if_pos rfl, getK, if_pos hk.symm] at this
      exact Option.some.inj this
    have ht : l = m := srt_ext l m hl.tail hm.tail fun k => by
      by_cases he : a.1 = k
      · rw [get_none l k (fun q hq => by rw [← he]; exact hl.head q hq), get_none m k (fun q hq => by rw [← he, hk]; exact hm.head q hq)]
      · have := h k
        rwa [getK, if_neg he, getK, if_neg (fun e => he (hk.trans e))] at this
    rw [ht, show a = b from Prod.ext hk hv]

/-- pairs, one behind the other -/
def layL (l ps : PL) : PL := ps.foldl layP l
theorem layL_srt : ∀ (ps l : PL), Srt l → Srt (layL l ps)
  | [], l, h => h
  | p :: t, l, h => layL_srt t (layP l p) (lay_srt l p h)
theorem layL_ful : ∀ (ps l : PL), Ful l → Ful (layL l ps)
  | [], l, h => h
  | p :: t, l, h => layL_ful t (layP l p) (lay_ful l p h)
/-- the last value of a key among pairs, or none; empty: taken away -/
def lastK : PL → ByteArray → Option ByteArray
  | [], _ => none
  | p :: t, k => match lastK t k with
    | some v => some v
    | none => if p.1 = k then some p.2 else none
theorem get_layL : ∀ (ps l : PL) (k : ByteArray), Srt l → getK (layL l ps) k = match lastK ps k with
    | some v => if v.size = 0 then none else some v
    | none => getK l k
  | [], l, k, _ => rfl
  | p :: t, l, k, h => by
    have ih := get_layL t (layP l p) k (lay_srt l p h)
    show getK (layL (layP l p) t) k = _
    rw [ih, get_lay l p k h, lastK]
    cases lastK t k with
    | some v => rfl
    | none =>
      simp only
      by_cases hk : p.1 = k
      · rw [if_pos hk, if_pos hk]
      · rw [if_neg hk, if_neg hk]

/-- where a key stands, or would stand -/
def idxK (l : PL) (k : ByteArray) : Nat := (l.takeWhile fun q => decide (kc q.1 k < 0)).length
theorem idx_le (l : PL) (k : ByteArray) : idxK l k ≤ l.length := (List.takeWhile_sublist _).length_le
theorem idx_cons (q : ByteArray × ByteArray) (t : PL) (k : ByteArray) : idxK (q :: t) k = if kc q.1 k < 0 then idxK t k + 1 else 0 := by
  unfold idxK
  rw [List.takeWhile_cons]
  by_cases h : kc q.1 k < 0
  · rw [decide_eq_true h, if_pos rfl, if_pos h, List.length_cons]
  · rw [decide_eq_false h, if_neg (by simp), if_neg h]; rfl
theorem idx_iff : ∀ (l : PL) (k : ByteArray) (j : Nat) (q : ByteArray × ByteArray), Srt l → l[j]? = some q → (kc q.1 k < 0 ↔ j < idxK l k)
  | [], k, j, q, _, h => by simp at h
  | a :: t, k, 0, q, hs, h => by
    have e : a = q := by simpa using h
    subst e
    rw [idx_cons]
    split <;> simp [*]
  | a :: t, k, j + 1, q, hs, h => by
    have h' : t[j]? = some q := by simpa using h
    have ih := idx_iff t k j q hs.tail h'
    rw [idx_cons]
    by_cases ha : kc a.1 k < 0
    · rw [if_pos ha]
      exact ih.trans (by omega)
    · rw [if_neg ha]
      constructor
      · intro hq
        exact absurd (kc_trans (hs.head q (List.mem_of_getElem? h')) hq) ha
      · intro hq; omega
/-- is it there? -/
def hitK (l : PL) (k : ByteArray) : Bool := match l[idxK l k]? with | some q => decide (q.1 = k) | none => false

theorem lay_idx : ∀ (l : PL) (p : ByteArray × ByteArray), layP l p =
    (if hitK l p.1 then (if p.2.size = 0 then l.take (idxK l p.1) ++ l.drop (idxK l p.1 + 1) else l.take (idxK l p.1) ++ p :: l.drop (idxK l p.1 + 1))
     else (if p.2.size = 0 then l else l.take (idxK l p.1) ++ p :: l.drop (idxK l p.1)))
  | [], p => by
    unfold hitK
    rw [layP]
    simp [idxK]
  | a :: t, p => by
    have ih := lay_idx t p
    rw [layP]
    by_cases h1 : kc a.1 p.1 < 0
    · have hi : idxK (a :: t) p.1 = idxK t p.1 + 1 := by rw [idx_cons, if_pos h1]
      have hh : hitK (a :: t) p.1 = hitK t p.1 := by unfold hitK; rw [hi, List.getElem?_cons_succ]
      rw [if_pos h1, ih, hh, hi]
      repeat' split
      all_goals simp
    · have hi : idxK (a :: t) p.1 = 0 := by rw [idx_cons, if_neg h1]
      have hh : hitK (a :: t) p.1 = decide (a.1 = p.1) := by unfold hitK; rw [hi]; rfl
      rw [if_neg h1, hh, hi]
      by_cases h2 : a.1 = p.1
      · rw [if_pos h2, decide_eq_true h2, if_pos rfl]; rfl
      · rw [if_neg h2, decide_eq_false h2]; rfl

end Go.Proofs.YtkocnbdakfhpaaaGreatDoor

/-
  TWO TEXTS COMPARED BY <, AND AS KEYS. No condition.
-/
namespace Go.Proofs.YtkocnbdakfhpaaaGreatDoor
open Go.ChangeShapes Go.WideShapes Go.ChangeAt Go.RowKit Go.Lib
set_option linter.unusedVariables false
set_option linter.unusedSimpArgs false

theorem less_cb : ∀ a b : List UInt8, Op.bytesLess a b = decide (compareBytes a b < 0)
  | [], [] => by simp [Op.bytesLess, compareBytes]
  | [], _ :: _ => by simp [Op.bytesLess, compareBytes]
  | _ :: _, [] => by simp [Op.bytesLess, compareBytes]
  | x :: a, y :: b => by
    have ih := less_cb a b
    unfold Op.bytesLess compareBytes
    by_cases h1 : x < y
    · simp [h1]
    · by_cases h2 : y < x
      · have h3 : x ≠ y := fun e => by rw [e] at h2; exact UInt8.lt_irrefl y h2
        simp [h1, h2, h3]
      · have e : x = y := by
          rw [UInt8.lt_iff_toNat_lt] at h1 h2
          exact UInt8.toNat_inj.1 (by omega)
        subst e
        simp [h1, ih]
theorem less_kc (a b : ByteArray) : Op.bytesLess a.toList b.toList = decide (kc a b < 0) := by
  unfold kc
  rw [less_cb, toList_data, toList_data]
  rfl

end Go.Proofs.YtkocnbdakfhpaaaGreatDoor

/-
  TWO KEYS COMPARED, AND WHERE A KEY STANDS AMONG PAIRS IN ORDER (slices.BinarySearchFunc). Conditions: how many pairs there are.
-/
namespace Go.Proofs.YtkocnbdakfhpaaaGreatDoor
open Go.ChangeShapes Go.WideShapes Go.ChangeAt Go.RowKit Go.Lib
set_option linter.unusedVariables false
set_option linter.unusedSimpArgs false
set_option maxRecDepth 20000

set_option maxHeartbeats 1000000 in
theorem cmpkey_ok (k v key : ByteArray) (w : World) :
    Calls Tryz.prog 72 #[.agg #[.string k, .string v], .string key] w fun e w' => e = .returned (.int .i64 (kc k key)) ∧ Below w.heap.size w w' := by
  have hb0 := (Below.refl w.heap.size w).alloc (Nat.le_refl _) (.cells #[.string k, .string v] 23)
  have hc := fun w => Tryz.strings_Compare k key w
  change ∀ w, Calls _ _ _ _ fun e w' => e = .returned (.int .i64 (kc k key)) ∧ w' = w at hc
  generalize kc k key = q at *
  go_enter Tryz.func72, Tryz.ntmps72
  go_wp2_with (go_at_call 88; refine (hc _).mono ?_; rintro e w1 ⟨rfl, hw1⟩; obtain rfl := hw1.symm)
  all_goals go_ret
  all_goals exact ⟨rfl, hb0⟩

theorem hit_at {l : PL} {k : ByteArray} {q : ByteArray × ByteArray} (h : l[idxK l k]? = some q) : hitK l k = decide (q.1 = k) := by unfold hitK; rw [h]
theorem hit_end {l : PL} {k : ByteArray} (h : ¬ idxK l k < l.length) : hitK l k = false := by unfold hitK; rw [List.getElem?_eq_none (by omega)]
theorem drop_getq {l : PL} {i : Nat} {q : ByteArray × ByteArray} (h : l.drop i = q :: l.drop (i + 1)) : l[i]? = some q := by
  have := congrArg List.head? h
  rwa [List.head?_drop, List.head?_cons] at this

set_option maxHeartbeats 4000000 in
theorem bsf_ok {w : World} {a : Option Addr} {n c : Nat} {l : PL} (h : Pys w a n c l) (hs : Srt l) (key : ByteArray) (hn : n ≤ 1000000) :
    Calls Tryz.prog 71 #[.slice a n c, .string key, .func (.func 72) #[] #[]] w fun e w' => e = .returned (.tuple #[.int .i64 (idxK l key), .bool (hitK l key)]) ∧ Below w.heap.size w w' := by
  have hm1 := h.2.1
  have hm2 := h.2.2.1
  obtain ⟨I, hI⟩ : ∃ I, I = idxK l key := ⟨_, rfl⟩
  obtain ⟨H, hH⟩ : ∃ H, H = hitK l key := ⟨_, rfl⟩
  have hIn : I ≤ n := by rw [hI, ← h.1]; exact idx_le l key
  rw [← hI, ← hH]
  replace hI := hid hI
  replace hH := hid hH
  have hl := hid h.1
  have hs' := hid hs
  have hck := fun k v w => cmpkey_ok k v key w
  clear hs
  go_enter Tryz.func71, Tryz.ntmps71
  go_wp2
  go_loopw [9, 10] (fun x y wr => ∃ lo hi : Nat, x = .int .i64 lo ∧ y = .int .i64 hi ∧ lo ≤ I ∧ I ≤ hi ∧ hi ≤ n ∧ Below w.heap.size w wr) (fun x y _ => (RowKit.intOf y).toNat - (RowKit.intOf x).toNat)
  case atStart => exact ⟨0, n, rfl, rfl, by omega, hIn, Nat.le_refl _, Below.refl _ _⟩
  case round =>
    obtain ⟨lo, hi, rfl, rfl, h1, h2, h3, hb⟩ := hrel
    by_cases hlt : lo < hi
    · obtain ⟨b, off, rfl, hc⟩ := h.some_of (by omega)
      obtain ⟨mi, hmi⟩ : ∃ mi, mi = (lo + hi) / 2 := ⟨_, rfl⟩
      obtain ⟨ky, vl, hmem, hd, c0, c1⟩ := (hc.below hb).at mi (by rw [hl.out]; omega)
      have hiff := idx_iff l key mi (ky, vl) hs'.out (drop_getq hd.out)
      rw [← hI.out] at hiff
      simp only at hiff
      have hcc := hck ky vl wr
      have hltI : (lo : Int) < (hi : Int) := by omega
      have hmI : ((lo : Int) + (hi : Int)) / 2 = (mi : Int) := by omega
      have hmn : (mi : Int) < (n : Int) := by omega
      have g1 : lo ≤ mi := by omega
      have g2 : mi < hi := by omega
      clear hmi
      generalize kc ky key = q at *
      clear hd hmem hck
      by_cases hq : q < 0
      · have hmI2 := hiff.1 hq
        clear hiff
        go_wp2_with (go_at_call 72; refine hcc.mono ?_; rintro e w1 ⟨rfl, hb1⟩)
        go_roundw
        case rel => exact ⟨mi + 1, hi, by go_num, rfl, by omega, by omega, by omega, hb.trans (hb1.mono hb.size)⟩
        case measure => simp [RowKit.intOf]; omega
      · have hmI2 : ¬ mi < I := fun e => hq (hiff.2 e)
        clear hiff
        go_wp2_with (go_at_call 72; refine hcc.mono ?_; rintro e w1 ⟨rfl, hb1⟩)
        go_roundw
        case rel => exact ⟨lo, mi, rfl, by go_num, by omega, by omega, by omega, hb.trans (hb1.mono hb.size)⟩
        case measure => simp [RowKit.intOf]; omega
    · obtain rfl : lo = I := by omega
      obtain rfl : hi = lo := by omega
      have hltI : ¬ (hi : Int) < (hi : Int) := by omega
      by_cases hin : hi < n
      · obtain ⟨b, off, rfl, hc⟩ := h.some_of (by omega)
        obtain ⟨ky, vl, hmem, hd, c0, c1⟩ := (hc.below hb).at hi (by rw [hl.out]; omega)
        have hg := drop_getq hd.out
        rw [hI.out] at hg
        have hht := hit_at hg
        have hcc := hck ky vl wr
        have hinI : (hi : Int) < (n : Int) := by omega
        by_cases he : ky = key
        · obtain rfl : H = true := by rw [hH.out, hht]; exact decide_eq_true he
          have hk0 : kc ky key = 0 := by rw [he, kc_self]
          rw [hk0] at hcc
          clear hg hht hd hmem hck hI hH he hk0
          go_wp2_with (go_at_call 72; refine hcc.mono ?_; rintro e w1 ⟨rfl, hb1⟩)
          all_goals go_ret2
          all_goals exact ⟨rfl, hb.trans (hb1.mono hb.size)⟩
        · obtain rfl : H = false := by rw [hH.out, hht]; exact decide_eq_false he
          have hk0 : (kc ky key == 0) = false := by simp; exact fun e => he (kc_zero e)
          generalize kc ky key = q at *
          clear hg hht hd hmem hck hI hH he
          go_wp2_with (go_at_call 72; refine hcc.mono ?_; rintro e w1 ⟨rfl, hb1⟩)
          all_goals go_ret2
          all_goals exact ⟨rfl, hb.trans (hb1.mono hb.size)⟩
      · obtain rfl : H = false := by rw [hH.out]; exact hit_end (by rw [hl.out, ← hI.out]; exact hin)
        have hinI : ¬ (hi : Int) < (n : Int) := by omega
        clear hI hH hck
        go_wp2
        all_goals go_ret2
        all_goals exact ⟨rfl, hb⟩

end Go.Proofs.YtkocnbdakfhpaaaGreatDoor

/-
  copy AND clear AND append ON ROWS OF PAIRS, as runs. Nothing of the program. No condition.
-/
namespace Go.Proofs.YtkocnbdakfhpaaaGreatDoor
open Go.ChangeShapes Go.WideShapes Go.ChangeAt Go.RowKit
set_option linter.unusedVariables false

theorem run_copy_rowS {P : Program} (w : World) (dT sT ty elem : TypeId) (g o dLen dCap : Nat) (a : Addr) (sLen sCap : Nat) (cur : Array Value) (t : TypeId) (cs : List Value) (i : TypeInfo)
    (hu : P.underlying dT = some (.slice elem)) (hi : P.info? elem = some i) (hg : w.heap[g]? = some (.cells cur t (0, 0))) (hn : cs.length = Nat.min sLen dLen * i.size)
    (hsrc : ∀ j v, cs[j]? = some v → w.cell? (a.add j) = some v) (hfit : o + cs.length ≤ cur.size) (h1 : ∀ v ∈ cs, v.oneCell' = true) :
    (Builtin.copy_ #[dT, sT] ty #[.slice (some ⟨g, o, none⟩) dLen dCap, .slice (some a) sLen sCap]).run P w =
      .ok (goInt (Nat.min sLen dLen)) (w.setRow g (cur.toList.take o ++ cs ++ cur.toList.drop (o + cs.length)).toArray) := by
  have hf := run_firstCells_some (P := P) w i.size (Nat.min sLen dLen) a sLen sCap cs hn hsrc
  have hst := run_storeCells_at P g o t cs 0 cur w hg (by simpa using hfit) h1
  simp only [Nat.add_zero] at hst
  simp [Builtin.copy_, run_underlying hu, Builtin.lenOf, sizeOf, typeInfo, hi, hf, hst]

theorem run_clear_one {P : Program} (w : World) (t e ty : TypeId) (ht : P.underlying t = some (.slice e)) (hv : ∀ w, (zeroValue e).run P w = .ok (.agg #[.string ⟨#[]⟩, .string ⟨#[]⟩]) w) (g o c : Nat) (cur : Array Value) (t' : TypeId)
    (hg : w.heap[g]? = some (.cells cur t' (0, 0))) (hfit : o + 2 ≤ cur.size) :
    (Builtin.clear_ #[t] ty #[.slice (some ⟨g, o, none⟩) 1 c]).run P w = .ok (.tuple #[]) (w.setRow g (cur.toList.take o ++ [Value.string ⟨#[]⟩, Value.string ⟨#[]⟩] ++ cur.toList.drop (o + 2)).toArray) := by
  have hz : (Builtin.zeroCells (Value.agg #[.string ⟨#[]⟩, .string ⟨#[]⟩]).cells 1).toList = [Value.string ⟨#[]⟩, Value.string ⟨#[]⟩] := by kernel_rfl
  have hst := run_storeCells_at P g o t' [Value.string ⟨#[]⟩, Value.string ⟨#[]⟩] 0 cur w hg (by simpa using hfit) (by intro v hv; simp at hv; subst hv; rfl)
  simp only [Nat.add_zero] at hst
  simp [Builtin.clear_, run_underlying ht, hv, hz, hst]

theorem step_append_run {P : Program} {ops : Array Oper} {o : Oper} {a : Act} {w : World} {K : Act → World → Prop} {Q : Exit → Act → World → Prop} {E : Prop}
    (hg : o.guard = none) (s x : Operand) (sT xT : TypeId) (hop : o.op = Op.call { callee := Callee.builtin Builtin.append, args := #[s, x], argTypes := #[sT, xT] })
    (v u : Value) (hs : a.eval s = v) (hx : a.eval x = u) {v' : Value} {w' : World} (hr : (Builtin.append_ #[sT, xT] o.type #[v, u]).run P w = .ok v' w') (hK : K (a.put o.dst v') w') :
    if Region.wanted o (yielded ops a.tmps) = true then Oper.wp P o a w K Q else E := by
  have hw : Region.wanted o (yielded ops a.tmps) = true := by simp [Region.wanted, hg]
  rw [if_pos hw]
  unfold Oper.wp
  simp [execOp, hop, resolve, invoke, builtin, hs, hx, hr, Result.andThen]
  exact hK
theorem step_copy_run {P : Program} {ops : Array Oper} {o : Oper} {a : Act} {w : World} {K : Act → World → Prop} {Q : Exit → Act → World → Prop} {E : Prop}
    (hg : o.guard = none) (d x : Operand) (dT sT : TypeId) (hop : o.op = Op.call { callee := Callee.builtin Builtin.copy, args := #[d, x], argTypes := #[dT, sT] })
    (v u : Value) (hd : a.eval d = v) (hx : a.eval x = u) {v' : Value} {w' : World} (hr : (Builtin.copy_ #[dT, sT] o.type #[v, u]).run P w = .ok v' w') (hK : K (a.put o.dst v') w') :
    if Region.wanted o (yielded ops a.tmps) = true then Oper.wp P o a w K Q else E := by
  have hw : Region.wanted o (yielded ops a.tmps) = true := by simp [Region.wanted, hg]
  rw [if_pos hw]
  unfold Oper.wp
  simp [execOp, hop, resolve, invoke, builtin, hd, hx, hr, Result.andThen]
  exact hK
theorem wpList_copy_run {P : Program} (w : World) {ops : Array Oper} {rest : List Oper} {o : Oper} {a : Act} {Q : Exit → Act → World → Prop} (hgd : o.guard = none) (d s : Operand) (t t' : TypeId)
    (ho : o.op = .call { callee := .builtin .copy, args := #[d, s], argTypes := #[t, t'] }) (v u : Value) (hd : a.eval d = v) (hs : a.eval s = u) {v' : Value} {w' : World}
    (hr : (Builtin.copy_ #[t, t'] o.type #[v, u]).run P w = .ok v' w') (h : wpList P ops Q rest (a.put o.dst v') w') : wpList P ops Q (o :: rest) a w := by
  refine wpList_plain hgd fun K hK => ?_
  unfold Oper.wp execOp
  simp only [ho, resolve, invoke, builtin, Sem.run_bind, Sem.run_pure, Result.andThen_ok, List.map_toArray, List.map_cons, List.map_nil, hd, hs, hr]
  exact hK _ _ h
theorem wpList_clear_run {P : Program} (w : World) {ops : Array Oper} {rest : List Oper} {o : Oper} {a : Act} {Q : Exit → Act → World → Prop} (hgd : o.guard = none) (d : Operand) (t : TypeId)
    (ho : o.op = .call { callee := .builtin .clear, args := #[d], argTypes := #[t] }) (v : Value) (hd : a.eval d = v) {v' : Value} {w' : World}
    (hr : (Builtin.clear_ #[t] o.type #[v]).run P w = .ok v' w') (h : wpList P ops Q rest (a.put o.dst v') w') : wpList P ops Q (o :: rest) a w := by
  refine wpList_plain hgd fun K hK => ?_
  unfold Oper.wp execOp
  simp only [ho, resolve, invoke, builtin, Sem.run_bind, Sem.run_pure, Result.andThen_ok, List.map_toArray, List.map_cons, List.map_nil, hd, hr]
  exact hK _ _ h
theorem wpList_append_run' {P : Program} (w : World) {ops : Array Oper} {rest : List Oper} {o : Oper} {a : Act} {Q : Exit → Act → World → Prop} (hgd : o.guard = none) (d s : Operand) (t t' : TypeId)
    (ho : o.op = .call { callee := .builtin .append, args := #[d, s], argTypes := #[t, t'] }) (v u : Value) (hd : a.eval d = v) (hs : a.eval s = u) {v' : Value} {w' : World}
    (hr : (Builtin.append_ #[t, t'] o.type #[v, u]).run P w = .ok v' w') (h : wpList P ops Q rest (a.put o.dst v') w') : wpList P ops Q (o :: rest) a w := by
  refine wpList_plain hgd fun K hK => ?_
  unfold Oper.wp execOp
  simp only [ho, resolve, invoke, builtin, Sem.run_bind, Sem.run_pure, Result.andThen_ok, List.map_toArray, List.map_cons, List.map_nil, hd, hs, hr]
  exact hK _ _ h

end Go.Proofs.YtkocnbdakfhpaaaGreatDoor

/-
  A PAIR TAKEN AWAY OUT OF A ROW OF PAIRS THAT THE CALL OWNS (slices.Delete). Conditions: none but that it is there.
-/
namespace Go.Proofs.YtkocnbdakfhpaaaGreatDoor
open Go.ChangeShapes Go.WideShapes Go.ChangeAt Go.RowKit Go.Lib
set_option linter.unusedVariables false
set_option linter.unusedSimpArgs false
set_option maxRecDepth 20000

theorem below_setRow {B : Nat} {a w : World} (h : Below B a w) {g : Nat} (hg : B ≤ g) (cs : Array Value) : Below B a (w.setRow g cs) :=
  ⟨h.os, h.tape, h.output, by have := h.size; simpa [World.setRow] using this, fun k hk => (setRow_other w g k cs (by omega)).trans (h.block k hk)⟩

/-- a row of pairs that the call owns: its block -/
structure PRow (w : World) (B g n cap : Nat) (l : List (ByteArray × ByteArray)) (cur : Array Value) : Prop where
  len : l.length = n
  base : B ≤ g
  blk : w.heap[g]? = some (.cells cur 23 (0, 0))
  nc : n ≤ cap
  cm : cap ≤ 9223372036854775807
  size : cur.size = cap * 2
  take : cur.toList.take (n * 2) = pcs2 l

theorem PRow.of {w : World} {B g n cap : Nat} {l : List (ByteArray × ByteArray)} (h : w.ownsRow B 23 2 (.slice (some ⟨g, 0, none⟩) n cap) n (pcs2 l)) : ∃ cur, PRow w B g n cap l cur := by
  have hl : l.length = n := by have := h.1; rw [pcs2_len] at this; omega
  rcases h.2 with ⟨h0, _⟩ | ⟨g', cap', cur, hv, hb, hg, h1, h2, h3, h4⟩
  · cases h0
  · cases hv
    exact ⟨cur, hl, hb, hg, h1, by unfold maxLen at h2; omega, h3, h4⟩
theorem PRow.own {w : World} {B g n cap : Nat} {l : List (ByteArray × ByteArray)} {cur : Array Value} (h : PRow w B g n cap l cur) : w.ownsRow B 23 2 (.slice (some ⟨g, 0, none⟩) n cap) n (pcs2 l) :=
  ⟨by rw [pcs2_len, h.len], .inr ⟨g, cap, cur, rfl, h.base, h.blk, h.nc, by have := h.cm; unfold maxLen; omega, h.size, h.take⟩⟩
theorem PRow.cell {w : World} {B g n cap : Nat} {l : List (ByteArray × ByteArray)} {cur : Array Value} (h : PRow w B g n cap l cur) (j : Nat) : w.cell? ⟨g, j, none⟩ = cur[j]? := by simp [World.cell?, h.blk]
theorem pcs2_drop (l : List (ByteArray × ByteArray)) : ∀ i, (pcs2 l).drop (i * 2) = pcs2 (l.drop i) := by
  induction l with
  | nil => intro i; simp [pcs2]
  | cons p t ih =>
    intro i
    cases i with
    | zero => simp
    | succ i =>
      have e : pcs2 (p :: t) = .string p.1 :: .string p.2 :: pcs2 t := rfl
      rw [e, show (i + 1) * 2 = i * 2 + 1 + 1 by omega, List.drop_succ_cons, List.drop_succ_cons, ih, List.drop_succ_cons]
theorem pcs2_take (l : List (ByteArray × ByteArray)) : ∀ i, (pcs2 l).take (i * 2) = pcs2 (l.take i) := by
  induction l with
  | nil => intro i; simp [pcs2]
  | cons p t ih =>
    intro i
    cases i with
    | zero => simp [pcs2]
    | succ i =>
      have e : pcs2 (p :: t) = .string p.1 :: .string p.2 :: pcs2 t := rfl
      rw [e, show (i + 1) * 2 = i * 2 + 1 + 1 by omega, List.take_succ_cons, List.take_succ_cons, ih, List.take_succ_cons]
      rfl
theorem pcs2_cat (a b : List (ByteArray × ByteArray)) : pcs2 (a ++ b) = pcs2 a ++ pcs2 b := by unfold pcs2; simp
theorem pcs2_one (l : List (ByteArray × ByteArray)) : ∀ u ∈ pcs2 l, u.oneCell' = true := by
  intro u hu
  unfold pcs2 at hu
  obtain ⟨p, _, h⟩ := List.mem_flatMap.1 hu
  simp at h
  rcases h with rfl | rfl <;> rfl
/-- the cells from an element on -/
theorem PRow.from {w : World} {B g n cap : Nat} {l : List (ByteArray × ByteArray)} {cur : Array Value} (h : PRow w B g n cap l cur) (i : Nat) (hi : i ≤ n) : ∀ j u, (pcs2 (l.drop i))[j]? = some u → w.cell? ⟨g, i * 2 + j, none⟩ = some u := by
  intro j u hj
  rw [← pcs2_drop, List.getElem?_drop] at hj
  have hlt : i * 2 + j < n * 2 := by
    have := (List.getElem?_eq_some_iff.1 hj).1
    rw [pcs2_len, h.len] at this
    exact this
  rw [h.cell, ← Array.getElem?_toList, ← List.getElem?_take_of_lt hlt, h.take]
  exact hj
theorem PRow.head {w : World} {B g n cap : Nat} {l : List (ByteArray × ByteArray)} {cur : Array Value} (h : PRow w B g n cap l cur) (i : Nat) (hi : i ≤ n) : cur.toList.take (i * 2) = pcs2 (l.take i) := by
  have := congrArg (List.take (i * 2)) h.take
  rwa [List.take_take, Nat.min_eq_left (by omega), pcs2_take] at this

theorem zeroPair : ∀ w, (zeroValue 23).run Tryz.prog w = .ok (.agg #[.string ⟨#[]⟩, .string ⟨#[]⟩]) w := by
  intro w
  obtain ⟨i0, hi, hz0, hz1, hz2⟩ := info_parts infoPair
  simp [zeroValue, typeInfo, hi, hz0]

set_option maxHeartbeats 4000000 in
theorem del_ok {w : World} {B g n cap : Nat} {l : List (ByteArray × ByteArray)} (h : w.ownsRow B 23 2 (.slice (some ⟨g, 0, none⟩) n cap) n (pcs2 l)) (i : Nat) (hi : i < n) :
    Calls Tryz.prog 73 #[.slice (some ⟨g, 0, none⟩) n cap, .int .i64 i, .int .i64 (i + 1 : Int)] w fun e w' =>
      e = .returned (.slice (some ⟨g, 0, none⟩) (n - 1) cap) ∧ w'.ownsRow B 23 2 (.slice (some ⟨g, 0, none⟩) (n - 1) cap) (n - 1) (pcs2 (l.take i ++ l.drop (i + 1))) ∧ Below B w w' := by
  obtain ⟨cur, R⟩ := PRow.of h
  obtain ⟨i0, hi0, hz0, hz1, hz2⟩ := info_parts infoPair
  have hnc := R.nc
  have hcm := R.cm
  have hcs := R.size
  have hln := R.len
  obtain ⟨news, hnews⟩ : ∃ news, news = pcs2 (l.drop (i + 1)) := ⟨_, rfl⟩
  have hnl : news.length = (n - (i + 1)) * i0.size := by rw [hnews, pcs2_len, List.length_drop, R.len, hz1]
  have hn1 : ∀ u ∈ news, u.oneCell' = true := by rw [hnews]; exact pcs2_one _
  have hnl2 : news.length = (n - (i + 1)) * 2 := by rw [hnl, hz1]
  obtain ⟨A, hA, hsrc⟩ : ∃ A : Addr, (if cap = i + 1 then some (⟨g, 0, none⟩ : Addr) else some ⟨g, (i + 1) * 2, none⟩) = some A ∧ Hid (∀ j u, news[j]? = some u → w.drew.cell? (A.add j) = some u) := by
    by_cases hc : cap = i + 1
    · refine ⟨⟨g, 0, none⟩, by simp [hc], hid fun j u hu => ?_⟩
      have h0 : news.length = 0 := by rw [hnl2]; omega
      rw [List.length_eq_zero_iff.1 h0] at hu
      simp at hu
    · refine ⟨⟨g, (i + 1) * 2, none⟩, by simp [hc], hid fun j u hu => ?_⟩
      rw [Addr.add_lit]
      exact R.from (i + 1) (by omega) j u (by rw [← hnews]; exact hu)
  obtain ⟨C1, hC1⟩ : ∃ C1, C1 = (cur.toList.take (i * i0.size) ++ news ++ cur.toList.drop (i * i0.size + news.length)).toArray := ⟨_, rfl⟩
  have happ := fun ty => run_append_room (P := Tryz.prog) w.drew 26 ty 23 i0 Tryz.underlying26 hi0 g i cap cur R.blk A (n - (i + 1)) (cap - (i + 1)) news hnl hsrc.out hn1 (by omega) (by rw [hz1, hnl2, hcs]; omega)
  rw [← hC1, show i + (n - (i + 1)) = n - 1 by omega] at happ
  obtain ⟨W1, hW1⟩ : ∃ W1, W1 = w.drew.setRow g C1 := ⟨_, rfl⟩
  rw [← hW1] at happ
  have hC1s : C1.size = cap * 2 := by
    rw [hC1]
    simp only [List.size_toArray, List.length_append, List.length_take, List.length_drop, Array.length_toList]
    rw [hz1, hnl2, hcs]; omega
  have hblk1 : W1.heap[g]? = some (.cells C1 23 (0, 0)) := by rw [hW1]; exact setRow_heap w.drew g cur C1 23 (0, 0) R.blk
  have hclr := fun ty c => run_clear_one (P := Tryz.prog) W1 26 23 ty Tryz.underlying26 zeroPair g ((n - 1) * 2) c C1 23 hblk1 (by rw [hC1s]; omega)
  obtain ⟨C2, hC2⟩ : ∃ C2, C2 = (C1.toList.take ((n - 1) * 2) ++ [Value.string ⟨#[]⟩, Value.string ⟨#[]⟩] ++ C1.toList.drop ((n - 1) * 2 + 2)).toArray := ⟨_, rfl⟩
  rw [← hC2] at hclr
  have hC2s : C2.size = cap * 2 := by
    rw [hC2]
    simp only [List.size_toArray, List.length_append, List.length_take, List.length_drop, Array.length_toList, List.length_cons, List.length_nil]
    rw [hC1s]; omega
  have R2 : PRow (W1.setRow g C2) B g (n - 1) cap (l.take i ++ l.drop (i + 1)) C2 := by
    refine ⟨?_, R.base, setRow_heap W1 g C1 C2 23 (0, 0) hblk1, by omega, hcm, hC2s, ?_⟩
    · rw [List.length_append, List.length_take, List.length_drop, R.len]; omega
    · have e1 : C1.toList.take ((n - 1) * 2) = pcs2 (l.take i ++ l.drop (i + 1)) := by
        rw [hC1, List.toList_toArray, hz1, R.head i (by omega), hnews, ← pcs2_cat, List.take_append_of_le_length (by rw [pcs2_len, List.length_append, List.length_take, List.length_drop, R.len]; omega), List.take_of_length_le (by rw [pcs2_len, List.length_append, List.length_take, List.length_drop, R.len]; omega)]
      rw [hC2, List.toList_toArray, List.append_assoc, List.take_append_of_le_length (by rw [List.length_take, Array.length_toList, hC1s]; omega), List.take_of_length_le (by rw [List.length_take]; omega), e1]
  have hbel : Below B w (W1.setRow g C2) := by
    have hb1 : Below B w W1 := by rw [hW1]; exact below_setRow (Below.refl B w).drew R.base C1
    exact below_setRow hb1 R.base C2
  have hown := hid R2.own
  clear R2 hC2 hC1 hC1s hC2s hblk1 hnl hnl2 hn1 hnews R h hsrc
  replace hW1 := hid hW1
  have hiI : (i : Int) < (n : Int) := by omega
  have h01 : (0 : Int) ≤ (i : Int) + 1 := by omega
  have hic : i ≤ cap := by omega
  have hjc : i + 1 ≤ cap := by omega
  have hjn : i + 1 ≤ n := by omega
  have hic2 : (i : Int) ≤ (cap : Int) := by omega
  have hjc2 : (i : Int) + 1 ≤ (cap : Int) := by omega
  have hjn2 : (i : Int) + 1 ≤ (n : Int) := by omega
  have hk1 : n - (n - 1) = 1 := by omega
  have hk2 : n - 1 ≤ n := by omega
  have hk3 : ¬ cap = n - 1 := by omega
  have hne : ((i : Int) == (i : Int) + 1) = false := by simp; omega
  go_enter Tryz.func73, Tryz.ntmps73
  go_wp2_with fail
  go_region_law (refine step_append_run rfl (.tmp 22) (.tmp 25) 26 26 rfl _ _ (by simp [Act.eval, Act.put]) (by simp [Act.eval, Act.put]) (happ _) ?_)
  go_wp2_with (at_builtin; refine wpList_clear_run _ rfl (.tmp 31) 26 rfl _ rfl (hclr _ _) ?_)
  go_ret
  exact ⟨rfl, hown.out, hbel⟩

end Go.Proofs.YtkocnbdakfhpaaaGreatDoor

/-
  A PAIR PUT INTO A ROW OF PAIRS THAT THE CALL OWNS (slices.Insert of one pair). Conditions: how many pairs there are.
-/
namespace Go.Proofs.YtkocnbdakfhpaaaGreatDoor
open Go.ChangeShapes Go.WideShapes Go.ChangeAt Go.RowKit Go.Lib
set_option linter.unusedVariables false
set_option linter.unusedSimpArgs false
set_option maxRecDepth 20000

theorem run_append_zeros_grow {P : Program} (w : World) (t tn ty e : TypeId) (i : TypeInfo) (z : Value) (ht : P.underlying t = some (.slice e)) (htn : P.underlying tn = some (.int .i64)) (hi : P.info? e = some i) (hz : i.zero = some z)
    (b : Addr) (sLen sCap : Nat) (olds : List Value) (hlo : olds.length = sLen * i.size) (holds : ∀ j v, olds[j]? = some v → w.cell? (b.add j) = some v)
    (n : Nat) (h0 : 0 < n) (hs : 0 < i.size) (hg : sCap < sLen + n) (h63 : ((sLen + n : Nat) : Int) ≤ 9223372036854775807) (hm : n * i.bytes ≤ 281474976710656) (hfit : Builtin.nextslicecap (sLen + n) sCap * i.bytes ≤ 281474976710656) :
    (Builtin.append_ #[t, tn] ty #[.slice (some b) sLen sCap, .int .i64 n]).run P w =
      .ok (.slice (some ⟨w.heap.size, 0, none⟩) (sLen + n) (grownCap w (sLen + n) sCap e))
        (w.drew.alloc (.cells (olds.toArray ++ Builtin.zeroCells z.cells n ++ Builtin.zeroCells z.cells (grownCap w (sLen + n) sCap e - (sLen + n))) e)) := by
  have hn : ¬ (sLen + n ≤ sCap) := by omega
  have hw : IntKind.i64.wrap (n : Int) = n := by rw [IntKind.wrap_i64]; omega
  have h63' : ¬ (9223372036854775807 < ((sLen : Int) + (n : Int))) := by omega
  have h48' : ¬ (281474976710656 < Builtin.nextslicecap (sLen + n) sCap * i.bytes) := by omega
  have h48i : ¬ (281474976710656 < (n : Int) * (i.bytes : Int)) := by
    rw [← Int.natCast_mul]
    omega
  have hneg : ¬ ((n : Int) < 0) := by omega
  have hns : ¬ (n * i.size = 0) := Nat.mul_ne_zero (by omega) (by omega)
  have hn0 : n ≠ 0 := by omega
  have hfo := run_firstCells_some (P := P) w.drew i.size sLen b sLen sCap olds hlo (by simpa using holds)
  simp [Builtin.append_, run_underlying ht, run_underlying htn, sizeOf, typeInfo, zeroValue, hi, hz, asInt, asIntOf, hw, hn, hn0, hneg, hns, h63', h48', h48i, Question.forced, hfo, newRow, grownCap]

theorem pcs2_mid (l : List (ByteArray × ByteArray)) (i : Nat) (k v : ByteArray) : pcs2 (l.take i ++ (k, v) :: l.drop i) = pcs2 (l.take i) ++ ([Value.string k, Value.string v] ++ pcs2 (l.drop i)) := by
  rw [pcs2_cat]; rfl
theorem pair_src {w : World} {vb : Nat} {k v : ByteArray} (h : Blk w vb #[.string k, .string v] 23) : ∀ j u, ([.string k, .string v] : List Value)[j]? = some u → w.cell? ((⟨vb, 0, none⟩ : Addr).add j) = some u := by
  intro j u hj
  rw [Addr.add_lit, h.cell]
  match j, hj with
  | 0, hj => simpa using hj
  | 1, hj => simpa using hj
theorem pair_one (k v : ByteArray) : ∀ u ∈ ([.string k, .string v] : List Value), u.oneCell' = true := by
  intro u hu; simp at hu; rcases hu with rfl | rfl <;> rfl

set_option maxHeartbeats 4000000 in
theorem ins_end {w : World} {B n vb : Nat} {o : Value} {l : List (ByteArray × ByteArray)} {k v : ByteArray} (h : w.ownsRow B 23 2 o n (pcs2 l)) (hn : n ≤ 1000000) (hB : B ≤ w.heap.size) (hv : Blk w vb #[.string k, .string v] 23) :
    Calls Tryz.prog 74 #[o, .int .i64 n, .slice (some ⟨vb, 0, none⟩) 1 1] w fun e w' =>
      ∃ o', e = .returned o' ∧ w'.ownsRow B 23 2 o' (n + 1) (pcs2 (l ++ [(k, v)])) ∧ Below B w w' := by
  obtain ⟨i0, hi0, hz0, hz1, hz2⟩ := info_parts infoPair
  have hsrc := pair_src hv
  have h1 := pair_one k v
  have hlt := h.lt
  rcases h.2 with ⟨rfl, rfl⟩ | ⟨g, cap, cur, rfl, hb, hg, hnc, hcm, hcs, htk⟩
  · go_enter Tryz.func74, Tryz.ntmps74
    go_wp2_with (at_builtin; refine wpList_append_own (P := Tryz.prog) _ rfl (.tmp 23) (.tmp 24) 26 rfl B 23 i0 (.agg #[.string ⟨#[]⟩, .string ⟨#[]⟩]) 2 32 Tryz.underlying26 hi0 hz0 hz1 hz2 rfl (by decide) _ _ _ rfl h ⟨vb, 0, none⟩ 1 1 [.string k, .string v] rfl rfl hsrc h1 (by unfold maxLen; omega) (by omega) hB ?_; intro v' w3 hown' hgrow' _)
    all_goals go_ret
    all_goals exact ⟨_, rfl, by rw [pcs2_app]; exact hown', (Below.refl B w).grown hgrow' hB (fun g hg => (hlt g hg).1)⟩
  · unfold maxLen at hcm
    have hz9 : n ≤ cap := hnc
    have hzc : (n : Int) ≤ (cap : Int) := by omega
    go_enter Tryz.func74, Tryz.ntmps74
    go_wp2_with (at_builtin; refine wpList_append_own (P := Tryz.prog) _ rfl (.tmp 23) (.tmp 24) 26 rfl B 23 i0 (.agg #[.string ⟨#[]⟩, .string ⟨#[]⟩]) 2 32 Tryz.underlying26 hi0 hz0 hz1 hz2 rfl (by decide) _ _ _ rfl h ⟨vb, 0, none⟩ 1 1 [.string k, .string v] rfl rfl hsrc h1 (by unfold maxLen; omega) (by omega) hB ?_; intro v' w3 hown' hgrow' _)
    all_goals go_ret
    all_goals exact ⟨_, rfl, by rw [pcs2_app]; exact hown', (Below.refl B w).grown hgrow' hB (fun g hg => (hlt g hg).1)⟩

set_option maxHeartbeats 4000000 in
theorem ins_shift {w : World} {B g n cap vb : Nat} {l : List (ByteArray × ByteArray)} {k v : ByteArray} (h : w.ownsRow B 23 2 (.slice (some ⟨g, 0, none⟩) n cap) n (pcs2 l)) (i : Nat) (hi : i < n) (hroom : n + 1 ≤ cap) (hv : Blk w vb #[.string k, .string v] 23) (hne : vb ≠ g) :
    Calls Tryz.prog 74 #[.slice (some ⟨g, 0, none⟩) n cap, .int .i64 i, .slice (some ⟨vb, 0, none⟩) 1 1] w fun e w' =>
      ∃ o', e = .returned o' ∧ w'.ownsRow B 23 2 o' (n + 1) (pcs2 (l.take i ++ (k, v) :: l.drop i)) ∧ Below B w w' := by
  obtain ⟨cur, R⟩ := PRow.of h
  obtain ⟨i0, hi0, hz0, hz1, hz2⟩ := info_parts infoPair
  have hnc := R.nc
  have hcm := R.cm
  have hcs := R.size
  obtain ⟨N, hN⟩ : ∃ N, N = pcs2 (l.drop i) := ⟨_, rfl⟩
  have hNl : N.length = (n - i) * 2 := by rw [hN, pcs2_len, List.length_drop, R.len]
  have hN1 : ∀ u ∈ N, u.oneCell' = true := by rw [hN]; exact pcs2_one _
  have hov : ∀ lb cb, (callFunc 89 #[.slice (some ⟨vb, 0, none⟩) 1 1, .slice (some ⟨g, (i + 1) * 2, none⟩) lb cb]).run Tryz.prog w = .ok (.value (.bool false)) w := fun lb cb => by
    rw [run_callFunc_extern Tryz.func89 (by kernel_rfl) (by kernel_rfl) (by kernel_rfl) (e := Extern.SlicesOverlaps.overlaps #[26, 26] #[4]) (by kernel_rfl),
      Lib.run_overlaps_apart w 26 4 23 Tryz.underlying26 2 (by intro w; simp [sizeOf, typeInfo, hi0, hz1]) ⟨vb, 0, none⟩ ⟨g, (i + 1) * 2, none⟩ 1 1 lb cb hne 23 23 2 (cap * 2) ?_ ?_ (by omega) (hv.free 0) ?_]
    · rfl
    · unfold World.shape?; rw [hv]; try rfl
    · unfold World.shape?; rw [R.blk, ← hcs]; try rfl
    · exact hv.free 2
  obtain ⟨C1, hC1⟩ : ∃ C1, C1 = (cur.toList.take ((i + 1) * 2) ++ N ++ cur.toList.drop ((i + 1) * 2 + N.length)).toArray := ⟨_, rfl⟩
  have hmin : Nat.min (n + 1 - i) (n - i) = n - i := Nat.min_eq_right (by omega)
  have hcp1 := fun ty dc sc => run_copy_rowS (P := Tryz.prog) w.drew 26 26 ty 23 g ((i + 1) * 2) (n - i) dc ⟨g, i * 2, none⟩ (n + 1 - i) sc cur 23 N i0 Tryz.underlying26 hi0 R.blk
    (by rw [hNl, hz1, hmin]) (fun j u hj => by rw [Addr.add_lit]; exact R.from i (by omega) j u (by rw [← hN]; exact hj)) (by rw [hNl, hcs]; omega) hN1
  rw [← hC1] at hcp1
  have hC1s : C1.size = cap * 2 := by
    rw [hC1]
    simp only [List.size_toArray, List.length_append, List.length_take, List.length_drop, Array.length_toList]
    rw [hNl, hcs]; omega
  have hblk1 : (w.drew.setRow g C1).heap[g]? = some (.cells C1 23 (0, 0)) := setRow_heap w.drew g cur C1 23 (0, 0) R.blk
  have hv1 : Blk (w.drew.setRow g C1) vb #[.string k, .string v] 23 := by unfold Blk; rw [setRow_other _ _ _ _ hne]; exact hv
  obtain ⟨W1, hW1⟩ : ∃ W1, W1 = w.drew.setRow g C1 := ⟨_, rfl⟩
  rw [← hW1] at hcp1 hblk1 hv1
  obtain ⟨C2, hC2⟩ : ∃ C2, C2 = (C1.toList.take (i * 2) ++ [Value.string k, Value.string v] ++ C1.toList.drop (i * 2 + 2)).toArray := ⟨_, rfl⟩
  have hcp2 := fun ty dc => run_copy_rowS (P := Tryz.prog) W1 26 26 ty 23 g (i * 2) (n + 1 - i) dc ⟨vb, 0, none⟩ 1 1 C1 23 [Value.string k, Value.string v] i0 Tryz.underlying26 hi0 hblk1
    (by rw [hz1, show Nat.min 1 (n + 1 - i) = 1 from Nat.min_eq_left (by omega)]; rfl) (pair_src hv1) (by rw [hC1s]; simp; omega) (pair_one k v)
  rw [show ([Value.string k, Value.string v] : List Value).length = 2 from rfl, ← hC2] at hcp2
  have hC2s : C2.size = cap * 2 := by
    rw [hC2]
    simp only [List.size_toArray, List.length_append, List.length_take, List.length_drop, Array.length_toList, List.length_cons, List.length_nil]
    rw [hC1s]; omega
  have R2 : PRow (W1.setRow g C2) B g (n + 1) cap (l.take i ++ (k, v) :: l.drop i) C2 := by
    refine ⟨?_, R.base, setRow_heap W1 g C1 C2 23 (0, 0) hblk1, by omega, hcm, hC2s, ?_⟩
    · rw [List.length_append, List.length_take, List.length_cons, List.length_drop, R.len]; omega
    · have e1 : C1.toList.take (i * 2) = pcs2 (l.take i) := by
        rw [hC1, List.toList_toArray, List.append_assoc, List.take_append_of_le_length (by rw [List.length_take, Array.length_toList, hcs]; omega), List.take_take, Nat.min_eq_left (by omega), R.head i (by omega)]
      have e2 : C1.toList.drop (i * 2 + 2) = N ++ cur.toList.drop ((i + 1) * 2 + N.length) := by
        rw [hC1, List.toList_toArray, List.append_assoc]
        exact List.drop_left' (by rw [List.length_take, Array.length_toList, hcs]; omega)
      rw [hC2, List.toList_toArray, e1, e2, pcs2_mid, ← hN, List.append_assoc, ← List.append_assoc [Value.string k, Value.string v], ← List.append_assoc]
      exact List.take_left' (by rw [List.length_append, List.length_append, pcs2_len, List.length_take, hNl, R.len]; simp; omega)
  have hbel : Below B w (W1.setRow g C2) := by
    have hb1 : Below B w W1 := by rw [hW1]; exact below_setRow (Below.refl B w).drew R.base C1
    exact below_setRow hb1 R.base C2
  have hown := hid R2.own
  rw [hmin] at hcp1
  clear R2 hC2 hC1 hC1s hC2s hblk1 hNl hN1 hN R h hv hv1 hmin
  replace hW1 := hid hW1
  have hz1' : ((1 : Int) == 0) = false := rfl
  have hiI : (i : Int) < (n : Int) := by omega
  have hiN : ((i : Int) == (n : Int)) = false := by simp; omega
  have hrI : ¬ (cap : Int) < (n : Int) + 1 := by omega
  have hw1 : IntKind.i64.wrap ((i : Int) + 1) = (i : Int) + 1 := by rw [IntKind.wrap_i64]; omega
  have htn : ((i : Int) + 1).toNat = i + 1 := by omega
  have q1 : i ≤ n := by omega
  have q2 : ¬ cap = i := by omega
  have q3 : ¬ cap = i + 1 := by omega
  have q4 : (0 : Int) ≤ (i : Int) + 1 := by omega
  have q5 : (0 : Int) ≤ (n : Int) + 1 := by omega
  have q6 : (i : Int) + 1 ≤ (n : Int) + 1 := by omega
  have q7 : (n : Int) + 1 ≤ (cap : Int) := by omega
  have q8 : (i : Int) ≤ (n : Int) + 1 := by omega
  go_enter Tryz.func74, Tryz.ntmps74
  go_wp2_with (simp only [hov])
  go_region_law (refine step_copy_run rfl _ _ 26 26 rfl _ _ (by simp [Act.eval, Act.put]) (by simp [Act.eval, Act.put]) (hcp1 _ _ _) ?_)
  go_wp2_with (at_builtin; refine wpList_copy_run _ rfl _ _ 26 26 rfl _ _ rfl rfl (hcp2 _ _) ?_)
  go_ret
  exact ⟨_, rfl, hown.out, hbel⟩

set_option maxHeartbeats 4000000 in
theorem ins_grow {w : World} {B g n cap vb : Nat} {l : List (ByteArray × ByteArray)} {k v : ByteArray} (h : w.ownsRow B 23 2 (.slice (some ⟨g, 0, none⟩) n cap) n (pcs2 l)) (i : Nat) (hi : i < n) (hn : n ≤ 1000000) (hroom : ¬ n + 1 ≤ cap) (hB : B ≤ w.heap.size) (hv : Blk w vb #[.string k, .string v] 23) :
    Calls Tryz.prog 74 #[.slice (some ⟨g, 0, none⟩) n cap, .int .i64 i, .slice (some ⟨vb, 0, none⟩) 1 1] w fun e w' =>
      ∃ o', e = .returned o' ∧ w'.ownsRow B 23 2 o' (n + 1) (pcs2 (l.take i ++ (k, v) :: l.drop i)) ∧ Below B w w' := by
  obtain ⟨cur, R⟩ := PRow.of h
  obtain ⟨i0, hi0, hz0, hz1, hz2⟩ := info_parts infoPair
  have hnc := R.nc
  have hcm := R.cm
  have hcs := R.size
  have hgl : g < w.heap.size := (Array.getElem?_eq_some_iff.1 R.blk).1
  have hvl : vb < w.heap.size := hv.lt
  obtain ⟨N, hN⟩ : ∃ N, N = pcs2 (l.drop i) := ⟨_, rfl⟩
  have hNl : N.length = (n - i) * 2 := by rw [hN, pcs2_len, List.length_drop, R.len]
  have hN1 : ∀ u ∈ N, u.oneCell' = true := by rw [hN]; exact pcs2_one _
  obtain ⟨A, hA⟩ : ∃ A, A = pcs2 (l.take i) := ⟨_, rfl⟩
  have hAl : A.length = i * 2 := by rw [hA, pcs2_len, List.length_take, R.len]; omega
  have hAs : ∀ j u, A[j]? = some u → w.cell? ((⟨g, 0, none⟩ : Addr).add j) = some u := by
    intro j u hj
    have hjl : j < i * 2 := by rw [← hAl]; exact (List.getElem?_eq_some_iff.1 hj).1
    rw [Addr.add_lit, Nat.zero_add, R.cell, ← Array.getElem?_toList, ← List.getElem?_take_of_lt hjl, R.head i (by omega), ← hA]
    exact hj
  have hin : i + (n + 1 - i) = n + 1 := by omega
  have hbig := growslice_fits (need := n + 1) (old := cap) (bytes := 32) (by omega) (by omega)
  have happ := fun ty => run_append_zeros_grow (P := Tryz.prog) w 26 3 ty 23 i0 _ Tryz.underlying26 Tryz.underlying3 hi0 hz0 ⟨g, 0, none⟩ i cap A (by rw [hAl, hz1]) hAs (n + 1 - i) (by omega) (by rw [hz1]; decide) (by omega) (by rw [hin]; omega) (by rw [hz2]; omega) (by rw [hin, hz2]; exact hbig)
  rw [hin] at happ
  obtain ⟨cp, hcp⟩ : ∃ cp, cp = grownCap w (n + 1) cap 23 := ⟨_, rfl⟩
  rw [← hcp] at happ
  have hge : n + 1 ≤ cp := by rw [hcp]; exact grownCap_ge w (n + 1) cap 23
  have hle : cp ≤ 9223372036854775807 := by
    have := grownCap_le_maxLen w (n + 1) cap 23 (by unfold maxLen; omega)
    rw [← hcp] at this; unfold maxLen at this; omega
  obtain ⟨Z, hZ⟩ : ∃ Z, Z = (Builtin.zeroCells (Value.agg #[.string ⟨#[]⟩, .string ⟨#[]⟩]).cells (n + 1 - i)).toList ++ (Builtin.zeroCells (Value.agg #[.string ⟨#[]⟩, .string ⟨#[]⟩]).cells (cp - (n + 1))).toList := ⟨_, rfl⟩
  obtain ⟨C1, hC1⟩ : ∃ C1, C1 = (A.toArray ++ Builtin.zeroCells (Value.agg #[.string ⟨#[]⟩, .string ⟨#[]⟩]).cells (n + 1 - i) ++ Builtin.zeroCells (Value.agg #[.string ⟨#[]⟩, .string ⟨#[]⟩]).cells (cp - (n + 1))) := ⟨_, rfl⟩
  rw [← hC1] at happ
  have hsz2 : (Value.agg #[.string ⟨#[]⟩, .string ⟨#[]⟩]).cells.size = 2 := rfl
  have hC1l : C1.toList = A ++ Z := by rw [hC1, hZ]; simp
  have hZl : Z.length = cp * 2 - i * 2 := by rw [hZ, List.length_append, Array.length_toList, Array.length_toList, size_zeroCells, size_zeroCells, hsz2]; omega
  have hC1s : C1.size = cp * 2 := by rw [← Array.length_toList, hC1l, List.length_append, hAl, hZl]; omega
  have hblk1 : (w.drew.alloc (.cells C1 23)).heap[w.heap.size]? = some (.cells C1 23 (0, 0)) := heap_alloc_new w.drew _
  have hv1 : Blk (w.drew.alloc (.cells C1 23)) vb #[.string k, .string v] 23 := by unfold Blk; rw [Below.heap_alloc w.drew _ vb hvl]; exact hv
  have hg1 : (w.drew.alloc (.cells C1 23)).heap[g]? = some (.cells cur 23 (0, 0)) := by rw [Below.heap_alloc w.drew _ g hgl]; exact R.blk
  have hb1 : Below B w (w.drew.alloc (.cells C1 23)) := (Below.refl B w).drew.alloc hB _
  obtain ⟨W1, hW1⟩ : ∃ W1, W1 = w.drew.alloc (.cells C1 23) := ⟨_, rfl⟩
  rw [← hW1] at happ hblk1 hv1 hb1 hg1
  obtain ⟨G, hG⟩ : ∃ G, G = w.heap.size := ⟨_, rfl⟩
  rw [← hG] at happ hblk1
  have hBG : B ≤ G := by omega
  obtain ⟨C2, hC2⟩ : ∃ C2, C2 = (C1.toList.take (i * 2) ++ [Value.string k, Value.string v] ++ C1.toList.drop (i * 2 + 2)).toArray := ⟨_, rfl⟩
  have hcp2 := fun ty dc => run_copy_rowS (P := Tryz.prog) W1 26 26 ty 23 G (i * 2) (n + 1 - i) dc ⟨vb, 0, none⟩ 1 1 C1 23 [Value.string k, Value.string v] i0 Tryz.underlying26 hi0 hblk1
    (by rw [hz1, show Nat.min 1 (n + 1 - i) = 1 from Nat.min_eq_left (by omega)]; rfl) (pair_src hv1) (by rw [hC1s]; simp; omega) (pair_one k v)
  rw [show ([Value.string k, Value.string v] : List Value).length = 2 from rfl, ← hC2] at hcp2
  have hC2l : C2.toList = A ++ ([Value.string k, Value.string v] ++ Z.drop 2) := by
    rw [hC2, List.toList_toArray, hC1l, List.take_left' hAl, List.append_assoc, List.drop_append, List.drop_eq_nil_iff.2 (by omega), show i * 2 + 2 - A.length = 2 by omega]
    simp
  have hC2s : C2.size = cp * 2 := by rw [← Array.length_toList, hC2l, List.length_append, List.length_append, hAl, List.length_drop, hZl]; simp; omega
  have hblk2 : (W1.setRow G C2).heap[G]? = some (.cells C2 23 (0, 0)) := setRow_heap W1 G C1 C2 23 (0, 0) hblk1
  have hg2 : (W1.setRow G C2).heap[g]? = some (.cells cur 23 (0, 0)) := by rw [setRow_other _ _ _ _ (by omega)]; exact hg1
  have hb2 : Below B w (W1.setRow G C2) := below_setRow hb1 hBG C2
  obtain ⟨W2, hW2⟩ : ∃ W2, W2 = W1.setRow G C2 := ⟨_, rfl⟩
  rw [← hW2] at hcp2 hblk2 hg2 hb2
  have R2 : PRow W2 B g n cap l cur := ⟨R.len, R.base, hg2, R.nc, R.cm, R.size, R.take⟩
  obtain ⟨C3, hC3⟩ : ∃ C3, C3 = (C2.toList.take ((i + 1) * 2) ++ N ++ C2.toList.drop ((i + 1) * 2 + N.length)).toArray := ⟨_, rfl⟩
  have hmin : Nat.min (n - i) (n - i) = n - i := Nat.min_self _
  have hcp3 := fun ty dc sc => run_copy_rowS (P := Tryz.prog) W2.drew 26 26 ty 23 G ((i + 1) * 2) (n - i) dc ⟨g, i * 2, none⟩ (n - i) sc C2 23 N i0 Tryz.underlying26 hi0 hblk2
    (by rw [hNl, hz1, hmin]) (fun j u hj => by rw [Addr.add_lit]; exact R2.from i (by omega) j u (by rw [← hN]; exact hj)) (by rw [hNl, hC2s]; omega) hN1
  rw [← hC3, hmin] at hcp3
  have hC3l : C3.toList = A ++ ([Value.string k, Value.string v] ++ N) ++ C2.toList.drop ((i + 1) * 2 + N.length) := by
    have e1 : C2.toList.take ((i + 1) * 2) = A ++ [Value.string k, Value.string v] := by
      rw [hC2l, ← List.append_assoc]
      exact List.take_left' (by rw [List.length_append, hAl]; simp; omega)
    rw [hC3, List.toList_toArray, e1]; simp
  have R3 : PRow (W2.drew.setRow G C3) B G (n + 1) cp (l.take i ++ (k, v) :: l.drop i) C3 := by
    refine ⟨?_, hBG, setRow_heap W2.drew G C2 C3 23 (0, 0) hblk2, hge, hle, ?_, ?_⟩
    · rw [List.length_append, List.length_take, List.length_cons, List.length_drop, R.len]; omega
    · have hC2t : C2.toList.length = cp * 2 := by rw [Array.length_toList, hC2s]
      rw [← Array.length_toList, hC3l, List.length_append, List.length_append, List.length_append, hAl, hNl, List.length_drop, hC2t]; simp; omega
    · rw [hC3l, pcs2_mid, ← hN, ← hA]
      exact List.take_left' (by rw [List.length_append, List.length_append, hAl, hNl]; simp; omega)
  have hbel : Below B w (W2.drew.setRow G C3) := below_setRow hb2.drew hBG C3
  have hown := hid R3.own
  clear R3 R2 hC3 hC3l hC2 hC2l hC1 hC1l hC1s hC2s hblk1 hblk2 hNl hN1 hN R h hv hv1 hmin hA hAl hAs hZ hZl hg1 hg2 hb1 hb2 hbig hin hcp hsz2
  replace hW1 := hid hW1
  replace hW2 := hid hW2
  replace hG := hid hG
  have hiI : (i : Int) < (n : Int) := by omega
  have hiN : ((i : Int) == (n : Int)) = false := by simp; omega
  have hrI : (cap : Int) < (n : Int) + 1 := by omega
  have hw1 : IntKind.i64.wrap ((i : Int) + 1) = (i : Int) + 1 := by rw [IntKind.wrap_i64]; omega
  have htn : ((i : Int) + 1).toNat = i + 1 := by omega
  have hmk : (n : Int) + 1 - (i : Int) = ((n + 1 - i : Nat) : Int) := by omega
  have q1 : i ≤ n := by omega
  have q2 : ¬ cap = i := by omega
  have q2b : ¬ cp = i := by omega
  have q3 : ¬ cp = i + 1 := by omega
  have q4 : (0 : Int) ≤ (i : Int) + 1 := by omega
  have q5 : i ≤ n + 1 := by omega
  have q6 : (i : Int) + 1 ≤ (n : Int) + 1 := by omega
  have q8 : (i : Int) ≤ (n : Int) + 1 := by omega
  have q9 : i ≤ cap := by omega
  go_enter Tryz.func74, Tryz.ntmps74
  go_wp2_with (first
    | (at_builtin; refine wpList_append_run' _ rfl _ _ 26 3 rfl _ _ rfl rfl (happ _) ?_)
    | (at_builtin; refine wpList_copy_run _ rfl _ _ 26 26 rfl _ _ rfl rfl (hcp2 _ _) ?_))
  go_region_law (refine step_copy_run rfl _ _ 26 26 rfl _ _ (by simp [Act.eval, Act.put]) (by simp [Act.eval, Act.put]) (hcp3 _ _ _) ?_)
  go_wp2
  go_ret
  exact ⟨_, rfl, hown.out, hbel⟩

end Go.Proofs.YtkocnbdakfhpaaaGreatDoor

/-
  A PAIR, AND PAIRS, LAID OVER AN OVERLAY THAT THE CALL OWNS; Lay. Conditions: how many pairs there are.
-/
namespace Go.Proofs.YtkocnbdakfhpaaaGreatDoor
open Go.ChangeShapes Go.WideShapes Go.ChangeAt Go.RowKit Go.Lib
set_option linter.unusedVariables false
set_option linter.unusedSimpArgs false
set_option maxRecDepth 20000

theorem ins_ok {w : World} {B n vb : Nat} {o : Value} {l : PL} {k v : ByteArray} (h : w.ownsRow B 23 2 o n (pcs2 l)) (hl : l.length = n) (i : Nat) (hi : i ≤ n) (hn : n ≤ 1000000) (hB : B ≤ w.heap.size) (hv : Blk w vb #[.string k, .string v] 23) (hne : ∀ g, o.ownBlock = some g → vb ≠ g) :
    Calls Tryz.prog 74 #[o, .int .i64 i, .slice (some ⟨vb, 0, none⟩) 1 1] w fun e w' =>
      ∃ o', e = .returned o' ∧ w'.ownsRow B 23 2 o' (n + 1) (pcs2 (l.take i ++ (k, v) :: l.drop i)) ∧ Below B w w' := by
  by_cases he : i = n
  · subst he
    have := ins_end h hn hB hv
    rw [List.take_of_length_le (by omega), List.drop_eq_nil_iff.2 (by omega)]
    exact this
  · rcases h.2 with ⟨rfl, rfl⟩ | ⟨g, cap, cur, rfl, -⟩
    · omega
    · by_cases hr : n + 1 ≤ cap
      · exact ins_shift h i (by omega) hr hv (hne g rfl)
      · exact ins_grow h i (by omega) hn hr hB hv

theorem pcs2_set : ∀ (l : PL) (i : Nat) (k v : ByteArray), i < l.length → ((pcs2 l).set (i * 2) (.string k)).set (i * 2 + 1) (.string v) = pcs2 (l.take i ++ (k, v) :: l.drop (i + 1))
  | p :: t, 0, k, v, _ => rfl
  | p :: t, i + 1, k, v, h => by
    have ih := pcs2_set t i k v (by simpa using h)
    have e : ∀ x, pcs2 (p :: x) = .string p.1 :: .string p.2 :: pcs2 x := fun _ => rfl
    rw [e, show (i + 1) * 2 = i * 2 + 1 + 1 by omega, List.set_cons_succ, List.set_cons_succ, List.set_cons_succ, List.set_cons_succ, ih, List.take_succ_cons, List.drop_succ_cons, List.cons_append, e]

theorem size_nil (v : ByteArray) : v.size = 0 ↔ bs v = [] := by rw [← bs_len, List.length_eq_zero_iff]

theorem set_facts {w : World} {B g n cap : Nat} {l : PL} {cur : Array Value} (R : PRow w B g n cap l cur) (i : Nat) (hi : i < n) (k v : ByteArray) :
    w.frozen? ⟨g, i * 2, none⟩ = false ∧ w.frozen? ⟨g, i * 2 + 1, none⟩ = false ∧ (w.setCell ⟨g, i * 2, none⟩ (.string k)).frozen? ⟨g, i * 2 + 1, none⟩ = false ∧ (∃ u, w.cell? ⟨g, i * 2, none⟩ = some u) ∧ (∃ u, w.cell? ⟨g, i * 2 + 1, none⟩ = some u) ∧ (∃ u, (w.setCell ⟨g, i * 2, none⟩ (.string k)).cell? ⟨g, i * 2 + 1, none⟩ = some u) ∧
    ((w.setCell ⟨g, i * 2, none⟩ (.string k)).setCell ⟨g, i * 2 + 1, none⟩ (.string v)).ownsRow B 23 2 (.slice (some ⟨g, 0, none⟩) n cap) n (pcs2 (l.take i ++ (k, v) :: l.drop (i + 1))) ∧
    Below B w ((w.setCell ⟨g, i * 2, none⟩ (.string k)).setCell ⟨g, i * 2 + 1, none⟩ (.string v)) := by
  have hs := R.size
  have hnc := R.nc
  have hb : Blk w g cur 23 := R.blk
  have hb1 := hb.set (i := i * 2) (.string k)
  have hb2 := hb1.set (i := i * 2 + 1) (.string v)
  refine ⟨hb.free _, hb.free _, hb1.free _, ⟨_, (hb.cell _).trans (Array.getElem?_eq_getElem (by omega))⟩, ⟨_, (hb.cell _).trans (Array.getElem?_eq_getElem (by omega))⟩, ⟨_, (hb1.cell _).trans (Array.getElem?_eq_getElem (by simp; omega))⟩, ?_, ?_⟩
  · have R2 : PRow ((w.setCell ⟨g, i * 2, none⟩ (.string k)).setCell ⟨g, i * 2 + 1, none⟩ (.string v)) B g n cap (l.take i ++ (k, v) :: l.drop (i + 1)) ((cur.setIfInBounds (i * 2) (.string k)).setIfInBounds (i * 2 + 1) (.string v)) := by
      refine ⟨?_, R.base, hb2, hnc, R.cm, by simp [hs], ?_⟩
      · rw [List.length_append, List.length_cons, List.length_take, List.length_drop, R.len]; omega
      · rw [Array.toList_setIfInBounds, Array.toList_setIfInBounds, List.take_set, List.take_set, R.take, pcs2_set l i k v (by rw [R.len]; exact hi)]
    exact R2.own
  · exact ((Below.refl B w).setCell R.base _).setCell R.base _

set_option maxHeartbeats 4000000 in
theorem lay_ok {w : World} {B : Nat} {o : Value} {l : PL} (h : w.ownsRow B 23 2 o l.length (pcs2 l)) (hs : Srt l) (hn : l.length ≤ 100000) (hB : B ≤ w.heap.size) (k v : ByteArray) :
    Calls Tryz.prog 58 #[o, .agg #[.string k, .string v]] w fun e w' => ∃ o', e = .returned o' ∧ w'.ownsRow B 23 2 o' (layP l (k, v)).length (pcs2 (layP l (k, v))) ∧ Below B w w' := by
  have hb0 := (Below.refl w.heap.size w).alloc (Nat.le_refl _) (.cells #[.string k, .string v] 23)
  have hbB := (Below.refl B w).alloc hB (.cells #[.string k, .string v] 23)
  obtain ⟨n, hln⟩ : ∃ n, n = l.length := ⟨_, rfl⟩
  have hl : l.length = n := hln.symm
  rw [hl] at h hn
  have h1 := own_below hb0 h
  obtain ⟨a, c, rfl, hpy⟩ := own_pys h1 hl
  have hbs := bsf_ok hpy hs k (by omega)
  have hix := idx_le l k
  have hli := lay_idx l (k, v)
  simp only at hli
  obtain ⟨i, hi⟩ : ∃ i, i = idxK l k := ⟨_, rfl⟩
  rw [← hi] at hbs hix hli
  rw [hl] at hix
  cases hH : hitK l k
  · rw [hH] at hbs hli
    by_cases hv : v.size = 0
    · rw [if_neg (by simp), if_pos hv] at hli
      rw [hli, hl]
      have hvz : v.toList.isEmpty = true := by rw [is_nil v, decide_eq_true ((size_nil v).1 hv)]
      have hl' := hid hl
      clear hli hH hv hi hl hln
      go_enter Tryz.func58, Tryz.ntmps58
      go_wp2_with (go_at_call 71; refine hbs.mono ?_; rintro e w1 ⟨rfl, hb1⟩; obtain ⟨c0, c1⟩ := two_cells hb1; have hacc := hbB.trans (hb1.mono (by have := hbB.size; omega)); have h2 := own_below hb1 h1)
      all_goals go_ret
      all_goals exact ⟨_, rfl, h2, hacc⟩
    · rw [if_neg (by simp), if_neg hv] at hli
      rw [hli]
      have hvz : v.toList.isEmpty = false := by rw [is_nil v, decide_eq_false (fun e => hv ((size_nil v).2 e))]
      have hlen : (l.take i ++ (k, v) :: l.drop i).length = n + 1 := by rw [List.length_append, List.length_cons, List.length_take, List.length_drop, hl]; omega
      rw [hlen]
      have hl' := hid hl
      clear hli hH hv hi hlen hl hln
      go_enter Tryz.func58, Tryz.ntmps58
      go_wp2_with (first
        | (go_at_call 71; refine hbs.mono ?_; rintro e w1 ⟨rfl, hb1⟩; obtain ⟨c0, c1⟩ := two_cells hb1; have hacc := hbB.trans (hb1.mono (by have := hbB.size; omega)); have h2 := own_below hb1 h1; have hin := ins_ok (h2.alloc (.cells #[.string k, .string v] 23)) hl'.out i hix (by omega) (by have := hacc.size; simp; omega) (Blk.new w1 #[.string k, .string v] 23) (fun g hg => by have := (h2.lt g hg).2; omega); have hacc2 := hacc.alloc (by have := hacc.size; omega) (.cells #[.string k, .string v] 23))
        | (go_at_call 74; refine hin.mono ?_; rintro e w2 ⟨o', rfl, hown, hb2⟩))
      all_goals go_ret
      all_goals exact ⟨_, rfl, hown, hacc2.trans hb2⟩
  · rw [hH] at hbs hli
    rw [if_pos rfl] at hli
    have hilt : i < n := by
      rcases Nat.lt_or_ge i n with e | e
      · exact e
      · rw [hit_end (by rw [hl, ← hi]; omega)] at hH; cases hH
    obtain ⟨g, cap, hag⟩ : ∃ g cap, (Value.slice a n c) = .slice (some ⟨g, 0, none⟩) n cap := by
      rcases h1.2 with ⟨e, e0⟩ | ⟨g, cap, cur, e, -⟩
      · omega
      · exact ⟨g, cap, e⟩
    simp only [Value.slice.injEq, true_and] at hag
    obtain ⟨rfl, rfl⟩ := hag
    by_cases hv : v.size = 0
    · rw [if_pos hv] at hli
      rw [hli]
      have hvz : v.toList.isEmpty = true := by rw [is_nil v, decide_eq_true ((size_nil v).1 hv)]
      have hlen : (l.take i ++ l.drop (i + 1)).length = n - 1 := by rw [List.length_append, List.length_take, List.length_drop, hl]; omega
      rw [hlen]
      have hl' := hid hl
      clear hli hH hv hi hlen hl hln
      go_enter Tryz.func58, Tryz.ntmps58
      go_wp2_with (first
        | (go_at_call 71; refine hbs.mono ?_; rintro e w1 ⟨rfl, hb1⟩; obtain ⟨c0, c1⟩ := two_cells hb1; have hacc := hbB.trans (hb1.mono (by have := hbB.size; omega)); have h2 := own_below hb1 h1; have hin := del_ok h2 i hilt)
        | (go_at_call 73; refine hin.mono ?_; rintro e w2 ⟨rfl, hown, hb2⟩))
      all_goals go_ret
      all_goals exact ⟨_, rfl, hown, hacc.trans hb2⟩
    · rw [if_neg hv] at hli
      rw [hli]
      have hvz : v.toList.isEmpty = false := by rw [is_nil v, decide_eq_false (fun e => hv ((size_nil v).2 e))]
      have hlen : (l.take i ++ (k, v) :: l.drop (i + 1)).length = n := by rw [List.length_append, List.length_cons, List.length_take, List.length_drop, hl]; omega
      rw [hlen]
      have hl' := hid hl
      clear hli hH hv hi hlen hl hln
      have hiI : (i : Int) < (n : Int) := by omega
      go_enter Tryz.func58, Tryz.ntmps58
      go_wp2_with (go_at_call 71; refine hbs.mono ?_; rintro e w1 ⟨rfl, hb1⟩; obtain ⟨c0, c1⟩ := two_cells hb1; have hacc := hbB.trans (hb1.mono (by have := hbB.size; omega)); have h2 := own_below hb1 h1; obtain ⟨cur, R⟩ := PRow.of h2; have hq := set_facts R i hilt k v; obtain ⟨y0, y1, z1, ⟨u0, x0⟩, ⟨u1, x1⟩, ⟨u2, x2⟩, hown, hbl⟩ := hq)
      all_goals go_ret
      all_goals exact ⟨_, rfl, hown, hacc.trans hbl⟩

end Go.Proofs.YtkocnbdakfhpaaaGreatDoor

/-
  PAIRS LAID OVER AN OVERLAY, ONE BEHIND THE OTHER (layAll), AND Lay. Conditions: how many pairs there are.
-/
namespace Go.Proofs.YtkocnbdakfhpaaaGreatDoor
open Go.ChangeShapes Go.WideShapes Go.ChangeAt Go.RowKit Go.Lib
set_option linter.unusedVariables false
set_option linter.unusedSimpArgs false
set_option maxRecDepth 20000

theorem layP_len : ∀ (l : PL) (p : ByteArray × ByteArray), (layP l p).length ≤ l.length + 1
  | [], p => by rw [layP]; split <;> simp
  | a :: t, p => by
    have ih := layP_len t p
    rw [layP]
    repeat' split
    all_goals simp
    all_goals omega
theorem layL_len : ∀ (ps l : PL), (layL l ps).length ≤ l.length + ps.length
  | [], l => Nat.le_refl _
  | p :: t, l => by
    have := layL_len t (layP l p)
    have h2 := layP_len l p
    show (layL (layP l p) t).length ≤ _
    rw [List.length_cons]; omega

set_option maxHeartbeats 4000000 in
theorem layAll_ok {w0 w : World} {o : Value} {l : PL} {a : Option Addr} {n c : Nat} {ps : PL} (hb0 : Below w0.heap.size w0 w) (hp : Pys w0 a n c ps) (h : w.ownsRow w0.heap.size 23 2 o l.length (pcs2 l)) (hs : Srt l) (hn : n + l.length ≤ 90000) :
    Calls Tryz.prog 44 #[o, .slice a n c] w fun e w' => ∃ o', e = .returned o' ∧ w'.ownsRow w0.heap.size 23 2 o' (layL l ps).length (pcs2 (layL l ps)) ∧ Below w0.heap.size w0 w' := by
  have hm1 := hp.2.1
  have hm2 := hp.2.2.1
  obtain ⟨q, hq⟩ : ∃ q, q = layL l ps := ⟨_, rfl⟩
  rw [← hq]
  have hln := hid hp.1
  have h00 := hid (And.intro hs (by rw [hq]; rfl : q = layL l (ps.drop 0)))
  clear hq
  go_enter Tryz.func44, Tryz.ntmps44
  go_wp2
  go_loopw [0, 9] (fun y x wr => ∃ (o : Value) (k : Nat) (m : PL), y = o ∧ x = .int .i64 k ∧ k ≤ n ∧ Below w0.heap.size w0 wr ∧ wr.ownsRow w0.heap.size 23 2 o m.length (pcs2 m) ∧ m.length ≤ l.length + k ∧ Hid (Srt m ∧ q = layL m (ps.drop k))) (fun _ x _ => n - (RowKit.intOf x).toNat)
  case atStart => exact ⟨o, 0, l, rfl, rfl, by omega, hb0, h, by omega, h00⟩
  case round =>
    obtain ⟨o, k, m, rfl, rfl, hk, hb, hown, hml, hr⟩ := hrel
    by_cases hlt : k < n
    · obtain ⟨b, off, rfl, hc⟩ := hp.some_of (by omega)
      obtain ⟨ky, vl, hmem, hd, c0, c1⟩ := (hc.below hb).at k (by rw [hln.out]; exact hlt)
      have hkI : (k : Int) < (n : Int) := by omega
      have hfr := (Below.refl wr.heap.size wr).alloc (Nat.le_refl _) (.cells #[.string ky, .string vl] 23)
      have hbn := hb.trans (hfr.mono hb.size)
      have hly := lay_ok (own_below hfr hown) hr.out.1 (by omega) hbn.size ky vl
      have E := hid (And.intro (lay_srt m (ky, vl) hr.out.1) (by rw [hr.out.2, hd.out]; rfl : q = layL (layP m (ky, vl)) (ps.drop (k + 1))))
      have hlen := layP_len m (ky, vl)
      generalize layP m (ky, vl) = m' at *
      clear hr hd hmem
      go_wp2_with (go_at_call 58; refine hly.mono ?_; rintro e w1 ⟨o', rfl, hown', hb1⟩)
      go_roundw
      case rel => exact ⟨_, k + 1, m', rfl, by go_num, by omega, hbn.trans hb1, hown', by omega, E⟩
      case measure => simp [RowKit.intOf]; omega
    · obtain rfl : k = n := by omega
      have hkI : ¬ (k : Int) < (k : Int) := by omega
      have E : q = m := by rw [hr.out.2, List.drop_eq_nil_iff.mpr (by rw [hln.out]; exact Nat.le_refl _)]; rfl
      subst E
      clear hr
      go_wp2
      go_ret
      exact ⟨_, rfl, hown, hb⟩

set_option maxHeartbeats 4000000 in
theorem laytwo_ok {w : World} {a a' : Option Addr} {n c n' c' : Nat} {l more : PL} (hp : Pys w a n c l) (hq : Pys w a' n' c' more) (hn : n ≤ 1000) (hn' : n' ≤ 1000) :
    Calls Tryz.prog 22 #[.slice a n c, .slice a' n' c'] w fun e w' => ∃ a2 m c2, e = .returned (.slice a2 m c2) ∧ Pys w' a2 m c2 (layL (layL [] l) more) ∧ Below w.heap.size w w' := by
  have h1 := layAll_ok (Below.refl _ w) hp (World.ownsRow_nil w w.heap.size 23 2) Srt.nil (by simp; omega)
  have hlen := layL_len l []
  have hpl := hp.1
  have hsr := layL_srt l [] Srt.nil
  generalize layL [] l = m at *
  have h2 := fun w' o' hb (ho : w'.ownsRow w.heap.size 23 2 o' m.length (pcs2 m)) => layAll_ok (w := w') hb hq ho hsr (by simp at hlen; omega)
  generalize layL m more = r at *
  clear hlen hpl hsr
  go_enter Tryz.func22, Tryz.ntmps22
  go_wp2_with (first
    | (go_at_call 44; refine h1.mono ?_; rintro e w1 ⟨o1, rfl, hown1, hb1⟩; clear h1)
    | (go_at_call 44; refine (h2 _ _ hb1 hown1).mono ?_; rintro e w2 ⟨o2, rfl, hown2, hb2⟩; obtain ⟨a2, c2, rfl, hpy⟩ := own_pys hown2 rfl))
  all_goals go_ret
  all_goals exact ⟨_, _, _, rfl, hpy, hb2⟩

end Go.Proofs.YtkocnbdakfhpaaaGreatDoor
