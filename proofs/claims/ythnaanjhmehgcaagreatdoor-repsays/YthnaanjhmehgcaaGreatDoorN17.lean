/-
  OVERLAYS, on lists of pairs: keys in order, what is laid over them, what a key's value is. No condition.; AND WHAT FOLLOWS OF IT. Conditions: those that each part names.
-/
import Derived.Test.YthnaanjhmehgcaaGreatDoorN11
import Derived.Lib.Bytealg
import Derived.Test.YthnaanjhmehgcaaGreatDoorN16
import Derived.Laws.StructEq
import Derived.Test.YthnaanjhmehgcaaGreatDoorN10
import Derived.BigQuiet
import Derived.BigRegion
/-
  OVERLAYS, on lists of pairs: keys in order, what is laid over them, what a key's value is. No condition.
-/
namespace Go.Proofs.YthnaanjhmehgcaaGreatDoor
open Go.ChangeShapes Go.WideShapes Go.ChangeAt Go.RowKit Go.Lib
set_option linter.unusedVariables false
set_option linter.unusedSimpArgs false
set_option maxRecDepth 20000

theorem cb_self : ∀ l : List UInt8, compareBytes l l = 0
  | [] => rfl
  | a :: l => by
    unfold compareBytes
    rw [if_neg (UInt8.lt_irrefl a), if_neg (UInt8.lt_irrefl a), cb_self l]
theorem cb_zero : ∀ a b : List UInt8, compareBytes a b = 0 → a = b
  | [], [], _ => rfl
  | [], _ :: _, h => by simp [compareBytes] at h
  | _ :: _, [], h => by simp [compareBytes] at h
  | x :: a, y :: b, h => by
    unfold compareBytes at h
    by_cases h1 : x < y
    · rw [if_pos h1] at h; cases h
    · rw [if_neg h1] at h
      by_cases h2 : y < x
      · rw [if_pos h2] at h; cases h
      · rw [if_neg h2] at h
        have e : x = y := by
          rw [UInt8.lt_iff_toNat_lt] at h1 h2
          exact UInt8.toNat_inj.1 (by omega)
        rw [e, cb_zero a b h]
theorem cb_anti : ∀ a b : List UInt8, compareBytes b a = - compareBytes a b
  | [], [] => rfl
  | [], _ :: _ => rfl
  | _ :: _, [] => rfl
  | x :: a, y :: b => by
    unfold compareBytes
    by_cases h1 : x < y
    · have h2 : ¬ y < x := by rw [UInt8.lt_iff_toNat_lt] at h1 ⊢; omega
      rw [if_pos h1, if_neg h2, if_pos h1]; rfl
    · by_cases h2 : y < x
      · rw [if_pos h2, if_neg h1, if_pos h2]
      · rw [if_neg h1, if_neg h2, if_neg h2, if_neg h1, cb_anti a b]
theorem cb_trans : ∀ a b c : List UInt8, compareBytes a b < 0 → compareBytes b c < 0 → compareBytes a c < 0
  | [], [], _, h, _ => by simp [compareBytes] at h
  | [], _ :: _, [], _, h => by simp [compareBytes] at h
  | [], _ :: _, _ :: _, _, _ => by simp [compareBytes]
  | _ :: _, [], _, h, _ => by simp [compareBytes] at h
  | _ :: _, _ :: _, [], _, h => by simp [compareBytes] at h
  | x :: a, y :: b, z :: c, h1, h2 => by
    unfold compareBytes at h1 h2 ⊢
    simp only [UInt8.lt_iff_toNat_lt] at h1 h2 ⊢
    by_cases a1 : x.toNat < y.toNat
    · by_cases b1 : y.toNat < z.toNat
      · rw [if_pos (by omega)]; decide
      · rw [if_neg b1] at h2
        by_cases b2 : z.toNat < y.toNat
        · rw [if_pos b2] at h2; omega
        · rw [if_pos (by omega)]; decide
    · rw [if_neg a1] at h1
      by_cases a2 : y.toNat < x.toNat
      · rw [if_pos a2] at h1; omega
      · rw [if_neg a2] at h1
        by_cases b1 : y.toNat < z.toNat
        · rw [if_pos (by omega)]; decide
        · rw [if_neg b1] at h2
          by_cases b2 : z.toNat < y.toNat
          · rw [if_pos b2] at h2; omega
          · rw [if_neg b2] at h2
            rw [if_neg (by omega), if_neg (by omega)]
            exact cb_trans a b c h1 h2
/-- two keys, compared -/
def kc (a b : ByteArray) : Int := compareBytes (bs a) (bs b)
theorem kc_self (a : ByteArray) : kc a a = 0 := cb_self _
theorem kc_zero {a b : ByteArray} (h : kc a b = 0) : a = b := by
  have := cb_zero _ _ h
  rw [← txt_bs a, ← txt_bs b, this]
theorem kc_anti (a b : ByteArray) : kc b a = - kc a b := cb_anti _ _
theorem kc_trans {a b c : ByteArray} (h1 : kc a b < 0) (h2 : kc b c < 0) : kc a c < 0 := cb_trans _ _ _ h1 h2
theorem kc_ne {a b : ByteArray} (h : kc a b < 0) : a ≠ b := fun e => by rw [e, kc_self] at h; omega
theorem kc_tri {a b : ByteArray} (h1 : ¬ kc a b < 0) (h2 : a ≠ b) : kc b a < 0 := by
  have h3 : kc a b ≠ 0 := fun e => h2 (kc_zero e)
  rw [kc_anti]; omega

/-- pairs -/
abbrev PL := List (ByteArray × ByteArray)
/-- keys that rise -/
def Srt (l : PL) : Prop := l.Pairwise fun p q => kc p.1 q.1 < 0
/-- no value is empty -/
def Ful (l : PL) : Prop := ∀ p ∈ l, p.2.size ≠ 0

theorem Srt.nil : Srt [] := List.Pairwise.nil
theorem Srt.tail {p : ByteArray × ByteArray} {l : PL} (h : Srt (p :: l)) : Srt l := (List.pairwise_cons.1 h).2
theorem Srt.head {p : ByteArray × ByteArray} {l : PL} (h : Srt (p :: l)) : ∀ q ∈ l, kc p.1 q.1 < 0 := (List.pairwise_cons.1 h).1

/-- one pair, laid over an overlay -/
def layP : PL → ByteArray × ByteArray → PL
  | [], p => if p.2.size = 0 then [] else [p]
  | q :: t, p => if kc q.1 p.1 < 0 then q :: layP t p else if q.1 = p.1 then (if p.2.size = 0 then t else p :: t) else (if p.2.size = 0 then q :: t else p :: q :: t)
/-- the first value of a key -/
def getK : PL → ByteArray → Option ByteArray
  | [], _ => none
  | q :: t, k => if q.1 = k then some q.2 else getK t k

theorem lay_mem : ∀ (l : PL) (p q : ByteArray × ByteArray), q ∈ layP l p → q ∈ l ∨ (q = p ∧ p.2.size ≠ 0)
  | [], p, q, h => by
    rw [layP] at h
    split at h
    · cases h
    · rename_i h0; exact .inr ⟨by simpa using h, h0⟩
  | a :: t, p, q, h => by
    rw [layP] at h
    split at h
    · rcases List.mem_cons.1 h with e | e
      · exact .inl (by rw [e]; exact List.mem_cons_self ..)
      · rcases lay_mem t p q e with e | e
        · exact .inl (List.mem_cons_of_mem _ e)
        · exact .inr e
    · split at h
      · split at h
        · exact .inl (List.mem_cons_of_mem _ h)
        · rename_i h0
          rcases List.mem_cons.1 h with e | e
          · exact .inr ⟨e, h0⟩
          · exact .inl (List.mem_cons_of_mem _ e)
      · split at h
        · exact .inl h
        · rename_i h0
          rcases List.mem_cons.1 h with e | e
          · exact .inr ⟨e, h0⟩
          · exact .inl e

theorem lay_srt : ∀ (l : PL) (p : ByteArray × ByteArray), Srt l → Srt (layP l p)
  | [], p, _ => by
    rw [layP]; split
    · exact Srt.nil
    · exact List.pairwise_singleton ..
  | a :: t, p, h => by
    rw [layP]
    split
    · rename_i h1
      refine List.pairwise_cons.2 ⟨fun q hq => ?_, lay_srt t p h.tail⟩
      rcases lay_mem t p q hq with e | ⟨e, _⟩
      · exact h.head q e
      · rw [e]; exact h1
    · rename_i h1
      split
      · rename_i h2
        split
        · exact h.tail
        · exact List.pairwise_cons.2 ⟨fun q hq => by rw [← h2]; exact h.head q hq, h.tail⟩
      · rename_i h2
        split
        · exact h
        · refine List.pairwise_cons.2 ⟨fun q hq => ?_, h⟩
          have h3 := kc_tri h1 h2
          rcases List.mem_cons.1 hq with e | e
          · rw [e]; exact h3
          · exact kc_trans h3 (h.head q e)
theorem lay_ful (l : PL) (p : ByteArray × ByteArray) (h : Ful l) : Ful (layP l p) := fun q hq => by
  rcases lay_mem l p q hq with e | ⟨e, h0⟩
  · exact h q e
  · rw [e]; exact h0

theorem get_none : ∀ (l : PL) (k : ByteArray), (∀ q ∈ l, kc k q.1 < 0) → getK l k = none
  | [], k, _ => rfl
  | q :: t, k, h => by
    rw [getK, if_neg (fun e => kc_ne (h q (List.mem_cons_self ..)) e.symm)]
    exact get_none t k fun r hr => h r (List.mem_cons_of_mem _ hr)

theorem get_lay : ∀ (l : PL) (p : ByteArray × ByteArray) (k : ByteArray), Srt l → getK (layP l p) k = if p.1 = k then (if p.2.size = 0 then none else some p.2) else getK l k
  | [], p, k, _ => by
    rw [layP]
    by_cases h0 : p.2.size = 0
    · rw [if_pos h0, if_pos h0]; split <;> rfl
    · rw [if_neg h0, if_neg h0, getK]; rfl
  | a :: t, p, k, h => by
    have ih := get_lay t p k h.tail
    rw [layP]
    by_cases h1 : kc a.1 p.1 < 0
    · rw [if_pos h1, getK, ih, getK]
      by_cases ha : a.1 = k
      · rw [if_pos ha, if_pos ha, if_neg (fun e => kc_ne h1 (ha.trans e.symm))]
      · rw [if_neg ha, if_neg ha]
    · rw [if_neg h1]
      by_cases h2 : a.1 = p.1
      · rw [if_pos h2]
        have htn : getK t p.1 = none := get_none t p.1 fun q hq => by rw [← h2]; exact h.head q hq
        by_cases hk : p.1 = k
        · subst hk
          by_cases h0 : p.2.size = 0
          · rw [if_pos h0, if_pos rfl, if_pos h0, htn]
          · rw [if_neg h0, if_pos rfl, if_neg h0, getK, if_pos rfl]
        · rw [if_neg hk]
          have hak : a.1 ≠ k := fun e => hk (h2.symm.trans e)
          by_cases h0 : p.2.size = 0
          · rw [if_pos h0, getK, if_neg hak]
          · rw [if_neg h0, getK, if_neg hk, getK, if_neg hak]
      · rw [if_neg h2]
        have h3 := kc_tri h1 h2
        by_cases h0 : p.2.size = 0
        · rw [if_pos h0, if_pos h0]
          by_cases hk : p.1 = k
          · subst hk
            rw [if_pos rfl]
            exact get_none (a :: t) p.1 fun q hq => by
              rcases List.mem_cons.1 hq with e | e
              · rw [e]; exact h3
              · exact kc_trans h3 (h.head q e)
          · rw [if_neg hk]
        · rw [if_neg h0, if_neg h0, getK]

theorem srt_ext : ∀ (l m : PL), Srt l → Srt m → (∀ k, getK l k = getK m k) → l = m
  | [], [], _, _, _ => rfl
  | [], b :: m, _, _, h => by have := h b.1; rw [getK, getK, if_pos rfl] at this; cases this
  | a :: l, [], _, _, h => by have := h a.1; rw [getK, getK, if_pos rfl] at this; cases this
  | a :: l, b :: m, hl, hm, h => by
    have hk : a.1 = b.1 := Decidable.byContradiction fun hne => by
      by_cases hlt : kc a.1 b.1 < 0
      · have := h a.1
        rw [getK, if_pos rfl, get_none (b :: m) a.1 (fun q hq => by
          rcases List.mem_cons.1 hq with e | e
          · rw [e]; exact hlt
          · exact kc_trans hlt (hm.head q e))] at this
        cases this
      · have hgt := kc_tri hlt hne
        have := h b.1
        rw [get_none (a :: l) b.1 (fun q hq => by
          rcases List.mem_cons.1 hq with e | e
          · rw [e]; exact hgt
          · exact kc_trans hgt (hl.head q e)), getK, if_pos rfl] at this
        cases this
    have hv : a.2 = b.2 := by
      have := h a.1
      rw [getK, if_pos rfl, getK, if_pos hk.symm] at this
      exact Option.some.inj this
    have ht : l = m := srt_ext l m hl.tail hm.tail fun k => by
      by_cases he : a.1 = k
      · rw [get_none l k (fun q hq => by rw [← he]; exact hl.head q hq), get_none m k (fun q hq => by rw [← he, hk]; exact hm.head q hq)]
      · have := h k
        rwa [getK, if_neg he, getK, if_neg (fun e => he (hk.trans e))] at this
    rw [ht, show a = b from Prod.ext hk hv]

/-- pairs, one behind the other -/
def layL (l ps : PL) : PL := ps.foldl layP l
theorem layL_srt : ∀ (ps l : PL), Srt l → Srt (layL l ps)
  | [], l, h => h
  | p :: t, l, h => layL_srt t (layP l p) (lay_srt l p h)
theorem layL_ful : ∀ (ps l : PL), Ful l → Ful (layL l ps)
  | [], l, h => h
  | p :: t, l, h => layL_ful t (layP l p) (lay_ful l p h)
/-- the last value of a key among pairs, or none; empty: taken away -/
def lastK : PL → ByteArray → Option ByteArray
  | [], _ => none
  | p :: t, k => match lastK t k with
    | some v => some v
    | none => if p.1 = k then some p.2 else none
theorem get_layL : ∀ (ps l : PL) (k : ByteArray), Srt l → getK (layL l ps) k = match lastK ps k with
    | some v => if v.size = 0 then none else some v
    | none => getK l k
  | [], l, k, _ => rfl
  | p :: t, l, k, h => by
    have ih := get_layL t (layP l p) k (lay_srt l p h)
    show getK (layL (layP l p) t) k = _
    rw [ih, get_lay l p k h, lastK]
    cases lastK t k with
    | some v => rfl
    | none =>
      simp only
      by_cases hk : p.1 = k
      · rw [if_pos hk, if_pos hk]
      · rw [if_neg hk, if_neg hk]

end Go.Proofs.YthnaanjhmehgcaaGreatDoor

/-
  WHAT FOLLOWS OF OVERLAYS, on lists: what is laid is an overlay; laying the same once more changes nothing; pairs of other keys stay. No condition.
-/
namespace Go.Proofs.YthnaanjhmehgcaaGreatDoor
open Go.ChangeShapes Go.WideShapes Go.ChangeAt Go.RowKit Go.Lib
set_option linter.unusedVariables false
set_option linter.unusedSimpArgs false
set_option maxRecDepth 20000

theorem Ful.nil : Ful [] := fun q hq => by cases hq
theorem get_mem : ∀ (l : PL) (k v : ByteArray), getK l k = some v → (k, v) ∈ l
  | [], k, v, h => by cases h
  | q :: t, k, v, h => by
    rw [getK] at h
    split at h
    · rename_i e
      have : q.2 = v := Option.some.inj h
      rw [← e, ← this]
      exact List.mem_cons_self ..
    · exact List.mem_cons_of_mem _ (get_mem t k v h)
theorem get_of_mem : ∀ (l : PL) (k v : ByteArray), Srt l → (k, v) ∈ l → getK l k = some v
  | q :: t, k, v, hs, h => by
    rw [getK]
    rcases List.mem_cons.1 h with e | e
    · rw [← e, if_pos rfl]
    · have := hs.head (k, v) e
      rw [if_neg (kc_ne this)]
      exact get_of_mem t k v hs.tail e
theorem last_get : ∀ (l : PL) (k : ByteArray), Srt l → lastK l k = getK l k
  | [], k, _ => rfl
  | q :: t, k, hs => by
    rw [lastK, last_get t k hs.tail, getK]
    by_cases h : q.1 = k
    · rw [get_none t k (fun r hr => by rw [← h]; exact hs.head r hr), if_pos h]
    · rw [if_neg h, if_neg h]
      cases getK t k <;> rfl
theorem last_none : ∀ (l : PL) (k : ByteArray), getK l k = none → lastK l k = none
  | [], k, _ => rfl
  | q :: t, k, h => by
    rw [getK] at h
    split at h
    · cases h
    · rename_i e
      rw [lastK, last_none t k h, if_neg e]

/-- an overlay, laid over nothing, is itself -/
theorem lay_self (x : PL) (hs : Srt x) (hf : Ful x) : layL [] x = x := by
  refine srt_ext _ _ (layL_srt x [] Srt.nil) hs fun k => ?_
  rw [get_layL x [] k Srt.nil, last_get x k hs]
  cases h : getK x k with
  | none => rfl
  | some v => simp only; rw [if_neg (hf (k, v) (get_mem x k v h))]
/-- pairs of other keys stay -/
theorem lay_stays (l more : PL) (hs : Srt l) (k v : ByteArray) (hm : (k, v) ∈ l) (hn : getK more k = none) : getK (layL l more) k = some v := by
  rw [get_layL more l k hs, last_none more k hn]
  exact get_of_mem l k v hs hm
theorem layL_mem : ∀ (ps l : PL) (q : ByteArray × ByteArray), q ∈ layL l ps → q ∈ l ∨ q ∈ ps
  | [], l, q, h => .inl h
  | p :: t, l, q, h => by
    rcases layL_mem t (layP l p) q h with e | e
    · rcases lay_mem l p q e with e | ⟨e, _⟩
      · exact .inl e
      · exact .inr (by rw [e]; exact List.mem_cons_self ..)
    · exact .inr (List.mem_cons_of_mem _ e)

/-- are all right? -/
def rgB (l : PL) : Bool := l.all fun p => rightP (bs p.1) (bs p.2)
theorem rgB_iff (l : PL) : rgB l = true ↔ Rgt l := by unfold rgB Rgt; rw [List.all_eq_true]
theorem rgB_drop {l : PL} {i : Nat} {k v : ByteArray} (h : l.drop i = (k, v) :: l.drop (i + 1)) : rgB (l.drop i) = (rightP (bs k) (bs v) && rgB (l.drop (i + 1))) := by rw [h]; rfl

end Go.Proofs.YthnaanjhmehgcaaGreatDoor

/-
  TWO TEXTS COMPARED BY <, AND AS KEYS. No condition.
-/
namespace Go.Proofs.YthnaanjhmehgcaaGreatDoor
open Go.ChangeShapes Go.WideShapes Go.ChangeAt Go.RowKit Go.Lib
set_option linter.unusedVariables false
set_option linter.unusedSimpArgs false

theorem less_cb : ∀ a b : List UInt8, Op.bytesLess a b = decide (compareBytes a b < 0)
  | [], [] => by simp [Op.bytesLess, compareBytes]
  | [], _ :: _ => by simp [Op.bytesLess, compareBytes]
  | _ :: _, [] => by simp [Op.bytesLess, compareBytes]
  | x :: a, y :: b => by
    have ih := less_cb a b
    unfold Op.bytesLess compareBytes
    by_cases h1 : x < y
    · simp [h1]
    · by_cases h2 : y < x
      · have h3 : x ≠ y := fun e => by rw [e] at h2; exact UInt8.lt_irrefl y h2
        simp [h1, h2, h3]
      · have e : x = y := by
          rw [UInt8.lt_iff_toNat_lt] at h1 h2
          exact UInt8.toNat_inj.1 (by omega)
        subst e
        simp [h1, ih]
theorem less_kc (a b : ByteArray) : Op.bytesLess a.toList b.toList = decide (kc a b < 0) := by
  unfold kc
  rw [less_cb, toList_data, toList_data]
  rfl

end Go.Proofs.YthnaanjhmehgcaaGreatDoor

/-
  THE DOCUMENT's WORD ON WHETHER PAIRS ARE THE SAME. Conditions: none.
-/
namespace Go.Proofs.YthnaanjhmehgcaaGreatDoor
open Go.ChangeShapes Go.WideShapes Go.ChangeAt Go.RowKit Go.Lib
set_option linter.unusedVariables false
set_option linter.unusedSimpArgs false
set_option maxRecDepth 20000

theorem pair_neq (w : World) (k v k2 v2 : ByteArray) : (binOp .neq 50 (.agg #[.string k, .string v]) (.agg #[.string k2, .string v2])).run Tryz.prog w = .ok (.bool (!decide (k = k2 ∧ v = v2))) w := by
  have e1 : ∀ a b : ByteArray, (a.toList == b.toList) = decide (a = b) := by
    intro a b
    rw [Bool.eq_iff_iff]
    rw [str_beq]; simp
  have hf : Tryz.prog.underlying 50 = some (.struct (Tryz.prog.fieldsOf 50)) := by kernel_rfl
  have hs : Tryz.prog.stoodInHeld 50 = false := by kernel_rfl
  rw [run_neq_struct, run_equalIn_agg w 9999 50 _ _ hf hs]
  simp [go_sem, Program.fieldsOf, Tryz.underlying50, Tryz.underlying9, Op.eqFields]
  have e2 : ∀ a b : ByteArray, (a.toList = b.toList) ↔ a = b := fun a b => by
    have := e1 a b
    rw [Bool.eq_iff_iff] at this
    simpa using this
  simp only [e2]
  by_cases h1 : k = k2 <;> by_cases h2 : v = v2 <;> simp [h1, h2]

theorem Pys.some_of {w : World} {a : Option Addr} {n c : Nat} {l : List (ByteArray × ByteArray)} (h : Pys w a n c l) (h0 : 0 < n) : ∃ b off, a = some ⟨b, off, none⟩ ∧ PCells w b off l := by
  obtain ⟨_, _, _, ⟨_, e⟩ | ⟨_, b, off, rfl, hc⟩⟩ := h
  · omega
  · exact ⟨b, off, rfl, hc⟩

set_option maxHeartbeats 4000000 in
theorem same_ok {w : World} {a1 a2 : Option Addr} {n1 c1 n2 c2 : Nat} {l1 l2 : List (ByteArray × ByteArray)} (h1 : Pys w a1 n1 c1 l1) (h2 : Pys w a2 n2 c2 l2) :
    Calls Tryz.prog 19 #[.slice a1 n1 c1, .slice a2 n2 c2] w fun e w' => e = .returned (.bool (decide (l1 = l2))) ∧ Below w.heap.size w w' := by
  have hm1 := h1.2.1
  have hm2 := h1.2.2.1
  have hm3 := h2.2.1
  have hm4 := h2.2.2.1
  by_cases hn : n1 = n2
  · subst hn
    have hI : ((n1 : Int) != (n1 : Int)) = false := by simp
    rcases Nat.eq_zero_or_pos n1 with e | e
    · have e1 : l1 = [] := by have := h1.1; rw [e] at this; simpa using this
      have e2 : l2 = [] := by have := h2.1; rw [e] at this; simpa using this
      subst e1 e2 e
      clear h1 h2
      go_enter Tryz.func19, Tryz.ntmps19
      go_wp2
      refine wp_loop_rounds 1 ?_
      rw [rounds_succ]
      go_wp2
      go_ret
      exact ⟨rfl, Below.refl _ _⟩
    · obtain ⟨b1, o1, rfl, hc1⟩ := h1.some_of e
      obtain ⟨b2, o2, rfl, hc2⟩ := h2.some_of e
      obtain ⟨q, hq⟩ : ∃ q, q = decide (l1 = l2) := ⟨_, rfl⟩
      rw [← hq]
      have hl1 := hid h1.1
      have hl2 := hid h2.1
      replace hq := hid hq
      clear h1 h2
      go_enter Tryz.func19, Tryz.ntmps19
      go_wp2
      go_loopw [5] (fun x wr => ∃ k : Nat, x = .int .i64 k ∧ k ≤ n1 ∧ Below w.heap.size w wr ∧ Hid (q = decide (l1.drop k = l2.drop k))) (fun x _ => n1 - (RowKit.intOf x).toNat)
      case atStart => exact ⟨0, rfl, by omega, Below.refl _ _, hid hq.out⟩
      case round =>
        obtain ⟨k, rfl, hk, hb, hr⟩ := hrel
        by_cases hlt : k < n1
        · obtain ⟨k1, v1, -, d1, x0, x1⟩ := (hc1.below hb).at k (by rw [hl1.out]; exact hlt)
          obtain ⟨k2, v2, -, d2, y0, y1⟩ := (hc2.below hb).at k (by rw [hl2.out]; exact hlt)
          have hkI : (k : Int) < (n1 : Int) := by omega
          have hcmp := fun w => pair_neq w k1 v1 k2 v2
          by_cases he : k1 = k2 ∧ v1 = v2
          · have E := hid (by rw [hr.out, d1.out, d2.out, he.1, he.2]; simp : q = decide (l1.drop (k + 1) = l2.drop (k + 1)))
            rw [decide_eq_true he] at hcmp
            clear hr d1 d2 he
            go_wp2
            go_region
            go_wp2
            go_roundw
            case rel => exact ⟨k + 1, by go_num, by omega, hb.drew, E⟩
            case measure => simp [RowKit.intOf]; omega
          · have E : q = false := by rw [hr.out, d1.out, d2.out, decide_eq_false (by simp; intro e1 e2; exact absurd ⟨e1, e2⟩ he)]
            rw [decide_eq_false he] at hcmp
            clear hr d1 d2 he
            go_wp2
            go_region
            go_wp2
            go_ret
            exact ⟨ret_bool (by rw [E]), hb.drew⟩
        · obtain rfl : k = n1 := by omega
          have E : q = true := by
            rw [hr.out, List.drop_eq_nil_iff.mpr (by rw [hl1.out]; exact Nat.le_refl _), List.drop_eq_nil_iff.mpr (by rw [hl2.out]; exact Nat.le_refl _)]; rfl
          clear hr
          go_wp2
          go_ret
          exact ⟨ret_bool (by rw [E]), hb⟩
  · have hne : l1 ≠ l2 := fun e => hn (by rw [← h1.1, ← h2.1, e])
    rw [decide_eq_false hne]
    have hI : ((n1 : Int) != (n2 : Int)) = true := by simp; omega
    clear h1 h2 hne hn
    go_enter Tryz.func19, Tryz.ntmps19
    go_wp2
    go_ret
    exact ⟨rfl, Below.refl _ _⟩

end Go.Proofs.YthnaanjhmehgcaaGreatDoor

/-
  WHETHER PAIRS ARE AN OVERLAY (over.Right). Conditions: how many bytes the texts have; what the listed variables hold.
-/
namespace Go.Proofs.YthnaanjhmehgcaaGreatDoor
open Go.ChangeShapes Go.WideShapes Go.ChangeAt Go.RowKit Go.Lib
set_option linter.unusedVariables false
set_option linter.unusedSimpArgs false
set_option maxRecDepth 20000

theorem str_geq {P : Program} (w : World) (t : TypeId) (a b : ByteArray) : (binOp .geq t (.string a) (.string b)).run P w = .ok (.bool (!decide (kc a b < 0))) w := by
  rw [← less_kc]
  simp [binOp, Op.stringOp]

/-- is it an overlay, behind a key -/
def ovB : Option ByteArray → PL → Bool
  | _, [] => true
  | o, p :: t => (match o with | some k => decide (kc k p.1 < 0) | none => true) && (decide (p.2.size ≠ 0) && rightP (bs p.1) (bs p.2)) && ovB (some p.1) t

theorem ovB_cons (o : Option ByteArray) (p : ByteArray × ByteArray) (t : PL) : ovB o (p :: t) = ((match o with | some k => decide (kc k p.1 < 0) | none => true) && (decide (p.2.size ≠ 0) && rightP (bs p.1) (bs p.2)) && ovB (some p.1) t) := by cases o <;> rfl

theorem ovB_some : ∀ (l : PL) (k : ByteArray), ovB (some k) l = true ↔ (∀ q ∈ l, kc k q.1 < 0) ∧ Srt l ∧ Ful l ∧ Rgt l
  | [], k => by
    unfold ovB
    exact ⟨fun _ => ⟨fun q hq => (by cases hq), Srt.nil, fun q hq => (by cases hq), fun q hq => (by cases hq)⟩, fun _ => rfl⟩
  | p :: t, k => by
    rw [ovB]
    simp only [Bool.and_eq_true, decide_eq_true_eq]
    rw [ovB_some t p.1]
    constructor
    · rintro ⟨⟨h1, h2, h3⟩, h4, h5, h6, h7⟩
      refine ⟨?_, List.pairwise_cons.2 ⟨h4, h5⟩, ?_, ?_⟩
      · intro q hq
        rcases List.mem_cons.1 hq with e | e
        · rw [e]; exact h1
        · exact kc_trans h1 (h4 q e)
      · intro q hq
        rcases List.mem_cons.1 hq with e | e
        · rw [e]; exact h2
        · exact h6 q e
      · intro q hq
        rcases List.mem_cons.1 hq with e | e
        · rw [e]; exact h3
        · exact h7 q e
    · rintro ⟨h1, h2, h3, h4⟩
      exact ⟨⟨h1 p (List.mem_cons_self ..), h3 p (List.mem_cons_self ..), h4 p (List.mem_cons_self ..)⟩, h2.head, h2.tail, fun q hq => h3 q (List.mem_cons_of_mem _ hq), fun q hq => h4 q (List.mem_cons_of_mem _ hq)⟩
theorem ovB_iff (l : PL) : ovB none l = true ↔ Srt l ∧ Ful l ∧ Rgt l := by
  cases l with
  | nil => exact ⟨fun _ => ⟨Srt.nil, fun q hq => (by cases hq), fun q hq => (by cases hq)⟩, fun _ => rfl⟩
  | cons p t =>
    rw [ovB]
    simp only [Bool.and_eq_true, decide_eq_true_eq, true_and]
    rw [ovB_some t p.1]
    constructor
    · rintro ⟨⟨h2, h3⟩, h4, h5, h6, h7⟩
      refine ⟨List.pairwise_cons.2 ⟨h4, h5⟩, ?_, ?_⟩
      · intro q hq
        rcases List.mem_cons.1 hq with e | e
        · rw [e]; exact h2
        · exact h6 q e
      · intro q hq
        rcases List.mem_cons.1 hq with e | e
        · rw [e]; exact h3
        · exact h7 q e
    · rintro ⟨h2, h3, h4⟩
      exact ⟨⟨h3 p (List.mem_cons_self ..), h4 p (List.mem_cons_self ..)⟩, h2.head, h2.tail, fun q hq => h3 q (List.mem_cons_of_mem _ hq), fun q hq => h4 q (List.mem_cons_of_mem _ hq)⟩

theorem drop_getp {l : PL} {i : Nat} {q : ByteArray × ByteArray} {t : PL} (h : l.drop i = q :: t) : l[i]? = some q := by
  have := congrArg List.head? h
  rwa [List.head?_drop, List.head?_cons] at this

/-- the key ahead -/
def preK (l : PL) (k : Nat) : Option ByteArray := if k = 0 then none else some (l.getD (k - 1) (⟨#[]⟩, ⟨#[]⟩)).1

set_option maxHeartbeats 8000000 in
theorem oright_ok {w : World} {a : Option Addr} {n c : Nat} {l : PL} (h : Pys w a n c l) (hz : Sml l) (hL : Laid w) :
    Calls Tryz.prog 21 #[.slice a n c] w fun e w' => e = .returned (.bool (ovB none l)) ∧ Below w.heap.size w w' := by
  have hm1 := h.2.1
  have hm2 := h.2.2.1
  obtain ⟨q, hq⟩ : ∃ q, q = ovB none l := ⟨_, rfl⟩
  rw [← hq]
  have hl := hid h.1
  have hz' := hid hz
  replace hq := hid hq
  clear hz
  go_enter Tryz.func21, Tryz.ntmps21
  go_wp2
  go_loopw [7] (fun x wr => ∃ k : Nat, x = .int .i64 k ∧ k ≤ n ∧ Below w.heap.size w wr ∧ Hid (q = ovB (preK l k) (l.drop k))) (fun x _ => n - (RowKit.intOf x).toNat)
  case atStart => exact ⟨0, rfl, by omega, Below.refl _ _, hid hq.out⟩
  case round =>
    obtain ⟨k, rfl, hk, hb, hr⟩ := hrel
    by_cases hlt : k < n
    · obtain ⟨b, off, rfl, hc⟩ := h.some_of (by omega)
      obtain ⟨ky, vl, hmem, hd, c0, c1⟩ := (hc.below hb).at k (by rw [hl.out]; exact hlt)
      have hkI : (k : Int) < (n : Int) := by omega
      have hfr := (Below.refl wr.heap.size wr).alloc (Nat.le_refl _) (.cells #[.string ky, .string vl] 50)
      have hbn := hb.trans (hfr.mono hb.size)
      obtain ⟨z1, z2⟩ := hz'.out _ hmem
      simp only at z1 z2
      have hri := right_ok ky vl (by omega) (by omega)
      obtain ⟨T, hT⟩ : ∃ T : Bool, T = (match preK l k with | some x => decide (kc x ky < 0) | none => true) := ⟨_, rfl⟩
      have hst := hid (by rw [hr.out, hd.out, ovB_cons, ← hT] : q = (T && (decide (vl.size ≠ 0) && rightP (bs ky) (bs vl)) && ovB (some ky) (l.drop (k + 1))))
      have hnx : preK l (k + 1) = some ky := by
        unfold preK
        rw [if_neg (by omega), Nat.add_sub_cancel, List.getD_eq_getElem?_getD, drop_getp hd.out]; rfl
      clear hr
      cases T
      · have E : q = false := by rw [hst.out]; rfl
        by_cases hk0 : k = 0
        · rw [hk0] at hT; exact absurd hT (by simp [preK])
        · obtain ⟨kp, vp, hmem2, hd2, p0, p1⟩ := (hc.below hbn).at (k - 1) (by rw [hl.out]; omega)
          have hpk : preK l k = some kp := by unfold preK; rw [if_neg hk0, List.getD_eq_getElem?_getD, drop_getp hd2.out]; rfl
          rw [hpk] at hT
          have hls := fun (w : World) => str_geq (P := Tryz.prog) w 9 kp ky
          have hT' : decide (kc kp ky < 0) = false := hT.symm
          rw [hT'] at hls
          clear hT'
          have hkp : (0 : Int) < (k : Int) := by omega
          have hkN : 0 < k := by omega
          have hkd : decide (0 < k) = true := decide_eq_true hkN
          have hkm : (k : Int) - 1 = ((k - 1 : Nat) : Int) := by omega
          have hkm1 : (0 : Int) ≤ (k : Int) - 1 := by omega
          have hkm2 : (k : Int) - 1 < (n : Int) := by omega
          have hkm3 : k - 1 < n := by omega
          have hkm4 : (1 : Int) ≤ (k : Int) := by omega
          have hkm5 : 1 ≤ k := by omega
          have hkmn : ((k : Int) - 1).toNat = k - 1 := by omega
          subst E
          clear hst hnx hpk hT hd hd2 hmem hmem2 hq
          have hne : Nonempty (After (wr.alloc (.cells #[.string ky, .string vl] 50))) := ⟨⟨_, Below.refl _ _⟩⟩
          have gp : ∀ p : After (wr.alloc (.cells #[.string ky, .string vl] 50)), p.out.cell? ⟨b, off + (k - 1) * 2, none⟩ = some (.string kp) := fun p => cell_later p.bel p0
          have gk : ∀ p : After (wr.alloc (.cells #[.string ky, .string vl] 50)), p.out.cell? ⟨wr.heap.size, 0, none⟩ = some (.string ky) := fun p => cell_later p.bel (new_two wr (.string ky) (.string vl) 50).1
          go_wp2
          refine wp_region_after (by kernel_rfl) (by kernel_rfl) ?_
          repeat (go_big_quiet_step (fail))
          refine wpQuiet_nil ?_
          intro wq hw'
          obtain ⟨⟨x, hwq⟩, hx⟩ := hw'
          simp only at hx
          subst hx
          go_wp2
          go_ret
          exact ⟨rfl, hbn.trans (hwq.mono hbn.size)⟩
      · have E2 : q = ((decide (vl.size ≠ 0) && rightP (bs ky) (bs vl)) && ovB (some ky) (l.drop (k + 1))) := by rw [hst.out]; rfl
        by_cases hk0 : k = 0
        · subst hk0
          rw [Nat.zero_mul, Nat.add_zero] at c0 c1
          clear hT
          have hne : Nonempty (After (wr.alloc (.cells #[.string ky, .string vl] 50))) := ⟨⟨_, Below.refl _ _⟩⟩
          go_wp2
          refine wp_region_after (by kernel_rfl) (by kernel_rfl) ?_
          repeat (go_big_quiet_step (fail))
          refine wpQuiet_nil ?_
          intro wq hw'
          obtain ⟨⟨x, hwq⟩, hx⟩ := hw'
          simp only at hx
          subst hx
          have hbq := hbn.trans (hwq.mono hbn.size)
          obtain ⟨c2, c3⟩ := two_cells hwq
          by_cases hv0 : vl.size = 0
          · have E : q = false := by rw [E2, decide_eq_false (fun h => h hv0)]; rfl
            have hvz : vl.toList.isEmpty = true := by rw [is_nil vl, decide_eq_true (by rw [← List.length_eq_zero_iff, bs_len]; exact hv0)]
            subst E
            clear hst E2 hnx hq hd hmem hv0
            go_wp2
            all_goals go_ret
            all_goals exact ⟨rfl, hbq⟩
          · have hvz : vl.toList.isEmpty = false := by rw [is_nil vl, decide_eq_false (by rw [← List.length_eq_zero_iff, bs_len]; exact hv0)]
            have hrq := hri wq (hL.below hbq)
            cases hR : rightP (bs ky) (bs vl)
            · have E : q = false := by rw [E2, hR]; simp
              rw [hR] at hrq
              subst E
              clear hst E2 hnx hq hd hmem hv0 hR
              go_wp2_with (go_at_call 56; refine hrq.mono ?_; rintro e w3 ⟨rfl, hb3⟩)
              all_goals go_ret
              all_goals exact ⟨rfl, hbq.trans (hb3.mono hbq.size)⟩
            · have E := hid (by rw [E2, hR, hnx, decide_eq_true (show vl.size ≠ 0 from hv0)]; rfl : q = ovB (preK l (0 + 1)) (l.drop (0 + 1)))
              rw [hR] at hrq
              clear hst E2 hnx hd hmem hv0 hR
              go_wp2_with (go_at_call 56; refine hrq.mono ?_; rintro e w3 ⟨rfl, hb3⟩)
              go_roundw
              case rel => exact ⟨0 + 1, by go_num, by omega, hbq.trans (hb3.mono hbq.size), E⟩
              case measure => simp [RowKit.intOf]; omega
        · obtain ⟨kp, vp, hmem2, hd2, p0, p1⟩ := (hc.below hbn).at (k - 1) (by rw [hl.out]; omega)
          have hpk : preK l k = some kp := by unfold preK; rw [if_neg hk0, List.getD_eq_getElem?_getD, drop_getp hd2.out]; rfl
          rw [hpk] at hT
          have hls := fun (w : World) => str_geq (P := Tryz.prog) w 9 kp ky
          have hT' : decide (kc kp ky < 0) = true := hT.symm
          rw [hT'] at hls
          clear hT'
          have hkp : (0 : Int) < (k : Int) := by omega
          have hkN : 0 < k := by omega
          have hkd : decide (0 < k) = true := decide_eq_true hkN
          have hkm : (k : Int) - 1 = ((k - 1 : Nat) : Int) := by omega
          have hkm1 : (0 : Int) ≤ (k : Int) - 1 := by omega
          have hkm2 : (k : Int) - 1 < (n : Int) := by omega
          have hkm3 : k - 1 < n := by omega
          have hkm4 : (1 : Int) ≤ (k : Int) := by omega
          have hkm5 : 1 ≤ k := by omega
          have hkmn : ((k : Int) - 1).toNat = k - 1 := by omega
          clear hpk hT hd2 hmem2
          have hne : Nonempty (After (wr.alloc (.cells #[.string ky, .string vl] 50))) := ⟨⟨_, Below.refl _ _⟩⟩
          have gp : ∀ p : After (wr.alloc (.cells #[.string ky, .string vl] 50)), p.out.cell? ⟨b, off + (k - 1) * 2, none⟩ = some (.string kp) := fun p => cell_later p.bel p0
          have gk : ∀ p : After (wr.alloc (.cells #[.string ky, .string vl] 50)), p.out.cell? ⟨wr.heap.size, 0, none⟩ = some (.string ky) := fun p => cell_later p.bel (new_two wr (.string ky) (.string vl) 50).1
          go_wp2
          refine wp_region_after (by kernel_rfl) (by kernel_rfl) ?_
          repeat (go_big_quiet_step (fail))
          refine wpQuiet_nil ?_
          intro wq hw'
          obtain ⟨⟨x, hwq⟩, hx⟩ := hw'
          simp only at hx
          subst hx
          have hbq := hbn.trans (hwq.mono hbn.size)
          obtain ⟨c2, c3⟩ := two_cells hwq
          clear gp gk hls p0 p1
          by_cases hv0 : vl.size = 0
          · have E : q = false := by rw [E2, decide_eq_false (fun h => h hv0)]; rfl
            have hvz : vl.toList.isEmpty = true := by rw [is_nil vl, decide_eq_true (by rw [← List.length_eq_zero_iff, bs_len]; exact hv0)]
            subst E
            clear hst E2 hnx hq hd hmem hv0
            go_wp2
            all_goals go_ret
            all_goals exact ⟨rfl, hbq⟩
          · have hvz : vl.toList.isEmpty = false := by rw [is_nil vl, decide_eq_false (by rw [← List.length_eq_zero_iff, bs_len]; exact hv0)]
            have hrq := hri wq (hL.below hbq)
            cases hR : rightP (bs ky) (bs vl)
            · have E : q = false := by rw [E2, hR]; simp
              rw [hR] at hrq
              subst E
              clear hst E2 hnx hq hd hmem hv0 hR
              go_wp2_with (go_at_call 56; refine hrq.mono ?_; rintro e w3 ⟨rfl, hb3⟩)
              all_goals go_ret
              all_goals exact ⟨rfl, hbq.trans (hb3.mono hbq.size)⟩
            · have E := hid (by rw [E2, hR, hnx, decide_eq_true (show vl.size ≠ 0 from hv0)]; rfl : q = ovB (preK l (k + 1)) (l.drop (k + 1)))
              rw [hR] at hrq
              clear hst E2 hnx hd hmem hv0 hR
              go_wp2_with (go_at_call 56; refine hrq.mono ?_; rintro e w3 ⟨rfl, hb3⟩)
              go_roundw
              case rel => exact ⟨k + 1, by go_num, by omega, hbq.trans (hb3.mono hbq.size), E⟩
              case measure => simp [RowKit.intOf]; omega
    · obtain rfl : k = n := by omega
      have E : q = true := by rw [hr.out, List.drop_eq_nil_iff.mpr (by rw [hl.out]; exact Nat.le_refl _)]; cases preK l k <;> rfl
      have hkI : ¬ (k : Int) < (k : Int) := by omega
      subst E
      clear hr hq
      go_wp2
      go_ret
      exact ⟨rfl, hb⟩

end Go.Proofs.YthnaanjhmehgcaaGreatDoor

/-
  THE DOCUMENT's WAY OF LAYING PAIRS, on lists: again and again the least key that is greater than the one ahead. No condition.
-/
namespace Go.Proofs.YthnaanjhmehgcaaGreatDoor
open Go.ChangeShapes Go.WideShapes Go.ChangeAt Go.RowKit Go.Lib
set_option linter.unusedVariables false
set_option linter.unusedSimpArgs false
set_option maxRecDepth 20000

theorem layL_cat (a l m : PL) : layL (layL a l) m = layL a (l ++ m) := by unfold layL; rw [List.foldl_append]

/-- is a key behind the one ahead? -/
def gtK (f : Bool) (a k : ByteArray) : Bool := f || decide (kc a k < 0)
/-- is a key less than the least one so far? -/
def lsK (c : Option ByteArray) (k : ByteArray) : Bool := match c with | none => true | some m => decide (kc k m < 0)
/-- the least one so far -/
def upK (f : Bool) (a : ByteArray) (c : Option ByteArray) (k : ByteArray) : Option ByteArray :=
  if gtK f a k && lsK c k then some k else c
def mnK (f : Bool) (a : ByteArray) (c : Option ByteArray) (l : PL) : Option ByteArray := l.foldl (fun c q => upK f a c q.1) c

theorem mnK_cons (f : Bool) (a : ByteArray) (c : Option ByteArray) (q : ByteArray × ByteArray) (t : PL) : mnK f a c (q :: t) = mnK f a (upK f a c q.1) t := rfl
theorem kc_le_trans {a b c : ByteArray} (h1 : ¬ kc b a < 0) (h2 : ¬ kc c b < 0) : ¬ kc c a < 0 := fun h => by
  by_cases e : a = b
  · rw [← e] at h2; exact h2 h
  · have h3 : kc a b < 0 := kc_tri h1 (fun x => e x.symm)
    exact h2 (kc_trans h h3)

theorem mnK_spec (f : Bool) (a : ByteArray) : ∀ (l : PL) (c : Option ByteArray), (∀ m, c = some m → gtK f a m = true) →
    (match mnK f a c l with
     | none => c = none ∧ ∀ q ∈ l, gtK f a q.1 = false
     | some m => gtK f a m = true ∧ (c = some m ∨ ∃ q ∈ l, q.1 = m) ∧ (∀ q ∈ l, gtK f a q.1 = true → ¬ kc q.1 m < 0) ∧ ∀ m', c = some m' → ¬ kc m' m < 0)
  | [], c, hc => by
    cases c with
    | none =>
      show (none : Option ByteArray) = none ∧ ∀ q ∈ ([] : PL), gtK f a q.1 = false
      exact ⟨rfl, fun q hq => (by cases hq)⟩
    | some m =>
      show gtK f a m = true ∧ (some m = some m ∨ ∃ q ∈ ([] : PL), q.1 = m) ∧ (∀ q ∈ ([] : PL), gtK f a q.1 = true → ¬ kc q.1 m < 0) ∧ ∀ m', some m = some m' → ¬ kc m' m < 0
      exact ⟨hc m rfl, .inl rfl, fun q hq => (by cases hq), fun m' h => (by cases h; rw [kc_self]; omega)⟩
  | q :: t, c, hc => by
    rw [mnK_cons]
    by_cases hu : (gtK f a q.1 && lsK c q.1) = true
    · have e : upK f a c q.1 = some q.1 := by unfold upK; rw [if_pos hu]
      rw [Bool.and_eq_true] at hu
      have ih := mnK_spec f a t (some q.1) (fun m hm => by cases hm; exact hu.1)
      rw [e]
      cases hm : mnK f a (some q.1) t with
      | none => rw [hm] at ih; exact absurd ih.1 (by simp)
      | some m =>
        rw [hm] at ih
        simp only at ih ⊢
        obtain ⟨i1, i2, i3, i4⟩ := ih
        refine ⟨i1, ?_, ?_, ?_⟩
        · rcases i2 with h | ⟨r, hr, h⟩
          · exact .inr ⟨q, List.mem_cons_self .., by cases h; rfl⟩
          · exact .inr ⟨r, List.mem_cons_of_mem _ hr, h⟩
        · intro r hr hg
          rcases List.mem_cons.1 hr with h | h
          · rw [h]; exact i4 q.1 rfl
          · exact i3 r h hg
        · intro m' hm'
          subst hm'
          have h1 : kc q.1 m' < 0 := of_decide_eq_true hu.2
          have h2 := i4 q.1 rfl
          exact kc_le_trans h2 (fun h => by have := kc_trans h h1; rw [kc_self] at this; omega)
    · have e : upK f a c q.1 = c := by unfold upK; rw [if_neg hu]
      have ih := mnK_spec f a t c hc
      rw [e]
      cases hm : mnK f a c t with
      | none =>
        rw [hm] at ih
        simp only at ih ⊢
        obtain ⟨rfl, i2⟩ := ih
        refine ⟨rfl, fun r hr => ?_⟩
        rcases List.mem_cons.1 hr with h | h
        · rw [h]; cases hg : gtK f a q.1
          · rfl
          · rw [hg] at hu; exact absurd rfl hu
        · exact i2 r h
      | some m =>
        rw [hm] at ih
        simp only at ih ⊢
        obtain ⟨i1, i2, i3, i4⟩ := ih
        refine ⟨i1, ?_, ?_, i4⟩
        · rcases i2 with h | ⟨r, hr, h⟩
          · exact .inl h
          · exact .inr ⟨r, List.mem_cons_of_mem _ hr, h⟩
        · intro r hr hg
          rcases List.mem_cons.1 hr with h | h
          · rw [h] at hg ⊢
            cases c with
            | none => rw [hg] at hu; exact absurd rfl hu
            | some m' =>
              rw [hg] at hu
              have h1 : ¬ kc q.1 m' < 0 := fun x => hu (by simp [lsK, x])
              exact kc_le_trans (i4 m' rfl) h1
          · exact i3 r h hg

theorem get_filter (f : ByteArray → Bool) : ∀ (l : PL) (k : ByteArray), getK (l.filter fun q => f q.1) k = if f k then getK l k else none
  | [], k => by simp [getK]
  | q :: t, k => by
    have ih := get_filter f t k
    rw [List.filter_cons]
    by_cases hq : f q.1 = true
    · rw [if_pos hq, getK, getK, ih]
      by_cases e : q.1 = k
      · rw [if_pos e, if_pos e, ← e, if_pos hq]
      · rw [if_neg e, if_neg e]
    · rw [if_neg hq, ih, getK]
      by_cases e : q.1 = k
      · rw [← e, if_neg hq, if_neg hq]
      · rw [if_neg e]
theorem get_append : ∀ (a b : PL) (k : ByteArray), getK (a ++ b) k = match getK a k with | some v => some v | none => getK b k
  | [], b, k => rfl
  | q :: t, b, k => by
    rw [List.cons_append, getK, getK, get_append t b k]
    split <;> rfl

/-- what is told of an overlay up to a key -/
def prefK (f : Bool) (a : ByteArray) (R : PL) : PL := R.filter fun q => !gtK f a q.1
theorem pref_first (a : ByteArray) (R : PL) : prefK true a R = [] := by unfold prefK gtK; simp
theorem srt_filter (f : ByteArray × ByteArray → Bool) (R : PL) (h : Srt R) : Srt (R.filter f) := List.Pairwise.sublist List.filter_sublist h

/-- one key further -/
theorem pref_step (all : PL) (f : Bool) (a m : ByteArray) (hm : mnK f a none all = some m) :
    prefK false m (layL [] all) = prefK f a (layL [] all) ++ (match lastK all m with | some v => if v.size = 0 then [] else [(m, v)] | none => []) := by
  have hsp := mnK_spec f a all none (fun _ h => by cases h)
  rw [hm] at hsp
  simp only at hsp
  obtain ⟨s1, s2, s3, -⟩ := hsp
  have hR : Srt (layL [] all) := layL_srt all [] Srt.nil
  have hget := fun k => get_layL all [] k Srt.nil
  have hle : ∀ k, kc k m < 0 → gtK f a k = true → lastK all k = none := fun k hk hg => by
    cases h : lastK all k with
    | none => rfl
    | some v =>
      have : getK all k ≠ none := fun e => by rw [last_none all k e] at h; cases h
      cases h2 : getK all k with
      | none => exact absurd h2 this
      | some v2 =>
        have := get_mem all k v2 h2
        exact absurd hk (s3 (k, v2) this hg)
  have hT : ∀ k, getK (match lastK all m with | some v => if v.size = 0 then [] else [(m, v)] | none => []) k = if m = k then getK (layL [] all) k else none := fun k => by
    by_cases e : m = k
    · subst e
      rw [if_pos rfl, hget m]
      cases lastK all m with
      | none => rfl
      | some v =>
        simp only
        by_cases h0 : v.size = 0
        · rw [if_pos h0, if_pos h0]; rfl
        · rw [if_neg h0, if_neg h0, getK, if_pos rfl]
    · rw [if_neg e]
      cases lastK all m with
      | none => rfl
      | some v =>
        simp only
        by_cases h0 : v.size = 0
        · rw [if_pos h0]; rfl
        · rw [if_neg h0, getK, if_neg e]; rfl
  refine srt_ext _ _ (srt_filter _ _ hR) ?_ fun k => ?_
  · refine List.pairwise_append.2 ⟨srt_filter _ _ hR, ?_, ?_⟩
    · cases lastK all m with
      | none => exact Srt.nil
      | some v => simp only; split; exact Srt.nil; exact List.pairwise_singleton ..
    · intro x hx y hy
      have hxg : gtK f a x.1 = false := by
        have := (List.mem_filter.1 hx).2
        simpa using this
      have hym : y.1 = m := by
        cases h : lastK all m with
        | none => rw [h] at hy; cases hy
        | some v =>
          rw [h] at hy
          simp only at hy
          split at hy
          · cases hy
          · rw [List.mem_singleton.1 hy]
      rw [hym]
      unfold gtK at hxg s1
      cases f
      · simp only [Bool.false_or] at hxg s1
        have h1 : ¬ kc a x.1 < 0 := of_decide_eq_false hxg
        have h2 : kc a m < 0 := of_decide_eq_true s1
        by_cases e : a = x.1
        · rw [← e]; exact h2
        · exact kc_trans (kc_tri h1 e) h2
      · simp at hxg
  · rw [get_append]
    unfold prefK
    rw [get_filter (fun x => !gtK false m x), get_filter (fun x => !gtK f a x), hT]
    cases hg : gtK f a k
    · -- not behind the one ahead
      have hkm : gtK false m k = false := by
        unfold gtK at hg s1 ⊢
        cases f
        · simp only [Bool.false_or] at hg s1 ⊢
          have h1 : ¬ kc a k < 0 := of_decide_eq_false hg
          have h2 : kc a m < 0 := of_decide_eq_true s1
          exact decide_eq_false fun h3 => h1 (kc_trans h2 h3)
        · simp at hg
      rw [hkm]
      simp only [Bool.not_false, if_true]
      cases hx : getK (layL [] all) k with
      | some v => rfl
      | none => simp only; split <;> rfl
    · simp only [Bool.not_true, Bool.false_eq_true, if_false]
      by_cases e : m = k
      · subst e
        have : gtK false m m = false := by unfold gtK; rw [kc_self]; rfl
        rw [this, if_pos rfl]; rfl
      · rw [if_neg e]
        by_cases hlt : kc m k < 0
        · have : gtK false m k = true := by unfold gtK; rw [decide_eq_true hlt]; rfl
          rw [this]; rfl
        · have hkm : kc k m < 0 := kc_tri hlt e
          have : gtK false m k = false := by unfold gtK; rw [decide_eq_false hlt]; rfl
          rw [this, hget k, hle k hkm hg]; rfl

theorem pref_end (all : PL) (f : Bool) (a : ByteArray) (h : mnK f a none all = none) : prefK f a (layL [] all) = layL [] all := by
  have hsp := mnK_spec f a all none (fun _ h => by cases h)
  rw [h] at hsp
  simp only at hsp
  unfold prefK
  refine List.filter_eq_self.2 fun q hq => ?_
  rcases layL_mem all [] q hq with e | e
  · cases e
  · rw [hsp.2 q e]; rfl

/-- how many keys are behind the one ahead -/
def remK (all : PL) (f : Bool) (a : ByteArray) : Nat := (all.filter fun q => gtK f a q.1).length
theorem rem_less (all : PL) (f : Bool) (a m : ByteArray) (hm : mnK f a none all = some m) : remK all false m < remK all f a := by
  have hsp := mnK_spec f a all none (fun _ h => by cases h)
  rw [hm] at hsp
  simp only at hsp
  obtain ⟨s1, s2, s3, -⟩ := hsp
  obtain ⟨q, hq, hqm⟩ : ∃ q ∈ all, q.1 = m := by
    rcases s2 with h | h
    · cases h
    · exact h
  have himp : ∀ x : ByteArray × ByteArray, gtK false m x.1 = true → gtK f a x.1 = true := fun x hx => by
    unfold gtK at hx s1 ⊢
    cases f
    · simp only [Bool.false_or] at hx s1 ⊢
      exact decide_eq_true (kc_trans (of_decide_eq_true s1) (of_decide_eq_true hx))
    · rfl
  have hnm : gtK false m q.1 = false := by rw [hqm]; unfold gtK; rw [kc_self]; rfl
  have hgm : gtK f a q.1 = true := by rw [hqm]; exact s1
  have key : ∀ l : PL, (l.filter fun x => gtK false m x.1).length ≤ (l.filter fun x => gtK f a x.1).length ∧ (q ∈ l → (l.filter fun x => gtK false m x.1).length < (l.filter fun x => gtK f a x.1).length) := by
    intro l
    induction l with
    | nil => exact ⟨Nat.le_refl _, fun h => by cases h⟩
    | cons y t ih =>
      rw [List.filter_cons, List.filter_cons]
      by_cases h1 : gtK false m y.1 = true
      · rw [if_pos h1, if_pos (himp y h1), List.length_cons, List.length_cons]
        refine ⟨by omega, fun h => ?_⟩
        rcases List.mem_cons.1 h with e | e
        · rw [e] at hnm; rw [hnm] at h1; cases h1
        · have := ih.2 e; omega
      · rw [if_neg h1]
        by_cases h2 : gtK f a y.1 = true
        · rw [if_pos h2, List.length_cons]
          exact ⟨by omega, fun _ => by omega⟩
        · rw [if_neg h2]
          refine ⟨ih.1, fun h => ?_⟩
          rcases List.mem_cons.1 h with e | e
          · rw [e] at hgm; exact absurd hgm h2
          · exact ih.2 e
  exact (key all).2 hq

end Go.Proofs.YthnaanjhmehgcaaGreatDoor

/-
  A KEY'S VALUE AMONG PAIRS (over.Get). Conditions: none.
-/
namespace Go.Proofs.YthnaanjhmehgcaaGreatDoor
open Go.ChangeShapes Go.WideShapes Go.ChangeAt Go.RowKit Go.Lib
set_option linter.unusedVariables false
set_option linter.unusedSimpArgs false
set_option maxRecDepth 20000

def getV (o : Option ByteArray) : ByteArray := match o with | some v => v | none => ⟨#[]⟩

set_option maxHeartbeats 4000000 in
theorem oget_ok {w : World} {a : Option Addr} {n c : Nat} {l : PL} (h : Pys w a n c l) (key : ByteArray) :
    Calls Tryz.prog 23 #[.slice a n c, .string key] w fun e w' => e = .returned (.tuple #[.string (getV (getK l key)), .bool (getK l key).isSome]) ∧ Below w.heap.size w w' := by
  have hm1 := h.2.1
  have hm2 := h.2.2.1
  obtain ⟨q, hq⟩ : ∃ q, q = getK l key := ⟨_, rfl⟩
  rw [← hq]
  have hl := hid h.1
  replace hq := hid hq
  go_enter Tryz.func23, Tryz.ntmps23
  go_wp2
  go_loopw [10] (fun x wr => ∃ k : Nat, x = .int .i64 k ∧ k ≤ n ∧ Below w.heap.size w wr ∧ Hid (q = getK (l.drop k) key)) (fun x _ => n - (RowKit.intOf x).toNat)
  case atStart => exact ⟨0, rfl, by omega, Below.refl _ _, hid hq.out⟩
  case round =>
    obtain ⟨k, rfl, hk, hb, hr⟩ := hrel
    by_cases hlt : k < n
    · obtain ⟨b, off, rfl, hc⟩ := h.some_of (by omega)
      obtain ⟨ky, vl, hmem, hd, c0, c1⟩ := (hc.below hb).at k (by rw [hl.out]; exact hlt)
      have hkI : (k : Int) < (n : Int) := by omega
      have hbn := hb.alloc hb.size (.cells #[.string ky, .string vl] 50)
      by_cases he : ky = key
      · have E : q = some vl := by rw [hr.out, hd.out, getK, if_pos he]
        have hee : (ky.toList == key.toList) = true := by rw [he]; simp
        subst E
        clear hr hd hmem he hq
        go_wp2
        all_goals go_ret2
        all_goals exact ⟨rfl, hbn⟩
      · have E := hid (by rw [hr.out, hd.out, getK, if_neg he] : q = getK (l.drop (k + 1)) key)
        have hee : (ky.toList == key.toList) = false := by
          cases hh : (ky.toList == key.toList)
          · rfl
          · exact absurd (str_beq.1 hh) he
        clear hr hd hmem he
        go_wp2
        go_roundw
        case rel => exact ⟨k + 1, by go_num, by omega, hbn, E⟩
        case measure => simp [RowKit.intOf]; omega
    · obtain rfl : k = n := by omega
      have E : q = none := by rw [hr.out, List.drop_eq_nil_iff.mpr (by rw [hl.out]; exact Nat.le_refl _)]; rfl
      have hkI : ¬ (k : Int) < (k : Int) := by omega
      subst E
      clear hr hq
      go_wp2
      all_goals go_ret2
      all_goals exact ⟨rfl, hb⟩

end Go.Proofs.YthnaanjhmehgcaaGreatDoor
