/-
  THE DOCUMENT's WAY OF LAYING PAIRS, on lists: again and again the least key that is greater than the one ahead. No condition.
-/
import Derived.Test.YtlehomcodkbpmaaGreatDoorAgp
import Derived.Test.YtlehomcodkbpmaaGreatDoorOrt
namespace Go.Proofs.YtlehomcodkbpmaaGreatDoor
open Go.ChangeShapes Go.WideShapes Go.ChangeAt Go.RowKit Go.Lib
set_option linter.unusedVariables false
set_option linter.unusedSimpArgs false
set_option maxRecDepth 20000

/-- is a key behind the one ahead? -/
def gtK (f : Bool) (a k : ByteArray) : Bool := f || decide (kc a k < 0)
/-- is a key less than the least one so far? -/
def lsK (c : Option ByteArray) (k : ByteArray) : Bool := match c with | none => true | some m => decide (kc k m < 0)
/-- the least one so far -/
def upK (f : Bool) (a : ByteArray) (c : Option ByteArray) (k : ByteArray) : Option ByteArray :=
  if gtK f a k && lsK c k then some k else c
def mnK (f : Bool) (a : ByteArray) (c : Option ByteArray) (l : PL) : Option ByteArray := l.foldl (fun c q => upK f a c q.1) c

theorem mnK_cons (f : Bool) (a : ByteArray) (c : Option ByteArray) (q : ByteArray × ByteArray) (t : PL) : mnK f a c (q :: t) = mnK f a (upK f a c q.1) t := rfl
theorem kc_le_trans {a b c : ByteArray} (h1 : ¬ kc b a < 0) (h2 : ¬ kc c b < 0) : ¬ kc c a < 0 := fun h => by
  by_cases e : a = b
  · rw [← e] at h2; exact h2 h
  · have h3 : kc a b < 0 := kc_tri h1 (fun x => e x.symm)
    exact h2 (kc_trans h h3)

theorem mnK_spec (f : Bool) (a : ByteArray) : ∀ (l : PL) (c : Option ByteArray), (∀ m, c = some m → gtK f a m = true) →
    (match mnK f a c l with
     | none => c = none ∧ ∀ q ∈ l, gtK f a q.1 = false
     | some m => gtK f a m = true ∧ (c = some m ∨ ∃ q ∈ l, q.1 = m) ∧ (∀ q ∈ l, gtK f a q.1 = true → ¬ kc q.1 m < 0) ∧ ∀ m', c = some m' → ¬ kc m' m < 0)
  | [], c, hc => by
    cases c with
    | none =>
      show (none : Option ByteArray) = none ∧ ∀ q ∈ ([] : PL), gtK f a q.1 = false
      exact ⟨rfl, fun q hq => (by cases hq)⟩
    | some m =>
      show gtK f a m = true ∧ (some m = some m ∨ ∃ q ∈ ([] : PL), q.1 = m) ∧ (∀ q ∈ ([] : PL), gtK f a q.1 = true → ¬ kc q.1 m < 0) ∧ ∀ m', some m = some m' → ¬ kc m' m < 0
      exact ⟨hc m rfl, .inl rfl, fun q hq => (by cases hq), fun m' h => (by cases h; rw [kc_self]; omega)⟩
  | q :: t, c, hc => by
    rw [mnK_cons]
    by_cases hu : (gtK f a q.1 && lsK c q.1) = true
    · have e : upK f a c q.1 = some q.1 := by unfold upK; rw [if_pos hu]
      rw [Bool.and_eq_true] at hu
      have ih := mnK_spec f a t (some q.1) (fun m hm => by cases hm; exact hu.1)
      rw [e]
      cases hm : mnK f a (some q.1) t with
      | none => rw [hm] at ih; exact absurd ih.1 (by simp)
      | some m =>
        rw [hm] at ih
        simp only at ih ⊢
        obtain ⟨i1, i2, i3, i4⟩ := ih
        refine ⟨i1, ?_, ?_, ?_⟩
        · rcases i2 with h | ⟨r, hr, h⟩
          · exact .inr ⟨q, List.mem_cons_self .., by cases h; rfl⟩
          · exact .inr ⟨r, List.mem_cons_of_mem _ hr, h⟩
        · intro r hr hg
          rcases List.mem_cons.1 hr with h | h
          · rw [h]; exact i4 q.1 rfl
          · exact i3 r h hg
        · intro m' hm'
          subst hm'
          have h1 : kc q.1 m' < 0 := of_decide_eq_true hu.2
          have h2 := i4 q.1 rfl
          exact kc_le_trans h2 (fun h => by have := kc_trans h h1; rw [kc_self] at this; omega)
    · have e : upK f a c q.1 = c := by unfold upK; rw [if_neg hu]
      have ih := mnK_spec f a t c hc
      rw [e]
      cases hm : mnK f a c t with
      | none =>
        rw [hm] at ih
        simp only at ih ⊢
        obtain ⟨rfl, i2⟩ := ih
        refine ⟨rfl, fun r hr => ?_⟩
        rcases List.mem_cons.1 hr with h | h
        · rw [h]; cases hg : gtK f a q.1
          · rfl
          · rw [hg] at hu; exact absurd rfl hu
        · exact i2 r h
      | some m =>
        rw [hm] at ih
        simp only at ih ⊢
        obtain ⟨i1, i2, i3, i4⟩ := ih
        refine ⟨i1, ?_, ?_, i4⟩
        · rcases i2 with h | ⟨r, hr, h⟩
          · exact .inl h
          · exact .inr ⟨r, List.mem_cons_of_mem _ hr, h⟩
        · intro r hr hg
          rcases List.mem_cons.1 hr with h | h
          · rw [h] at hg ⊢
            cases c with
            | none => rw [hg] at hu; exact absurd rfl hu
            | some m' =>
              rw [hg] at hu
              have h1 : ¬ kc q.1 m' < 0 := fun x => hu (by simp [lsK, x])
              exact kc_le_trans (i4 m' rfl) h1
          · exact i3 r h hg

theorem get_filter (f : ByteArray → Bool) : ∀ (l : PL) (k : ByteArray), getK (l.filter fun q => f q.1) k = if f k then getK l k else none
  | [], k => by simp [getK]
  | q :: t, k => by
    have ih := get_filter f t k
    rw [List.filter_cons]
    by_cases hq : f q.1 = true
    · rw [if_pos hq, getK, getK, ih]
      by_cases e : q.1 = k
      · rw [if_pos e, if_pos e, ← e, if_pos hq]
      · rw [if_neg e, if_neg e]
    · rw [if_neg hq, ih, getK]
      by_cases e : q.1 = k
      · rw [← e, if_neg hq, if_neg hq]
      · rw [if_neg e]
theorem get_append : ∀ (a b : PL) (k : ByteArray), getK (a ++ b) k = match getK a k with | some v => some v | none => getK b k
  | [], b, k => rfl
  | q :: t, b, k => by
    rw [List.cons_append, getK, getK, get_append t b k]
    split <;> rfl

/-- what is told of an overlay up to a key -/
def prefK (f : Bool) (a : ByteArray) (R : PL) : PL := R.filter fun q => !gtK f a q.1
theorem pref_first (a : ByteArray) (R : PL) : prefK true a R = [] := by unfold prefK gtK; simp
theorem srt_filter (f : ByteArray × ByteArray → Bool) (R : PL) (h : Srt R) : Srt (R.filter f) := List.Pairwise.sublist List.filter_sublist h

/-- one key further -/
theorem pref_step (all : PL) (f : Bool) (a m : ByteArray) (hm : mnK f a none all = some m) :
    prefK false m (layL [] all) = prefK f a (layL [] all) ++ (match lastK all m with | some v => if v.size = 0 then [] else [(m, v)] | none => []) := by
  have hsp := mnK_spec f a all none (fun _ h => by cases h)
  rw [hm] at hsp
  simp only at hsp
  obtain ⟨s1, s2, s3, -⟩ := hsp
  have hR : Srt (layL [] all) := layL_srt all [] Srt.nil
  have hget := fun k => get_layL all [] k Srt.nil
  have hle : ∀ k, kc k m < 0 → gtK f a k = true → lastK all k = none := fun k hk hg => by
    cases h : lastK all k with
    | none => rfl
    | some v =>
      have : getK all k ≠ none := fun e => by rw [last_none all k e] at h; cases h
      cases h2 : getK all k with
      | none => exact absurd h2 this
      | some v2 =>
        have := get_mem all k v2 h2
        exact absurd hk (s3 (k, v2) this hg)
  have hT : ∀ k, getK (match lastK all m with | some v => if v.size = 0 then [] else [(m, v)] | none => []) k = if m = k then getK (layL [] all) k else none := fun k => by
    by_cases e : m = k
    · subst e
      rw [if_pos rfl, hget m]
      cases lastK all m with
      | none => rfl
      | some v =>
        simp only
        by_cases h0 : v.size = 0
        · rw [if_pos h0, if_pos h0]; rfl
        · rw [if_neg h0, if_neg h0, getK, if_pos rfl]
    · rw [if_neg e]
      cases lastK all m with
      | none => rfl
      | some v =>
        simp only
        by_cases h0 : v.size = 0
        · rw [if_pos h0]; rfl
        · rw [if_neg h0, getK, if_neg e]; rfl
  refine srt_ext _ _ (srt_filter _ _ hR) ?_ fun k => ?_
  · refine List.pairwise_append.2 ⟨srt_filter _ _ hR, ?_, ?_⟩
    · cases lastK all m with
      | none => exact Srt.nil
      | some v => simp only; split; exact Srt.nil; exact List.pairwise_singleton ..
    · intro x hx y hy
      have hxg : gtK f a x.1 = false := by
        have := (List.mem_filter.1 hx).2
        simpa using this
      have hym : y.1 = m := by
        cases h : lastK all m with
        | none => rw [h] at hy; cases hy
        | some v =>
          rw [h] at hy
          simp only at hy
          split at hy
          · cases hy
          · rw [List.mem_singleton.1 hy]
      rw [hym]
      unfold gtK at hxg s1
      cases f
      · simp only [Bool.false_or] at hxg s1
        have h1 : ¬ kc a x.1 < 0 := of_decide_eq_false hxg
        have h2 : kc a m < 0 := of_decide_eq_true s1
        by_cases e : a = x.1
        · rw [← e]; exact h2
        · exact kc_trans (kc_tri h1 e) h2
      · simp at hxg
  · rw [get_append]
    unfold prefK
    rw [get_filter (fun x => !gtK false m x), get_filter (fun x => !gtK f a x), hT]
    cases hg : gtK f a k
    · -- not behind the one ahead
      have hkm : gtK false m k = false := by
        unfold gtK at hg s1 ⊢
        cases f
        · simp only [Bool.false_or] at hg s1 ⊢
          have h1 : ¬ kc a k < 0 := of_decide_eq_false hg
          have h2 : kc a m < 0 := of_decide_eq_true s1
          exact decide_eq_false fun h3 => h1 (kc_trans h2 h3)
        · simp at hg
      rw [hkm]
      simp only [Bool.not_false, if_true]
      cases hx : getK (layL [] all) k with
      | some v => rfl
      | none => simp only; split <;> rfl
    · simp only [Bool.not_true, Bool.false_eq_true, if_false]
      by_cases e : m = k
      · subst e
        have : gtK false m m = false := by unfold gtK; rw [kc_self]; rfl
        rw [this, if_pos rfl]; rfl
      · rw [if_neg e]
        by_cases hlt : kc m k < 0
        · have : gtK false m k = true := by unfold gtK; rw [decide_eq_true hlt]; rfl
          rw [this]; rfl
        · have hkm : kc k m < 0 := kc_tri hlt e
          have : gtK false m k = false := by unfold gtK; rw [decide_eq_false hlt]; rfl
          rw [this, hget k, hle k hkm hg]; rfl

theorem pref_end (all : PL) (f : Bool) (a : ByteArray) (h : mnK f a none all = none) : prefK f a (layL [] all) = layL [] all := by
  have hsp := mnK_spec f a all none (fun _ h => by cases h)
  rw [h] at hsp
  simp only at hsp
  unfold prefK
  refine List.filter_eq_self.2 fun q hq => ?_
  rcases layL_mem all [] q hq with e | e
  · cases e
  · rw [hsp.2 q e]; rfl

/-- how many keys are behind the one ahead -/
def remK (all : PL) (f : Bool) (a : ByteArray) : Nat := (all.filter fun q => gtK f a q.1).length
theorem rem_less (all : PL) (f : Bool) (a m : ByteArray) (hm : mnK f a none all = some m) : remK all false m < remK all f a := by
  have hsp := mnK_spec f a all none (fun _ h => by cases h)
  rw [hm] at hsp
  simp only at hsp
  obtain ⟨s1, s2, s3, -⟩ := hsp
  obtain ⟨q, hq, hqm⟩ : ∃ q ∈ all, q.1 = m := by
    rcases s2 with h | h
    · cases h
    · exact h
  have himp : ∀ x : ByteArray × ByteArray, gtK false m x.1 = true → gtK f a x.1 = true := fun x hx => by
    unfold gtK at hx s1 ⊢
    cases f
    · simp only [Bool.false_or] at hx s1 ⊢
      exact decide_eq_true (kc_trans (of_decide_eq_true s1) (of_decide_eq_true hx))
    · rfl
  have hnm : gtK false m q.1 = false := by rw [hqm]; unfold gtK; rw [kc_self]; rfl
  have hgm : gtK f a q.1 = true := by rw [hqm]; exact s1
  have key : ∀ l : PL, (l.filter fun x => gtK false m x.1).length ≤ (l.filter fun x => gtK f a x.1).length ∧ (q ∈ l → (l.filter fun x => gtK false m x.1).length < (l.filter fun x => gtK f a x.1).length) := by
    intro l
    induction l with
    | nil => exact ⟨Nat.le_refl _, fun h => by cases h⟩
    | cons y t ih =>
      rw [List.filter_cons, List.filter_cons]
      by_cases h1 : gtK false m y.1 = true
      · rw [if_pos h1, if_pos (himp y h1), List.length_cons, List.length_cons]
        refine ⟨by omega, fun h => ?_⟩
        rcases List.mem_cons.1 h with e | e
        · rw [e] at hnm; rw [hnm] at h1; cases h1
        · have := ih.2 e; omega
      · rw [if_neg h1]
        by_cases h2 : gtK f a y.1 = true
        · rw [if_pos h2, List.length_cons]
          exact ⟨by omega, fun _ => by omega⟩
        · rw [if_neg h2]
          refine ⟨ih.1, fun h => ?_⟩
          rcases List.mem_cons.1 h with e | e
          · rw [e] at hgm; exact absurd hgm h2
          · exact ih.2 e
  exact (key all).2 hq

end Go.Proofs.YtlehomcodkbpmaaGreatDoor
