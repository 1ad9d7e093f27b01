/-
  What is printed is read; no text of that number or time has fewer bytes: of lists of bytes, no model in this text.
  Conditions: those that each theorem names.; AND WHAT FOLLOWS OF IT. Conditions: those that each part names.
-/
import Derived.Test.YthnaanjhmehgcaaGreatDoorN04
import Derived.Test.YthnaanjhmehgcaaGreatDoorN47
import Derived.Test.YthnaanjhmehgcaaGreatDoorN39
import Derived.Lib.TrimAscii
/-
  What is printed is read; no text of that number or time has fewer bytes: of lists of bytes, no model in this text.
  Conditions: those that each theorem names.
-/
namespace Go.Proofs.YthnaanjhmehgcaaGreatDoor
open Go.Lib

theorem ahead_hit' (l : List UInt8) : ahead (46 :: l) = [] := by unfold ahead; rw [List.takeWhile_cons]; rfl
theorem digit_ne46 {c : UInt8} (h : isD c = true) : (c != 46) = true := by
  rw [isD_iff] at h
  simp only [bne_iff_ne, ne_eq]
  rintro rfl
  have : (46 : UInt8).toNat = 46 := rfl
  omega
theorem ahead_app {a : List UInt8} (h : allD a = true) (b : List UInt8) : ahead (a ++ b) = a ++ ahead b := by
  induction a with
  | nil => rfl
  | cons c r ih =>
    rw [allD_cons, Bool.and_eq_true] at h
    unfold ahead at *
    rw [List.cons_append, List.takeWhile_cons, if_pos (digit_ne46 h.1), ih h.2]
    rfl
theorem behind_app {a : List UInt8} (h : allD a = true) (b : List UInt8) : behind (a ++ b) = behind b := by
  induction a with
  | nil => rfl
  | cons c r ih =>
    rw [allD_cons, Bool.and_eq_true] at h
    unfold behind at *
    rw [List.cons_append, List.dropWhile_cons, if_pos (digit_ne46 h.1), ih h.2]
theorem pointed_app {a : List UInt8} (h : allD a = true) (b : List UInt8) : pointed (a ++ b) = pointed b := by
  induction a with
  | nil => rfl
  | cons c r ih =>
    rw [allD_cons, Bool.and_eq_true] at h
    unfold pointed at *
    have hc : ((46 : UInt8) == c) = false := by
      have := digit_ne46 h.1
      cases h' : ((46 : UInt8) == c)
      · rfl
      · rw [← eq_of_beq h'] at this; simp at this
    rw [List.cons_append, List.contains_cons, ih h.2, hc, Bool.false_or]

theorem billion_tl {p : Nat} (h0 : p ≠ 0) (h9 : p < 1000000000) : billion (tl 9 p) = some p := by
  have hp : p < 10 ^ 9 := by omega
  have hl : 1 ≤ (tl 9 p).length := by
    have := tl_ne hp h0
    cases h : tl 9 p with
    | nil => exact absurd h this
    | cons c r => simp
  unfold billion
  rw [if_pos ⟨tl_allD 9 p hp, hl, tl_len 9 p⟩, tl_val 9 p hp]

/-- Seconds and billionths, printed behind the sign, are read. -/
theorem value_back {u p : Nat} (hu : u ≤ 9223372036854775808) (hp : p < 1000000000) : valueOf (decDigits u ++ tail9 p) = some (u, p) := by
  have hd := dec_allD u
  rw [tail9_eq hp]
  by_cases h0 : p = 0
  · rw [if_pos h0]
    unfold valueOf
    rw [ahead_app hd, pointed_app hd, show ahead [] = [] from rfl, List.append_nil, nat63_dec hu, show pointed [] = false from rfl, h0]
    rfl
  · rw [if_neg h0]
    unfold valueOf
    rw [ahead_app hd, pointed_app hd, behind_app hd, ahead_hit', List.append_nil, nat63_dec hu, show pointed (46 :: tl 9 p) = true from rfl, show behind (46 :: tl 9 p) = tl 9 p from rfl, billion_tl h0 hp]
    rfl

theorem head_dec (u : Nat) (b : List UInt8) : ¬ (decDigits u ++ b).head? = some 45 := by
  intro h
  have hd := dec_allD u
  cases hu : decDigits u with
  | nil => exact dec_ne u hu
  | cons c r =>
    rw [hu, allD_cons, Bool.and_eq_true, isD_iff] at hd
    rw [hu] at h
    simp only [List.cons_append, List.head?_cons, Option.some.injEq] at h
    rw [h] at hd
    have : (45 : UInt8).toNat = 45 := rfl
    omega

/-- What is printed is read. -/
theorem time_back {a b : Int} (ha0 : -9223372036854775808 ≤ a) (ha1 : a ≤ 9223372036854775807) (h0 : 0 ≤ b) (h1 : b < 1000000000) : timeOf (printOf a b) = some (a, b) := by
  have hP : partOf a b < 1000000000 := by unfold partOf; split <;> omega
  have hW : wholeOf a b ≤ 9223372036854775808 := by unfold wholeOf; split <;> omega
  have hv := value_back hW hP
  unfold timeOf printOf signOf
  by_cases hn : a < 0
  · rw [if_pos hn]
    have e : [45] ++ decDigits (wholeOf a b) ++ tail9 (partOf a b) = 45 :: (decDigits (wholeOf a b) ++ tail9 (partOf a b)) := by simp
    rw [e]
    simp only [List.head?_cons, if_true, List.tail_cons]
    rw [hv]
    simp only
    unfold underOf
    by_cases hb : 0 < b
    · have e1 : wholeOf a b = a.natAbs - 1 := by unfold wholeOf; rw [if_pos ⟨hn, hb⟩]
      have e2 : partOf a b = (1000000000 - b).toNat := by unfold partOf; rw [if_pos ⟨hn, hb⟩]
      rw [e1, e2, if_pos (by omega), if_neg (by omega)]
      congr 2 <;> omega
    · have e1 : wholeOf a b = a.natAbs := by unfold wholeOf; rw [if_neg (by omega)]
      have e2 : partOf a b = b.toNat := by unfold partOf; rw [if_neg (by omega)]
      rw [e1, e2, if_neg (by omega), if_neg (by omega)]
      congr 2 <;> omega
  · rw [if_neg hn]
    have e : [] ++ decDigits (wholeOf a b) ++ tail9 (partOf a b) = decDigits (wholeOf a b) ++ tail9 (partOf a b) := by simp
    rw [e, if_neg (head_dec _ _), hv]
    simp only
    rw [if_neg (head_dec _ _)]
    have e1 : wholeOf a b = a.natAbs := by unfold wholeOf; rw [if_neg (by omega)]
    have e2 : partOf a b = b.toNat := by unfold partOf; rw [if_neg (by omega)]
    rw [e1, e2, if_neg (by omega)]
    congr 2 <;> omega

/-- A number's own text is read as that number. -/
theorem number_back {u : Nat} (h : u ≤ 9223372036854775807) : nat63 (decDigits u) = some u := nat63_dec (by omega)

theorem cut_length (l : List UInt8) (h : pointed l = true) : (ahead l).length + 1 + (behind l).length = l.length := by
  induction l with
  | nil => cases h
  | cons c r ih =>
    by_cases hc : c = 46
    · subst hc
      rw [ahead_hit', show behind (46 :: r) = r from rfl]
      simp
      omega
    · have hb : (c != 46) = true := by simpa [bne] using hc
      have hf : ((46 : UInt8) == c) = false := by
        cases h' : ((46 : UInt8) == c)
        · rfl
        · exact absurd (eq_of_beq h').symm hc
      unfold pointed at h
      rw [List.contains_cons, hf, Bool.false_or] at h
      have := ih h
      have e1 : ahead (c :: r) = c :: ahead r := by unfold ahead; rw [List.takeWhile_cons, if_pos hb]
      have e2 : behind (c :: r) = behind r := by unfold behind; rw [List.dropWhile_cons, if_pos hb]
      rw [e1, e2, List.length_cons, List.length_cons]
      omega

/-- What stands for seconds and billionths has no fewer bytes than their own text. -/
theorem value_short {l : List UInt8} {u p : Nat} (h : valueOf l = some (u, p)) : (decDigits u ++ tail9 p).length ≤ l.length ∧ u ≤ 9223372036854775808 ∧ p < 1000000000 := by
  unfold valueOf at h
  cases hn : nat63 (ahead l) with
  | none => rw [hn] at h; cases h
  | some u' =>
    rw [hn] at h
    simp only at h
    obtain ⟨hne, hd, _, hv, hm⟩ := nat63_some hn
    have hs := dec_shortest hne hd
    rw [hv] at hs
    by_cases hpt : pointed l = true
    · rw [if_pos hpt] at h
      cases hb : billion (behind l) with
      | none => rw [hb] at h; cases h
      | some p' =>
        rw [hb] at h
        simp only [Option.map_some, Option.some.injEq, Prod.mk.injEq] at h
        obtain ⟨rfl, rfl⟩ := h
        unfold billion at hb
        split at hb
        · rename_i hh
          obtain ⟨hbd, hb1, hb9⟩ := hh
          injection hb with hb
          have hlt := val_lt _ hbd
          have hpow : 10 ^ (behind l).length * 10 ^ (9 - (behind l).length) = 1000000000 := by
            rw [← Nat.pow_add, show (behind l).length + (9 - (behind l).length) = 9 by omega]
          have hp9 : p' < 1000000000 := by
            rw [← hb, ← hpow]
            exact Nat.mul_lt_mul_of_pos_right hlt (Nat.pow_pos (by omega))
          refine ⟨?_, hm, hp9⟩
          have hcl := cut_length l hpt
          rw [List.length_append, tail9_eq hp9]
          by_cases h0 : p' = 0
          · rw [if_pos h0]; simp; omega
          · rw [if_neg h0, List.length_cons]
            have := tl_shortest 9 (behind l).length p' hb9 (by omega) ⟨val 0 (behind l), by rw [← hb, Nat.mul_comm]⟩
            omega
        · cases hb
    · rw [if_neg hpt] at h
      simp only [Option.some.injEq, Prod.mk.injEq] at h
      obtain ⟨rfl, rfl⟩ := h
      refine ⟨?_, hm, by omega⟩
      have hal : (ahead l).length ≤ l.length := (List.takeWhile_prefix _).length_le
      rw [tail9_eq (by omega), if_pos rfl, List.append_nil]
      omega

/-- No text that is read as a time has fewer bytes than the time's own one; and that time is right. -/
theorem time_short {l : List UInt8} {a b : Int} (h : timeOf l = some (a, b)) : (printOf a b).length ≤ l.length ∧ -9223372036854775808 ≤ a ∧ a ≤ 9223372036854775807 ∧ 0 ≤ b ∧ b < 1000000000 := by
  unfold timeOf at h
  cases hv : valueOf (if l.head? = some 45 then l.tail else l) with
  | none => rw [hv] at h; cases h
  | some q =>
    obtain ⟨u, p⟩ := q
    rw [hv] at h
    simp only at h
    obtain ⟨hs, hu, hp⟩ := value_short hv
    rw [List.length_append] at hs
    by_cases hm : l.head? = some 45
    · rw [if_pos hm] at h hs
      have hl : l.tail.length + 1 = l.length := by
        cases l with
        | nil => cases hm
        | cons c r => rfl
      unfold underOf at h
      unfold printOf signOf
      by_cases hp0 : 0 < p
      · rw [if_pos hp0] at h
        by_cases hb : 9223372036854775808 < u + 1
        · rw [if_pos hb] at h; cases h
        · rw [if_neg hb] at h
          simp only [Option.some.injEq, Prod.mk.injEq] at h
          obtain ⟨rfl, rfl⟩ := h
          have e1 : wholeOf (-((u : Int) + 1)) (1000000000 - (p : Int)) = u := by unfold wholeOf; rw [if_pos (by omega)]; omega
          have e2 : partOf (-((u : Int) + 1)) (1000000000 - (p : Int)) = p := by unfold partOf; rw [if_pos (by omega)]; omega
          rw [e1, e2, if_pos (by omega)]
          refine ⟨?_, by omega, by omega, by omega, by omega⟩
          simp only [List.length_append, List.length_cons, List.length_nil]
          omega
      · rw [if_neg hp0, if_neg (by omega)] at h
        simp only [Option.some.injEq, Prod.mk.injEq] at h
        obtain ⟨rfl, rfl⟩ := h
        obtain rfl : p = 0 := by omega
        have e1 : wholeOf (-(u : Int)) ((0 : Nat) : Int) = u := by unfold wholeOf; rw [if_neg (by omega)]; omega
        have e2 : partOf (-(u : Int)) ((0 : Nat) : Int) = 0 := by unfold partOf; rw [if_neg (by omega)]; omega
        rw [e1, e2]
        refine ⟨?_, by omega, by omega, by omega, by omega⟩
        split
        · simp only [List.length_append, List.length_cons, List.length_nil]; omega
        · simp only [List.length_append, List.length_nil]; omega
    · rw [if_neg hm] at h hs
      by_cases hb : 9223372036854775807 < u
      · rw [if_pos hb] at h; cases h
      · rw [if_neg hb] at h
        simp only [Option.some.injEq, Prod.mk.injEq] at h
        obtain ⟨rfl, rfl⟩ := h
        unfold printOf signOf
        have e1 : wholeOf (u : Int) (p : Int) = u := by unfold wholeOf; rw [if_neg (by omega)]; omega
        have e2 : partOf (u : Int) (p : Int) = p := by unfold partOf; rw [if_neg (by omega)]; omega
        rw [e1, e2, if_neg (by omega)]
        refine ⟨?_, by omega, by omega, by omega, by omega⟩
        simp only [List.length_append, List.length_nil]
        omega

end Go.Proofs.YthnaanjhmehgcaaGreatDoor

/-
  WHAT A DIALECT THAT CAN TELL MORE CAN TELL, AND THAT THE RECORDS OF A RIGHT HEAD ARE RIGHT. Nothing of the program. No condition.
-/
namespace Go.Proofs.YthnaanjhmehgcaaGreatDoor
open Go.ChangeShapes Go.WideShapes Go.ChangeAt Go.RowKit Go.Lib
set_option linter.unusedVariables false
set_option linter.unusedSimpArgs false
set_option maxRecDepth 20000

/-! ### right texts -/

theorem pcs_ok_app (l r : List UInt8) (hne : l ≠ []) (h : ok l = true) : pcs (l.take (wd l) ++ r) = (wd l, true) :: pcs r := by
  have hw := wd_pos l
  have hle := wd_le l hne
  have hd := dec_more l r hne h
  have hlen : (l.take (wd l)).length = wd l := by rw [List.length_take]; omega
  have e1 : wd (l.take (wd l) ++ r) = wd l := by show (decodeL _).2 = _; rw [hd]; rfl
  have e2 : ok (l.take (wd l) ++ r) = true := by rw [← h]; unfold ok; rw [hd]
  rw [pcs_step _ (by intro e; have := congrArg List.length e; rw [List.length_append, hlen] at this; simp at this; omega), e1, e2, List.drop_left' hlen]
theorem firstP_all : ∀ (p : List (Nat × Bool)) (at' : Nat), (∀ x ∈ p, x.2 = true) → firstP p at' = -1
  | [], _, _ => rfl
  | x :: r, at', h => by
    rw [firstP, if_pos (h x (by simp))]
    exact firstP_all r _ fun y hy => h y (by simp [hy])
theorem firstP_neg : ∀ (p : List (Nat × Bool)) (at' : Nat), firstP p at' < 0 → ∀ x ∈ p, x.2 = true
  | [], _, _ => by simp
  | x :: r, at', h => by
    rw [firstP] at h
    split at h
    · rename_i hx
      intro y hy
      rcases List.mem_cons.1 hy with rfl | hy
      · exact hx
      · exact firstP_neg r _ h y hy
    · omega

theorem right_pcs {l : List UInt8} : firstL l < 0 ↔ ∀ x ∈ pcs l, x.2 = true :=
  ⟨firstP_neg _ _, fun h => by unfold firstL; rw [firstP_all _ _ h]; decide⟩

theorem ok_asc (b : UInt8) (t : List UInt8) (h : b.toNat < 128) : ok (b :: t) = true ∧ wd (b :: t) = 1 := by
  unfold ok wd
  rw [decodeL_ascii b t h]
  refine ⟨?_, rfl⟩
  simp
  omega
theorem asc_right : ∀ l : List UInt8, (∀ b ∈ l, b.toNat < 128) → firstL l < 0
  | [], _ => by decide
  | b :: t, h => by
    obtain ⟨h1, h2⟩ := ok_asc b t (h b (List.mem_cons_self ..))
    have ih := asc_right t fun c hc => h c (List.mem_cons_of_mem _ hc)
    rw [right_pcs] at ih ⊢
    rw [pcs_step _ (by simp), h1, h2]
    intro x hx
    rcases List.mem_cons.1 hx with rfl | hx
    · rfl
    · exact ih x (by simpa using hx)
theorem app_right (b : List UInt8) (hb : firstL b < 0) : ∀ (n : Nat) (l : List UInt8), l.length ≤ n → firstL l < 0 → firstL (l ++ b) < 0 := by
  refine pcs_ind (P := fun l => firstL l < 0 → firstL (l ++ b) < 0) (fun _ => hb) ?_
  intro l hne ih h
  rw [right_pcs, pcs_step l hne] at h
  have h1 : ok l = true := h _ (List.mem_cons_self ..)
  have h2 := ih (right_pcs.2 fun x hx => h x (List.mem_cons_of_mem _ hx))
  have e : l ++ b = l.take (wd l) ++ (l.drop (wd l) ++ b) := by rw [← List.append_assoc, List.take_append_drop]
  rw [right_pcs] at h2 ⊢
  rw [e, pcs_ok_app l _ hne h1]
  intro x hx
  rcases List.mem_cons.1 hx with rfl | hx
  · rfl
  · exact h2 x hx
theorem utf_slash {s : ByteArray} (h : utfB s = true) : utfB (s ++ ⟨#[47]⟩) = true := by
  unfold utfB at h ⊢
  have h := of_decide_eq_true h
  apply decide_eq_true
  rw [ByteArray.data_append, Array.toList_append]
  exact app_right _ (by decide) _ _ (Nat.le_refl _) h
theorem dig_asc {l : List UInt8} (h : allD l = true) : ∀ b ∈ l, b.toNat < 128 := by
  intro b hb
  have := List.all_eq_true.1 h b hb
  unfold isD at this
  simp only [Bool.and_eq_true, decide_eq_true_eq] at this
  omega

/-! ### values of records are right -/

theorem rightP_of {k v : List UInt8} (hk : keyR k = true) (h1 : firstL v < 0) (h2 : holdK (kindK k) v = true) : rightP k v = true := by
  unfold rightP
  rw [hk, h2]
  simp [h1]
theorem keyF_right : ∀ f ∈ fldsA, keyR (bs (keyF f)) = true := by decide +kernel
theorem num_right (n : Int) (h0 : 0 ≤ n) (h1 : n ≤ 9223372036854775807) : firstL (bs (numT n)) < 0 ∧ isNum (bs (numT n)) = true := by
  have hs : signOf n = [] := by unfold signOf; rw [if_neg (by omega)]
  unfold numT
  rw [hs, List.nil_append, bs_txt]
  refine ⟨asc_right _ (dig_asc (dec_allD _)), ?_⟩
  unfold isNum
  rw [nat63_dec (by omega)]
  simp only
  exact decide_eq_true (by omega)
theorem tim_right (a b : Int) (h0 : -9223372036854775808 ≤ a) (h1 : a ≤ 9223372036854775807) (hb : 0 ≤ b ∧ b < 1000000000) : firstL (bs (txt (printOf a b))) < 0 ∧ isTim (bs (txt (printOf a b))) = true := by
  rw [bs_txt]
  refine ⟨asc_right _ ?_, ?_⟩
  · have hp : partOf a b < 1000000000 := by unfold partOf; split <;> omega
    unfold printOf
    rw [tail9_eq hp]
    intro x hx
    rcases List.mem_append.1 hx with hx | hx
    · rcases List.mem_append.1 hx with hx | hx
      · unfold signOf at hx
        split at hx
        · have : x = 45 := by simpa using hx
          subst this; decide
        · cases hx
      · exact dig_asc (dec_allD _) x hx
    · split at hx
      · cases hx
      · rcases List.mem_cons.1 hx with rfl | hx
        · decide
        · exact dig_asc (tl_allD 9 _ (by omega)) x hx
  · unfold isTim
    rw [time_back h0 h1 hb.1 hb.2]
    rfl

theorem nul_bs (s : ByteArray) (h : has 0 (bs s) = false) : has 0 (bs (s ++ ⟨#[47]⟩)) = false := by
  unfold has bs at h ⊢
  have h := of_decide_eq_false h
  apply decide_eq_false
  rw [ByteArray.data_append, Array.toList_append]
  intro hx
  rcases List.mem_append.1 hx with hx | hx
  · exact h hx
  · revert hx; decide

theorem full_mem {k : Int} {s f : ByteArray} (h : f ∈ fulls k s) : f = s ∨ f = s ++ ⟨#[47]⟩ := by
  unfold fulls at h
  split at h
  · split at h
    · exact .inr (by simpa using h)
    · simpa using h
  · exact .inl (by simpa using h)
theorem text_no {s : ByteArray} {m m' : Int} (h2 : textT 2 s m = false) (h3 : textT 3 s m = true) : utfB s = true := by
  unfold textT at h2 h3
  cases hx : decide ((s.size : Int) ≤ m)
  · rw [hx] at h3; simpa using h3
  · rw [hx] at h2; cases h2

/-- each record is right -/
theorem recs_right {h : Hd} {l : PL} (e : wrongH h l = 0) (hI : I64 h) (n : Nat) (ht : txtsB h n = true) (f : Int) (hf : f ∈ fldsA) (hc : canN 2 h n f = false) : rightP (bs (keyF f)) (bs (valF h f)) = true := by
  obtain ⟨hk, ⟨n1, n2, n3, -⟩, ⟨l2, l3⟩, ⟨hu, hg, hz⟩, hno, ⟨u2, u3⟩, ⟨g2, g3⟩, -, -⟩ := right_facts e
  obtain ⟨⟨i1, i2⟩, ⟨i3, i4⟩, ⟨i5, i6⟩, ⟨i7, i8⟩⟩ := hI
  have hR := keyF_right f hf
  unfold txtsB at ht
  simp only [Bool.and_eq_true] at ht
  obtain ⟨⟨⟨t2, t3⟩, t9⟩, t10⟩ := ht
  simp only [fldsA, List.mem_cons, List.mem_nil_iff, or_false] at hf
  have nk : ∀ v : List UInt8, has 0 v = false → holdK 1 v = true := fun v hv => by unfold holdK; rw [if_pos rfl, hv]; rfl
  rcases hf with rfl | rfl | rfl | rfl | rfl | rfl | rfl | rfl
  · have c2 : fullB 2 h = false := hc
    have c3 : fullB 3 h = true := t2
    rw [full3, c2, Bool.false_or] at c3
    obtain ⟨f0, t0, hL⟩ := fulls_ne h.kind h.name
    have hm : f0 ∈ fulls h.kind h.name := by rw [hL]; exact List.mem_cons_self ..
    have hv : valF h 2 = f0 := by show (fulls h.kind h.name).headD ⟨#[]⟩ = f0; rw [hL]; rfl
    rw [hv]
    refine rightP_of hR ?_ ?_
    · rcases full_mem hm with rfl | rfl
      · exact of_decide_eq_true c3
      · exact of_decide_eq_true (utf_slash c3)
    · refine nk _ ?_
      rcases full_mem hm with rfl | rfl
      · exact n3
      · exact nul_bs _ n3
  · have c3 := text_no (m' := 0) (s := h.link) (m := 100) hc t3
    exact rightP_of hR (of_decide_eq_true c3) (nk _ l3)
  · obtain ⟨a1, a2⟩ := num_right h.uid hu i2
    exact rightP_of hR a1 a2
  · obtain ⟨a1, a2⟩ := num_right h.gid hg i4
    exact rightP_of hR a1 a2
  · obtain ⟨a1, a2⟩ := num_right h.size hz i6
    exact rightP_of hR a1 a2
  · obtain ⟨a1, a2⟩ := tim_right h.sec h.nano i7 i8 hno
    exact rightP_of hR a1 a2
  · have c3 := text_no (m' := 0) (s := h.user) (m := 32) hc t9
    exact rightP_of hR (of_decide_eq_true c3) (nk _ u3)
  · have c3 := text_no (m' := 0) (s := h.group) (m := 32) hc t10
    exact rightP_of hR (of_decide_eq_true c3) (nk _ g3)

/-- a right head's records are an overlay -/
theorem recs_ov {h : Hd} {l : PL} (e : wrongH h l = 0) (hI : I64 h) (ht : txtsB h l.length = true) : ovB none (recO h l) = true := by
  obtain ⟨-, -, -, -, -, -, -, ⟨hs, hf, hr⟩, hun⟩ := right_facts e
  have hR : recO h l = layL [] (recsOf h l.length fldsA ++ l) := by unfold recO; rw [if_pos ht]; rfl
  rw [hR]
  refine (ovB_iff _).2 ⟨layL_srt _ _ Srt.nil, fun p hp => ?_, fun p hp => ?_⟩
  · rcases layL_mem _ _ p hp with h1 | h1
    · cases h1
    · rcases List.mem_append.1 h1 with h2 | h2
      · obtain ⟨f, hfm, hc, rfl⟩ := recs_mem h2
        have := valF_size e hI _ f hfm hc
        show (valF h f).size ≠ 0
        omega
      · exact hf p h2
  · rcases layL_mem _ _ p hp with h1 | h1
    · cases h1
    · rcases List.mem_append.1 h1 with h2 | h2
      · obtain ⟨f, hfm, hc, rfl⟩ := recs_mem h2
        exact recs_right e hI _ ht f hfm hc
      · exact hr p h2

/-! ### who can tell more -/

theorem first_zero (p : Int → Bool) : ∀ (n : Nat) (f : Int), 1 ≤ f → (firstF p n f = 0 ↔ ∀ i : Int, f ≤ i → i < f + n → p i = true)
  | 0, f, _ => by
    refine ⟨fun _ i h1 h2 => by omega, fun _ => rfl⟩
  | n + 1, f, hf => by
    cases h : p f
    · rw [firstF_no p n f h]
      refine ⟨fun e => by omega, fun e => ?_⟩
      have := e f (by omega) (by omega)
      rw [h] at this; cases this
    · rw [firstF_yes p n f h, first_zero p n (f + 1) (by omega)]
      refine ⟨fun e i h1 h2 => ?_, fun e i h1 h2 => e i (by omega) (by omega)⟩
      by_cases hi : i = f
      · rw [hi]; exact h
      · exact e i (by omega) (by omega)
theorem firstA_zero {d : Int} {h : Hd} {l : PL} : firstA d h l = 0 ↔ ∀ f : Int, 1 ≤ f → f ≤ 14 → canA d h l f = true := by
  unfold firstA
  rw [first_zero _ 14 1 (by omega)]
  exact ⟨fun e f h1 h2 => e f h1 (by omega), fun e f h1 h2 => e f h1 (by omega)⟩
theorem canA_n {d : Int} {h : Hd} {l : PL} {f : Int} (hf : f ≠ 14) : canA d h l f = canN d h l.length f := by unfold canA; rw [if_neg hf]

theorem canN_up {h : Hd} {n : Nat} {f : Int} (hc : canN 2 h n f = true) (hf : 1 ≤ f ∧ f ≤ 13) : canN 3 h n f = true := by
  have hv : f = 1 ∨ f = 2 ∨ f = 3 ∨ f = 4 ∨ f = 5 ∨ f = 6 ∨ f = 7 ∨ f = 8 ∨ f = 9 ∨ f = 10 ∨ f = 11 ∨ f = 12 ∨ f = 13 := by omega
  have tx : ∀ (s : ByteArray) (m : Int), textT 2 s m = true → textT 3 s m = true := fun s m h => by
    unfold textT at h ⊢
    have : decide ((s.size : Int) ≤ m) = true := by simpa using h
    rw [this]; rfl
  rcases hv with rfl | rfl | rfl | rfl | rfl | rfl | rfl | rfl | rfl | rfl | rfl | rfl | rfl
  · rfl
  · have : fullB 2 h = true := hc
    show fullB 3 h = true
    rw [full3, this]; rfl
  · exact tx h.link 100 hc
  · exact hc
  · have : h.uid ≤ 16777215 := of_decide_eq_true hc
    exact decide_eq_true (show h.uid ≤ 9223372036854775807 by omega)
  · have : h.gid ≤ 16777215 := of_decide_eq_true hc
    exact decide_eq_true (show h.gid ≤ 9223372036854775807 by omega)
  · have : h.size ≤ 68719476735 := of_decide_eq_true hc
    exact decide_eq_true (show h.size ≤ 9223372036854775807 by omega)
  · rfl
  · exact tx h.user 32 hc
  · exact tx h.group 32 hc
  · exact hc
  · exact hc
  · rfl

/-- what is told in Ustar needs no record -/
theorem ustar_recs {h : Hd} {l : PL} (hz : firstA 2 h l = 0) : txtsB h l.length = true ∧ recO h l = [] := by
  rw [firstA_zero] at hz
  have c : ∀ f : Int, 1 ≤ f → f ≤ 13 → canN 2 h l.length f = true := fun f h1 h2 => by rw [← canA_n (by omega)]; exact hz f h1 (by omega)
  have u : ∀ f : Int, 1 ≤ f → f ≤ 13 → canN 3 h l.length f = true := fun f h1 h2 => canN_up (c f h1 h2) ⟨h1, h2⟩
  have ht : txtsB h l.length = true := by unfold txtsB; rw [u 2 (by omega) (by omega), u 3 (by omega) (by omega), u 9 (by omega) (by omega), u 10 (by omega) (by omega)]; rfl
  refine ⟨ht, ?_⟩
  have hn : l.length = 0 := of_decide_eq_true (show decide (l.length = 0) = true from c 13 (by omega) (by omega))
  have hl : l = [] := List.eq_nil_of_length_eq_zero hn
  have hr : recsOf h l.length fldsA = [] := by
    unfold recsOf
    rw [List.map_eq_nil_iff, List.filter_eq_nil_iff]
    intro f hf
    simp only [fldsA, List.mem_cons, List.mem_nil_iff, or_false] at hf
    rw [c f (by omega) (by omega)]
    simp
  unfold recO recA
  rw [if_pos ht, hr, hl]
  rfl
theorem ustar_pax {h : Hd} {l : PL} (hz : firstA 2 h l = 0) : firstA 3 h l = 0 := by
  have hr := (ustar_recs hz).2
  rw [firstA_zero] at hz ⊢
  intro f h1 h2
  by_cases hf : f = 14
  · subst hf
    show (decide ((3 : Int) ≠ 3) || decide (lenS (recO h l) ≤ 65536)) = true
    rw [hr]
    decide
  · rw [canA_n hf]
    exact canN_up (by rw [← canA_n hf]; exact hz f h1 h2) ⟨h1, by omega⟩

theorem old_full {h : Hd} {d : Int} (hd : d = 2 ∨ d = 4) (hk : h.kind ≠ 6) (hn : 0 < h.name.size) (hc : fullB 1 h = true) : fullB d h = true := by
  have hL : fulls h.kind h.name = [h.name] := by unfold fulls; rw [if_neg hk]
  have h1 : h.name.size ≤ 100 := by
    unfold fullB fullO at hc
    rw [hL] at hc
    cases hx : holdF 1 h.kind h.name
    · simp [hx] at hc
    · unfold holdF at hx
      simp at hx
      omega
  have hh : holdF d h.kind h.name = true := by
    rcases hd with rfl | rfl
    · show spO h.name = true
      exact (sp_fit (by unfold fitB; exact decide_eq_true ⟨by omega, h1⟩)).2.2
    · show decide (h.name.size ≤ 65536) = true
      exact decide_eq_true (by omega)
  unfold fullB fullO
  rw [hL]
  simp [hh]

theorem old_more {h : Hd} {l : PL} {d : Int} (hd : d = 2 ∨ d = 4) (hk : h.kind ≠ 6) (hn : 0 < h.name.size) (hz : firstA 1 h l = 0) : firstA d h l = 0 := by
  rw [firstA_zero] at hz ⊢
  intro f h1 h2
  by_cases hf : f = 14
  · subst hf
    rcases hd with rfl | rfl <;> rfl
  have c := hz f h1 h2
  rw [canA_n hf] at c ⊢
  have hv : f = 1 ∨ f = 2 ∨ f = 3 ∨ f = 4 ∨ f = 5 ∨ f = 6 ∨ f = 7 ∨ f = 8 ∨ f = 9 ∨ f = 10 ∨ f = 11 ∨ f = 12 ∨ f = 13 := by omega
  have tx : ∀ (s : ByteArray) (m m' : Int), m ≤ m' → textT 1 s m = true → textT d s m' = true := fun s m m' hm h => by
    unfold textT at h ⊢
    have h := of_decide_eq_true (show decide ((s.size : Int) ≤ m) = true by simpa using h)
    rw [decide_eq_true (show (s.size : Int) ≤ m' by omega)]; rfl
  rcases hv with rfl | rfl | rfl | rfl | rfl | rfl | rfl | rfl | rfl | rfl | rfl | rfl | rfl
  · rcases hd with rfl | rfl <;> rfl
  · exact old_full hd hk hn c
  · rcases hd with rfl | rfl
    · exact tx h.link 100 100 (by omega) c
    · exact tx h.link 100 9223372036854775807 (by omega) c
  · have : h.mode ≤ 16777215 := of_decide_eq_true c
    rcases hd with rfl | rfl
    · exact c
    · exact decide_eq_true (show h.mode ≤ 72057594037927935 by omega)
  · have : h.uid ≤ 16777215 := of_decide_eq_true c
    rcases hd with rfl | rfl
    · exact c
    · exact decide_eq_true (show h.uid ≤ 72057594037927935 by omega)
  · have : h.gid ≤ 16777215 := of_decide_eq_true c
    rcases hd with rfl | rfl
    · exact c
    · exact decide_eq_true (show h.gid ≤ 72057594037927935 by omega)
  · have : h.size ≤ 68719476735 := of_decide_eq_true c
    rcases hd with rfl | rfl
    · exact c
    · exact decide_eq_true (show h.size ≤ 9223372036854775807 by omega)
  · have c8 : timT 1 h.sec h.nano = true := c
    show timT d h.sec h.nano = true
    unfold timT at c8 ⊢
    rcases hd with rfl | rfl
    · exact c8
    · simp at c8 ⊢
      exact c8.1
  · rcases hd with rfl | rfl
    · exact tx h.user 0 32 (by omega) c
    · exact tx h.user 0 32 (by omega) c
  · rcases hd with rfl | rfl
    · exact tx h.group 0 32 (by omega) c
    · exact tx h.group 0 32 (by omega) c
  · have : h.major ≤ 16777215 := of_decide_eq_true c
    rcases hd with rfl | rfl
    · exact c
    · exact decide_eq_true (show h.major ≤ 72057594037927935 by omega)
  · have : h.minor ≤ 16777215 := of_decide_eq_true c
    rcases hd with rfl | rfl
    · exact c
    · exact decide_eq_true (show h.minor ≤ 72057594037927935 by omega)
  · rcases hd with rfl | rfl
    · exact c
    · exact c

end Go.Proofs.YthnaanjhmehgcaaGreatDoor
