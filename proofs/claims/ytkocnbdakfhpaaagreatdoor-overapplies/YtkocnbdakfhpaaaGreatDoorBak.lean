/-
  WHAT IS PRINTED IS PARSED; WHAT IS PARSED IS PRINTED WITH NO MORE BYTES: on lists. Conditions: how many bytes a pair's texts have.
-/
import Derived.Test.YtkocnbdakfhpaaaGreatDoorPrs
namespace Go.Proofs.YtkocnbdakfhpaaaGreatDoor
open Go.ChangeShapes Go.WideShapes Go.ChangeAt Go.RowKit Go.Lib
set_option linter.unusedVariables false
set_option linter.unusedSimpArgs false
set_option maxRecDepth 20000

theorem ahI_app (c : Int) (b : List Int) : ∀ a : List Int, c ∉ a → ahI c (a ++ c :: b) = a
  | [], _ => by simp [ahI]
  | x :: t, h => by
    have hx : (x != c) = true := by simp; intro e; exact h (by simp [e])
    have := ahI_app c b t (fun m => h (List.mem_cons_of_mem _ m))
    unfold ahI at this ⊢
    rw [List.cons_append, List.takeWhile_cons, hx, if_pos rfl, this]
theorem beI_app (c : Int) (b : List Int) : ∀ a : List Int, c ∉ a → beI c (a ++ c :: b) = b
  | [], _ => by simp [beI]
  | x :: t, h => by
    have hx : (x != c) = true := by simp; intro e; exact h (by simp [e])
    have := beI_app c b t (fun m => h (List.mem_cons_of_mem _ m))
    unfold beI at this ⊢
    rw [List.cons_append, List.dropWhile_cons, hx, if_pos rfl, this]
theorem inI_app (c : Int) (a b : List Int) : inI c (a ++ c :: b) = true := by simp [inI]
theorem endI_app (c : Int) (a : List Int) : endI c (a ++ [c]) = true := by simp [endI]
theorem trI_app (c : Int) (a : List Int) : trI c (a ++ [c]) = a := by unfold trI; rw [endI_app, if_pos rfl]; simp

theorem cut_app (c : Int) : ∀ l : List Int, c ∈ l → l = ahI c l ++ c :: beI c l
  | [], h => by cases h
  | x :: t, h => by
    by_cases hx : x = c
    · subst hx; simp [ahI, beI]
    · have hxc : (x != c) = true := by simpa using hx
      have hm : c ∈ t := by rcases List.mem_cons.1 h with e | e; exact absurd e.symm hx; exact e
      have ih := cut_app c t hm
      have e1 : ahI c (x :: t) = x :: ahI c t := by unfold ahI; rw [List.takeWhile_cons, hxc, if_pos rfl]
      have e2 : beI c (x :: t) = beI c t := by unfold beI; rw [List.dropWhile_cons, hxc, if_pos rfl]
      rw [e1, e2, List.cons_append, ← ih]
theorem beI_none (c : Int) : ∀ l : List Int, c ∉ l → beI c l = []
  | [], _ => rfl
  | x :: t, h => by
    have hx : (x != c) = true := by simp; intro e; exact h (by simp [e])
    have := beI_none c t (fun m => h (List.mem_cons_of_mem _ m))
    unfold beI at this ⊢
    rw [List.dropWhile_cons, hx, if_pos rfl, this]
theorem tr_app (c : Int) (l : List Int) (h : endI c l = true) : l = trI c l ++ [c] := by
  unfold trI
  rw [if_pos h]
  unfold endI at h
  have h' : l.getLast? = some c := by simpa using h
  rw [List.getLast?_eq_some_iff] at h'
  obtain ⟨t, rfl⟩ := h'
  simp
theorem ahI_free (c : Int) : ∀ l : List Int, c ∉ ahI c l
  | [] => by simp [ahI]
  | x :: t => by
    have ih := ahI_free c t
    unfold ahI at ih ⊢
    rw [List.takeWhile_cons]
    split
    · rename_i hx
      intro hm
      rcases List.mem_cons.1 hm with e | e
      · subst e; simp at hx
      · exact ih e
    · simp

theorem nums_app (a b : ByteArray) : nums (a ++ b) = nums a ++ nums b := by
  have h := str_app (nums a) (nums b)
  rw [str_nums, str_nums] at h
  rw [h, nums_str]
  intro x hx
  rcases List.mem_append.1 hx with hx | hx
  · exact nums_range _ x hx
  · exact nums_range _ x hx
theorem bytes_nums (s : ByteArray) : bytesOf (nums s) = bs s := by rw [← bs_str, str_nums]
theorem nums_mem (s : ByteArray) (c : UInt8) : ((c.toNat : Int) ∈ nums s) → c ∈ bs s := by
  unfold nums bs
  intro h
  obtain ⟨d, hd, e⟩ := List.mem_map.1 h
  have : d = c := UInt8.toNat_inj.1 (by omega)
  exact this ▸ hd

theorem digs_free (n : Nat) (hn : n ≤ 9223372036854775807) : (32 : Int) ∉ nums (txt (decDigits n)) := by
  intro h
  have hm : (32 : UInt8) ∈ bs (txt (decDigits n)) := nums_mem _ 32 h
  rw [bs_txt] at hm
  have ha := (nat63_some (nat63_dec (u := n) (by omega))).2.1
  unfold allD at ha
  have := List.all_eq_true.1 ha _ hm
  simp [isD] at this

theorem rec_nums (k v : ByteArray) : nums (recB k v) = nums (txt (decDigits (lenN (restN k v)))) ++ 32 :: (nums k ++ 61 :: (nums v ++ [10])) := by
  unfold recB
  rw [nums_app, nums_app, nums_app, nums_app, nums_app]
  have e1 : nums ⟨#[32]⟩ = [32] := rfl
  have e2 : nums ⟨#[61]⟩ = [61] := rfl
  have e3 : nums ⟨#[10]⟩ = [10] := rfl
  rw [e1, e2, e3]
  simp

theorem rec_len (k v : ByteArray) (hk : k.size ≤ 1000000) (hv : v.size ≤ 1000000) : (nums (recB k v)).length = lenN (restN k v) := by
  have hr : restN k v ≤ 9223372036854775807 := by unfold restN; omega
  have hs := (lenN_spec (restN k v) hr).1
  rw [rec_nums]
  simp only [List.length_append, List.length_cons, nums_length, txt_size, decDigits_length, List.length_nil]
  unfold restN at hs ⊢
  omega

theorem frst_rec (k v : ByteArray) (hk : k.size ≤ 1000000) (hv : v.size ≤ 1000000) (hR : rightP (bs k) (bs v) = true) (rest : List Int) : frst (nums (recB k v) ++ rest) = some (nums k, nums v, lenN (restN k v)) := by
  have hr : restN k v ≤ 2000003 := by unfold restN; omega
  have hle := lenN_le (restN k v) (by omega)
  have hlen := rec_len k v hk hv
  have hd := digs_free (lenN (restN k v)) (by omega)
  have h61 : (61 : Int) ∉ nums k := by
    intro h
    have hm : (61 : UInt8) ∈ bs k := nums_mem k 61 h
    unfold rightP keyR has at hR
    simp [hm] at hR
  have hnum : bytesOf (ahI 32 (nums (recB k v) ++ rest)) = decDigits (lenN (restN k v)) := by
    rw [rec_nums, List.append_assoc, List.cons_append, ahI_app _ _ _ hd, bytes_nums, bs_txt]
  have htake : (nums (recB k v) ++ rest).take (lenN (restN k v)) = nums (recB k v) := List.take_left' hlen
  have hbe : beI 32 (nums (recB k v)) = (nums k ++ 61 :: nums v) ++ [10] := by
    rw [rec_nums, beI_app _ _ _ hd]; simp
  unfold frst
  rw [hnum, nat63_dec (by omega)]
  simp only
  rw [if_pos (by rw [List.length_append, hlen]; omega), htake, hbe, endI_app, trI_app, inI_app, ahI_app _ _ _ h61, beI_app _ _ _ h61, bytes_nums, bytes_nums, hR]
  rfl

/-- the records of pairs; how many bytes they have -/
def prB (l : List (ByteArray × ByteArray)) : List Int := l.flatMap fun p => nums (recB p.1 p.2)
def lenS : List (ByteArray × ByteArray) → Nat
  | [] => 0
  | p :: t => lenN (restN p.1 p.2) + lenS t
def Rgt (l : List (ByteArray × ByteArray)) : Prop := ∀ p ∈ l, rightP (bs p.1) (bs p.2) = true
def Sml (l : List (ByteArray × ByteArray)) : Prop := ∀ p ∈ l, p.1.size ≤ 1000000 ∧ p.2.size ≤ 1000000
theorem Rgt.tail {p : ByteArray × ByteArray} {l : List (ByteArray × ByteArray)} (h : Rgt (p :: l)) : Rgt l := fun q hq => h q (List.mem_cons_of_mem _ hq)
theorem Sml.tail {p : ByteArray × ByteArray} {l : List (ByteArray × ByteArray)} (h : Sml (p :: l)) : Sml l := fun q hq => h q (List.mem_cons_of_mem _ hq)

theorem prn_some : ∀ (l : List (ByteArray × ByteArray)) (acc : List Int), Rgt l → prn l acc = some (acc ++ prB l)
  | [], acc, _ => by simp [prn, prB]
  | (k, v) :: t, acc, h => by
    have h1 := h (k, v) (List.mem_cons_self ..)
    simp only at h1
    rw [prn, if_pos h1, prn_some t _ h.tail]
    simp [prB]
theorem prn_right : ∀ (l : List (ByteArray × ByteArray)) (acc c : List Int), prn l acc = some c → Rgt l
  | [], acc, c, _ => fun p hp => by cases hp
  | (k, v) :: t, acc, c, h => by
    rw [prn] at h
    split at h
    · rename_i h1
      intro p hp
      rcases List.mem_cons.1 hp with rfl | hp
      · exact h1
      · exact prn_right t _ c h p hp
    · cases h
theorem prB_len : ∀ l : List (ByteArray × ByteArray), Sml l → (prB l).length = lenS l
  | [], _ => rfl
  | (k, v) :: t, h => by
    obtain ⟨h1, h2⟩ := h (k, v) (List.mem_cons_self ..)
    have e : prB ((k, v) :: t) = nums (recB k v) ++ prB t := by simp [prB]
    rw [e, List.length_append, rec_len k v h1 h2, prB_len t h.tail, lenS]

theorem prs_prB : ∀ (l acc : List (ByteArray × ByteArray)), Sml l → Rgt l → prsF ((prB l).length + 1) (prB l) acc = some (acc ++ l)
  | [], acc, _, _ => by
    have : prB [] = [] := rfl
    rw [this, prs_end]; simp
  | (k, v) :: t, acc, hs, hr => by
    obtain ⟨h1, h2⟩ := hs (k, v) (List.mem_cons_self ..)
    have h3 := hr (k, v) (List.mem_cons_self ..)
    simp only at h1 h2 h3
    have e : prB ((k, v) :: t) = nums (recB k v) ++ prB t := by simp [prB]
    have hf := frst_rec k v h1 h2 h3 (prB t)
    have hp := frst_pos hf
    have hl := rec_len k v h1 h2
    rw [e, prs_step (by intro h0; rw [h0] at hp; simp at hp; omega), hf]
    simp only
    rw [List.drop_left' hl, str_nums, str_nums, prs_prB t _ hs.tail hr.tail]
    simp

theorem lenF_low (rest u : Nat) (h : rest + nDigits u ≤ u) : ∀ f n, n ≤ u → lenF rest f n ≤ u
  | 0, n, hn => hn
  | f + 1, n, hn => by
    rw [lenF]
    split
    · exact hn
    · exact lenF_low rest u h f _ (by have := nDigits_mono u n hn; omega)
theorem lenN_low (rest u : Nat) (h : rest + nDigits u ≤ u) : lenN rest ≤ u := lenF_low rest u h 40 rest (by omega)

theorem nDigits_lt (k n : Nat) (hk : 0 < k) (h : n < 10 ^ k) : nDigits n ≤ k := by
  induction k generalizing n with
  | zero => omega
  | succ k ih =>
    by_cases hn : n < 10
    · rw [nDigits_small hn]; omega
    · rw [nDigits_big hn]
      have : 0 < k := by
        rcases Nat.eq_zero_or_pos k with e | e
        · subst e; simp at h; omega
        · exact e
      have := ih (n / 10) this (by rw [Nat.div_lt_iff_lt_mul (by omega)]; rw [Nat.pow_succ] at h; exact h)
      omega

theorem frst_some {l K V : List Int} {u : Nat} (h : frst l = some (K, V, u)) : rightP (bytesOf K) (bytesOf V) = true ∧ lenN (K.length + V.length + 3) ≤ u ∧ u ≤ l.length ∧ K.length + V.length + 4 ≤ u ∧ (∀ x ∈ K, x ∈ l) ∧ (∀ x ∈ V, x ∈ l) := by
  unfold frst at h
  split at h
  · cases h
  · rename_i u' hN
    split at h
    · rename_i hu
      split at h
      · rename_i hc
        rw [Bool.and_eq_true, Bool.and_eq_true] at hc
        obtain ⟨hE, hI, hR⟩ := hc
        simp only [Option.some.injEq, Prod.mk.injEq] at h
        obtain ⟨rfl, rfl, rfl⟩ := h
        have h32 : (32 : Int) ∈ l.take u' := Decidable.byContradiction fun hn => by
          rw [beI_none _ _ hn] at hE; simp [endI] at hE
        have c1 := cut_app 32 _ h32
        have c2 := tr_app 10 _ hE
        have c3 := cut_app 61 _ (of_decide_eq_true hI)
        have hA := ahI_free 32 (l.take u')
        have hah : ahI 32 l = ahI 32 (l.take u') := by
          have e : l = ahI 32 (l.take u') ++ 32 :: (beI 32 (l.take u') ++ l.drop u') := by
            rw [← List.cons_append, ← List.append_assoc, ← c1, List.take_append_drop]
          exact (congrArg (ahI 32) e).trans (ahI_app _ _ _ hA)
        rw [hah] at hN
        obtain ⟨n1, n2, _, n4, _⟩ := nat63_some hN
        have hlt := val_lt _ n2
        rw [n4, bytesOf_length] at hlt
        have hpos : 0 < (ahI 32 (l.take u')).length := by
          rcases Nat.eq_zero_or_pos (ahI 32 (l.take u')).length with e | e
          · exfalso; apply n1; rw [List.eq_nil_of_length_eq_zero e]; rfl
          · exact e
        have hnd := nDigits_lt _ _ hpos hlt
        have l1 := congrArg List.length c1
        have l2 := congrArg List.length c2
        have l3 := congrArg List.length c3
        simp only [List.length_append, List.length_cons, List.length_take, List.length_nil] at l1 l2 l3
        have m2 : ∀ x ∈ trI 10 (beI 32 (l.take u')), x ∈ l := by
          intro x hx
          have q1 : x ∈ beI 32 (l.take u') := by rw [c2]; exact List.mem_append_left _ hx
          have q2 : x ∈ l.take u' := by rw [c1]; exact List.mem_append_right _ (List.mem_cons_of_mem _ q1)
          exact List.mem_of_mem_take q2
        refine ⟨hR, lenN_low _ _ (by omega), hu, by omega, ?_, ?_⟩
        · intro x hx
          exact m2 x (by rw [c3]; exact List.mem_append_left _ hx)
        · intro x hx
          exact m2 x (by rw [c3]; exact List.mem_append_right _ (List.mem_cons_of_mem _ hx))
      · cases h
    · cases h

theorem prs_some : ∀ (f : Nat) (l : List Int) (acc m : List (ByteArray × ByteArray)), (∀ x ∈ l, 0 ≤ x ∧ x ≤ 255) → prsF f l acc = some m →
    ∃ m', m = acc ++ m' ∧ Rgt m' ∧ lenS m' ≤ l.length ∧ 4 * m'.length ≤ l.length ∧ ∀ p ∈ m', p.1.size ≤ l.length ∧ p.2.size ≤ l.length
  | 0, l, acc, m, _, h => by cases h
  | f + 1, l, acc, m, hr, h => by
    rw [prsF] at h
    split at h
    · injection h with h
      subst h
      refine ⟨[], by simp, ?_, Nat.zero_le _, Nat.zero_le _, ?_⟩
      · intro p hp; exact absurd hp (by simp)
      · intro p hp; exact absurd hp (by simp)
    · cases hf : frst l with
      | none => rw [hf] at h; cases h
      | some q =>
        obtain ⟨K, V, u⟩ := q
        rw [hf] at h
        simp only at h
        obtain ⟨f1, f2, f3, f4, f5, f6⟩ := frst_some hf
        obtain ⟨m', rfl, g1, g2, g3, g4⟩ := prs_some f (l.drop u) _ m (fun x hx => hr x (List.mem_of_mem_drop hx)) h
        rw [List.length_drop] at g2 g3 g4
        refine ⟨(strOfNums K, strOfNums V) :: m', by simp, ?_, ?_, ?_, ?_⟩
        · intro p hp
          rcases List.mem_cons.1 hp with rfl | hp
          · simp only; rw [bs_str, bs_str]; exact f1
          · exact g1 p hp
        · rw [lenS]
          simp only
          unfold restN
          rw [strN_size, strN_size]
          omega
        · rw [List.length_cons]; omega
        · intro p hp
          rcases List.mem_cons.1 hp with rfl | hp
          · simp only; rw [strN_size, strN_size]; omega
          · have := g4 p hp; omega

/-- what is parsed is printed with no more bytes, and parsed again -/
theorem parsed_back {l : List Int} {m : List (ByteArray × ByteArray)} (hr : ∀ x ∈ l, 0 ≤ x ∧ x ≤ 255) (hn : l.length ≤ 3000) (h : prs l = some m) :
    Few m ∧ prn m [] = some (prB m) ∧ (prB m).length ≤ l.length ∧ prs (prB m) = some m := by
  obtain ⟨m', e, g1, g2, g3, g4⟩ := prs_some _ l [] m hr h
  rw [List.nil_append] at e
  subst e
  have hs : Sml m := fun p hp => by have := g4 p hp; omega
  refine ⟨⟨by omega, hs⟩, ?_, ?_, ?_⟩
  · rw [prn_some _ _ g1]; simp
  · rw [prB_len _ hs]; exact g2
  · have := prs_prB m [] hs g1
    rw [List.nil_append] at this
    exact this
/-- what is printed is parsed, as many bytes as the lengths tell -/
theorem printed_back {l : List (ByteArray × ByteArray)} {c : List Int} (hs : Sml l) (h : prn l [] = some c) : c.length = lenS l ∧ prs c = some l := by
  have hr := prn_right l [] c h
  rw [prn_some _ _ hr, List.nil_append] at h
  injection h with h
  subst h
  exact ⟨prB_len _ hs, by have := prs_prB l [] hs hr; rw [List.nil_append] at this; exact this⟩

end Go.Proofs.YtkocnbdakfhpaaaGreatDoor
