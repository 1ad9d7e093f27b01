/-
  WHAT Unquote GIVES, AS A FUNCTION OF THE TEXT's BYTES. No conditions but the length.
-/
import Derived.Test.YtikanaklkddopaaQuo
import Derived.Test.YtikanaklkddopaaMarked
import Derived.Lib.Strings
namespace Go.Proofs.Ytikanaklkddopaa
open Go.Shelf Go.ChangeShapes Go.WideShapes Go.ChangeAt Go.RowKit
set_option linter.unusedVariables false

def strSize : Value → Nat
  | .string s => s.size
  | _ => 0

/-- what three digits tell -/
def digB (c : Int) : Bool := decide (48 ≤ c) && decide (c ≤ 55)
def valL (a b c : Int) : Int := (a - 48) * 64 + (b - 48) * 8 + (c - 48)
def codedL (l : List Int) : Int × Bool :=
  match l with
  | h :: a :: b :: c :: _ => if h = 92 ∧ digB a = true ∧ digB b = true ∧ digB c = true ∧ valL a b c ≤ 255 then (valL a b c, true) else (0, false)
  | _ => (0, false)

theorem nums_extract (s : ByteArray) (a b : Nat) : nums (s.extract a b) = ((nums s).drop a).take (b - a) := by
  unfold nums
  rw [show (s.extract a b).data.toList = _ from Lib.extract_data s a b, List.map_take, List.map_drop]

theorem nums_extract_end (s : ByteArray) (a : Nat) : nums (s.extract a s.size) = (nums s).drop a := by
  rw [nums_extract, List.take_of_length_le]
  rw [List.length_drop, nums_length]
  exact Nat.le_refl _

theorem join8i (n d : Int) (h0 : 0 ≤ n) (h1 : n < 1000000) (h2 : 0 ≤ d) (h3 : d < 8) : bits BinOp.or IntKind.i64 (n * 8) d = 8 * n + d := by
  obtain ⟨A, rfl⟩ := Int.eq_ofNat_of_zero_le h0
  obtain ⟨B, rfl⟩ := Int.eq_ofNat_of_zero_le h2
  have hA : (BitVec.ofInt 64 ((A : Int) * 8)).toNat = A * 8 := by
    rw [show (A : Int) * 8 = ((A * 8 : Nat) : Int) by omega, BitVec.ofInt_natCast, BitVec.toNat_ofNat]; omega
  have hB : (BitVec.ofInt 64 (B : Int)).toNat = B := by
    rw [BitVec.ofInt_natCast, BitVec.toNat_ofNat]; omega
  show IntKind.i64.wrap ((BitVec.ofInt 64 ((A : Int) * 8) ||| BitVec.ofInt 64 (B : Int)).toNat : Int) = _
  rw [BitVec.toNat_or, hA, hB, nat_join 3 _ _ (by omega) (by omega), IntKind.wrap_i64]
  omega

set_option maxHeartbeats 4000000 in
set_option maxRecDepth 10000 in
theorem coded_walk (s : ByteArray) (hs : s.size ≤ 140737488355328) (w : World) :
    Calls Try.prog 41 #[.string s] w fun e w' => e = .returned (.tuple #[.int .u8 (codedL (nums s)).1, .bool (codedL (nums s)).2]) ∧ Below w.heap.size w w' := by
  have hlen := nums_length s
  rcases Nat.lt_or_ge s.size 4 with h4 | h4
  · have hc : codedL (nums s) = (0, false) := by
      unfold codedL
      split
      · rename_i h; rw [h] at hlen; simp at hlen; omega
      · rfl
    rw [hc]
    go_enter Try.func41, Try.ntmps41
    go_wp2
    all_goals go_ret2
    all_goals exact ⟨rfl, Below.refl _ _⟩
  · obtain ⟨h, a, b, c, r, hl⟩ : ∃ h a b c r, nums s = h :: a :: b :: c :: r := by
      match hn : nums s, hlen with
      | h :: a :: b :: c :: r, _ => exact ⟨h, a, b, c, r, rfl⟩
      | [], hlen => simp at hlen; omega
      | [_], hlen => simp at hlen; omega
      | [_, _], hlen => simp at hlen; omega
      | [_, _, _], hlen => simp at hlen; omega
    have h0 := nums_at s 0 (by omega)
    rw [hl] at h0 ⊢
    simp only [List.getD_cons_zero] at h0
    by_cases h92 : h = 92
    · subst h92
      have ht : nums (s.extract 1 4) = [a, b, c] := by rw [nums_extract, hl]; rfl
      have htz : (s.extract 1 4).size = 3 := by rw [← nums_length, ht]; rfl
      have hra := nums_range (s.extract 1 4)
      rw [ht] at hra
      obtain ⟨t, htt⟩ : ∃ t, t = s.extract 1 4 := ⟨_, rfl⟩
      rw [← htt] at ht htz
      replace htt := htt.symm
      have ha := hra a (by simp); have hb := hra b (by simp); have hc := hra c (by simp)
      obtain ⟨k, w1, hconv, -, hB, hbel⟩ := conv_string (P := Try.prog) (src := 9) (dst := 22) Try.underlying9 Try.underlying22 Try.underlying5 w t (by omega)
      rw [ht] at hB
      rw [htz] at hconv hB
      obtain ⟨-, -, -, -, ⟨h3, -⟩ | ⟨-, g, off, hg, hC⟩⟩ := hB
      · simp at h3
      simp only [Option.some.injEq, Addr.mk.injEq] at hg
      obtain ⟨rfl, rfl, -⟩ := hg
      have c0 := hC.2 0 (by simp); have c1 := hC.2 1 (by simp); have c2 := hC.2 2 (by simp)
      simp at c0 c1 c2
      clear hC hra
      have hcod : codedL (92 :: a :: b :: c :: r) = if digB a = true ∧ digB b = true ∧ digB c = true ∧ valL a b c ≤ 255 then (valL a b c, true) else (0, false) := by simp [codedL]
      by_cases hda : 48 ≤ a ∧ a ≤ 55
      · by_cases hdb : 48 ≤ b ∧ b ≤ 55
        · by_cases hdc : 48 ≤ c ∧ c ≤ 55
          · have o1 : bits .or .i64 0 (a - 48) = a - 48 := by have := join8i 0 (a - 48) (by omega) (by omega) (by omega) (by omega); simpa using this
            have o2 := join8i (a - 48) (b - 48) (by omega) (by omega) (by omega) (by omega)
            have o3 := join8i (8 * (a - 48) + (b - 48)) (c - 48) (by omega) (by omega) (by omega) (by omega)
            have hv : valL a b c = 8 * (8 * (a - 48) + (b - 48)) + (c - 48) := by unfold valL; omega
            have hda' : digB a = true := by unfold digB; simp; omega
            have hdb' : digB b = true := by unfold digB; simp; omega
            have hdc' : digB c = true := by unfold digB; simp; omega
            simp only [hda', hdb', hdc', true_and] at hcod
            rw [hv] at hcod
            rw [hcod]
            clear hcod hv hda' hdb' hdc'
            go_enter Try.func41, Try.ntmps41
            go_wp2
            go_rounds 4
            go_wp2
            all_goals go_ret2
            all_goals exact ⟨rfl, hbel⟩
          · have hcc : codedL (92 :: a :: b :: c :: r) = (0, false) := by rw [hcod, if_neg]; unfold digB; simp; omega
            rw [hcc]
            clear hcod
            have o1 : bits .or .i64 0 (a - 48) = a - 48 := by have := join8i 0 (a - 48) (by omega) (by omega) (by omega) (by omega); simpa using this
            have o2 := join8i (a - 48) (b - 48) (by omega) (by omega) (by omega) (by omega)
            go_enter Try.func41, Try.ntmps41
            go_wp2
            go_rounds 3
            go_wp2
            all_goals go_ret2
            all_goals exact ⟨rfl, hbel⟩
        · have hcc : codedL (92 :: a :: b :: c :: r) = (0, false) := by rw [hcod, if_neg]; unfold digB; simp; omega
          rw [hcc]
          clear hcod
          have o1 : bits .or .i64 0 (a - 48) = a - 48 := by have := join8i 0 (a - 48) (by omega) (by omega) (by omega) (by omega); simpa using this
          go_enter Try.func41, Try.ntmps41
          go_wp2
          go_rounds 2
          go_wp2
          all_goals go_ret2
          all_goals exact ⟨rfl, hbel⟩
      · have hcc : codedL (92 :: a :: b :: c :: r) = (0, false) := by rw [hcod, if_neg]; unfold digB; simp; omega
        rw [hcc]
        clear hcod
        go_enter Try.func41, Try.ntmps41
        go_wp2
        go_rounds 1
        go_wp2
        all_goals go_ret2
        all_goals exact ⟨rfl, hbel⟩
    · have hc : codedL (h :: a :: b :: c :: r) = (0, false) := by unfold codedL; simp [h92]
      rw [hc]
      have h92' : (h != 92) = true := by simpa using h92
      go_enter Try.func41, Try.ntmps41
      go_wp2
      all_goals go_ret2
      all_goals exact ⟨rfl, Below.refl _ _⟩

theorem codedL_range (l : List Int) : 0 ≤ (codedL l).1 ∧ (codedL l).1 ≤ 255 := by
  unfold codedL
  split
  · split
    · rename_i h
      simp only [digB, Bool.and_eq_true, decide_eq_true_eq, valL] at h ⊢
      omega
    · simp
  · simp

/-- the byte that a quoted text begins with, and how many bytes tell it -/
def firstL (l : List Int) : Int × Nat :=
  if mayB (l.getD 0 0) = true then (l.getD 0 0, 1)
  else if (codedL l).2 = true ∧ mayB (codedL l).1 = false then ((codedL l).1, 4) else (0, 0)

set_option maxHeartbeats 4000000 in
set_option maxRecDepth 10000 in
theorem first_walk (s : ByteArray) (hs : s.size ≤ 140737488355328) (hs0 : 0 < s.size) (w : World) :
    Calls Try.prog 32 #[.string s] w fun e w' => e = .returned (.tuple #[.int .u8 (firstL (nums s)).1, .int .i64 (firstL (nums s)).2]) ∧ Below w.heap.size w w' := by
  obtain ⟨c, hc⟩ : ∃ c : Int, c = ((s[0]'hs0).toNat : Int) := ⟨_, rfl⟩
  have hcl : Hid (c = (nums s).getD 0 0) := hid (by rw [hc, nums_at])
  have hcr : 0 ≤ c ∧ c ≤ 255 := by rw [show c = (nums s).getD 0 0 from hcl]; exact nums_at_range s 0
  obtain ⟨hc0, hc1⟩ := hcr
  replace hc := hc.symm
  cases hm : mayB c with
  | true =>
    have hf : firstL (nums s) = (c, 1) := by unfold firstL; rw [← show c = (nums s).getD 0 0 from hcl, hm]; rfl
    rw [hf]
    go_enter Try.func32, Try.ntmps32
    go_wp2_with (go_at_call 37; refine (may_walk _ hc0 hc1 _).mono ?_; rintro e w' ⟨hw, rfl⟩; obtain rfl := hw.symm)
    go_ret2
    exact ⟨rfl, Below.refl _ _⟩
  | false =>
    have hcw := coded_walk s hs w
    obtain ⟨hd0, hd1⟩ := codedL_range (nums s)
    have hf : Hid (firstL (nums s) = if (codedL (nums s)).2 = true ∧ mayB (codedL (nums s)).1 = false then ((codedL (nums s)).1, 4) else (0, 0)) := hid (by unfold firstL; rw [← show c = (nums s).getD 0 0 from hcl, hm]; rfl)
    rw [show _ = _ from hf]
    clear hf hcl
    generalize hd : (codedL (nums s)).1 = d at hcw hd0 hd1 ⊢
    generalize hb : (codedL (nums s)).2 = ok at hcw ⊢
    clear hd hb
    cases ok with
    | false =>
      rw [if_neg (by simp)]
      go_enter Try.func32, Try.ntmps32
      go_wp2_with (first | (go_at_call 37; refine (may_walk _ hc0 hc1 _).mono ?_; rintro e w' ⟨hw, rfl⟩; obtain rfl := hw.symm) | (go_at_call 41; refine hcw.mono ?_; rintro e w1 ⟨rfl, hb1⟩))
      go_ret2
      exact ⟨rfl, hb1⟩
    | true =>
      cases hm2 : mayB d with
      | true =>
        rw [if_neg (by simp)]
        go_enter Try.func32, Try.ntmps32
        go_wp2_with (first | (go_at_call 41; refine hcw.mono ?_; rintro e w1 ⟨rfl, hb1⟩; clear hm hc0 hc1 hcw) | (go_at_call 37; refine (may_walk _ (by assumption) (by assumption) _).mono ?_; rintro e w' ⟨hw, rfl⟩; obtain rfl := hw.symm))
        go_ret2
        exact ⟨rfl, hb1⟩
      | false =>
        rw [if_pos ⟨rfl, rfl⟩]
        go_enter Try.func32, Try.ntmps32
        go_wp2_with (first | (go_at_call 41; refine hcw.mono ?_; rintro e w1 ⟨rfl, hb1⟩; clear hm hc0 hc1 hcw) | (go_at_call 37; refine (may_walk _ (by assumption) (by assumption) _).mono ?_; rintro e w' ⟨hw, rfl⟩; obtain rfl := hw.symm))
        go_ret2
        exact ⟨rfl, hb1⟩

theorem firstL_le (l : List Int) : (firstL l).2 ≤ 4 := by unfold firstL; split; · simp
                                                          · split <;> simp
theorem firstL_range (l : List Int) (h : ∀ x ∈ l, 0 ≤ x ∧ x ≤ 255) : 0 ≤ (firstL l).1 ∧ (firstL l).1 ≤ 255 := by
  have h1 := codedL_range l
  unfold firstL
  split
  · rw [List.getD_eq_getElem?_getD]
    cases h' : l[0]? with
    | none => simp
    | some x => exact h x (List.mem_of_getElem? h')
  · split
    · exact h1
    · simp

theorem firstL_len (l : List Int) (h0 : 0 < l.length) : (firstL l).2 ≤ l.length := by
  unfold firstL
  split
  · exact h0
  · split
    · rename_i h
      unfold codedL at h
      split at h
      · simp
      · simp at h
    · simp

/-- what a text is, unquoted -/
def unquoteL (l : List Int) : Option (List Int) :=
  if h : l = [] ∨ (firstL l).2 = 0 then (if l = [] then some [] else none)
  else (unquoteL (l.drop (firstL l).2)).map ((firstL l).1 :: ·)
termination_by l.length
decreasing_by
  have h1 : l ≠ [] := fun e => h (.inl e)
  have h2 : (firstL l).2 ≠ 0 := fun e => h (.inr e)
  have := List.length_pos_iff.2 h1
  simp only [List.length_drop]
  omega

theorem unquoteL_nil : unquoteL [] = some [] := by rw [unquoteL]; simp
theorem unquoteL_none {l : List Int} (h : l ≠ []) (h' : (firstL l).2 = 0) : unquoteL l = none := by rw [unquoteL]; simp [h, h']
theorem unquoteL_some {l : List Int} (h : l ≠ []) (h' : (firstL l).2 ≠ 0) : unquoteL l = (unquoteL (l.drop (firstL l).2)).map ((firstL l).1 :: ·) := by
  rw [unquoteL]; simp [h, h']

def unqS (o : Option (List Int)) : ByteArray := strOfNums (o.getD [])
def unqC (o : Option (List Int)) : Int := if o.isSome then 0 else 15

set_option maxHeartbeats 4000000 in
set_option maxRecDepth 10000 in
theorem unquote_walk (s : ByteArray) (hs : s.size ≤ 17592186044416) (w : World) :
    Calls Try.prog 23 #[.string s] w fun e w' => e = .returned (.tuple #[.string (unqS (unquoteL (nums s))), .int .u8 (unqC (unquoteL (nums s)))]) ∧ Below w.heap.size w w' := by
  have hlen := nums_length s
  have hr := nums_range s
  obtain ⟨q, hq⟩ : ∃ q, q = unquoteL (nums s) := ⟨_, rfl⟩
  have hq' : Hid (unquoteL (nums s) = q) := hid hq.symm
  rw [← hq]
  clear hq
  go_enter Try.func23, Try.ntmps23
  go_wp2
  go_loopw [0] (fun x wr => ∃ (t : ByteArray) (acc : List Int), x = .string t ∧ Bld w.heap.size w.heap.size acc wr ∧ Below w.heap.size w wr ∧ Hid (q = (unquoteL (nums t)).map (acc ++ ·)) ∧ acc.length + t.size ≤ s.size ∧ (∀ y ∈ acc, 0 ≤ y ∧ y ≤ 255)) (fun x _ => strSize x)
  case atStart => exact ⟨s, [], rfl, Bld.fresh w _ (Nat.le_refl _), (Below.refl _ w).alloc (Nat.le_refl _) _, hid (by rw [show unquoteL (nums s) = q from hq']; cases q <;> rfl), by simp, by simp⟩
  case round =>
    obtain ⟨t, acc, rfl, hB, hb, hrel, hal, har⟩ := hrel
    have hBsz := hb.size
    rcases Nat.eq_zero_or_pos t.size with ht | ht
    · have htn : nums t = [] := List.length_eq_zero_iff.1 (by rw [nums_length, ht])
      have hqa : q = some acc := by rw [show q = _ from hrel, htn, unquoteL_nil]; simp
      subst hqa
      go_wp2_with (go_at_call 34; refine (bstring hB har).mono ?_; rintro e w1 ⟨rfl, hb1⟩)
      go_ret2
      exact ⟨rfl, hb.trans hb1⟩
    · have hfw := first_walk t (by omega) ht wr
      have htn : nums t ≠ [] := fun e => by have := nums_length t; rw [e] at this; simp at this; omega
      have hfl := firstL_len (nums t) (by rw [nums_length]; exact ht)
      rw [nums_length] at hfl
      obtain ⟨hc0, hc1⟩ := firstL_range (nums t) (nums_range t)
      have hun := @unquoteL_none (nums t) htn
      have hus := @unquoteL_some (nums t) htn
      obtain ⟨c, hc⟩ : ∃ c, c = (firstL (nums t)).1 := ⟨_, rfl⟩
      obtain ⟨n, hn⟩ : ∃ n, n = (firstL (nums t)).2 := ⟨_, rfl⟩
      rw [← hc, ← hn] at hfw hus
      rw [← hn] at hun hfl
      rw [← hc] at hc0 hc1
      clear hc hn
      rcases Nat.eq_zero_or_pos n with hn0 | hn0
      · subst hn0
        have hqa : q = none := by rw [show q = _ from hrel, hun rfl]; rfl
        subst hqa
        clear hrel hun hus
        go_wp2_with (go_at_call 32; refine hfw.mono ?_; rintro e w1 ⟨rfl, hb1⟩)
        go_ret2
        exact ⟨rfl, hb.trans (hb1.mono hBsz)⟩
      · have hrel2 : Hid (q = (unquoteL ((nums t).drop n)).map ((acc ++ [c]) ++ ·)) := hid (by
          rw [show q = _ from hrel, hus (by omega), Option.map_map]; congr 1; funext y; simp)
        clear hrel hun hus
        have hn0' : ¬ n = 0 := by omega
        go_wp2_with (first | (go_at_call 32; refine hfw.mono ?_; rintro e w1 ⟨rfl, hb1⟩; have hB1 := hB.below hb1; have hs1 := hb1.size) | (go_at_call 33; refine (wbyte _ hB1 (by omega) (by omega)).mono ?_; rintro e w2 ⟨rfl, hB2, hb2⟩))
        go_roundw
        case rel =>
          refine ⟨t.extract n t.size, acc ++ [c], by go_num, hB2, (hb.trans (hb1.mono hBsz)).trans hb2, ?_, ?_, ?_⟩
          · rw [nums_extract_end]; exact hrel2
          · simp; omega
          · intro y hy; simp at hy; rcases hy with hy | rfl
            · exact har y hy
            · exact ⟨hc0, hc1⟩
        case measure => simp [strSize]; omega

end Go.Proofs.Ytikanaklkddopaa
