/-
  The program's functions of numbers: what they answer.
  Conditions: the package variables that the library reads hold what the program's text lays; strings of at most 2^48 bytes.
-/
import Derived.Test.YtjpbkonlakpkiaaDoorLibs
namespace Go.Proofs.YtjpbkonlakpkiaaDoor
open Go.ChangeShapes Go.WideShapes Go.ChangeAt Go.RowKit Go.Lib Go.Sort

theorem wrap_neg (n : Int) (h0 : -9223372036854775808 ≤ n) (h1 : n < 0) : IntKind.u64.wrap (-IntKind.u64.wrap n) = (n.natAbs : Int) := by
  rw [IntKind.wrap_u64, IntKind.wrap_u64]; omega
theorem wrap_pos (n : Int) (h0 : 0 ≤ n) (h1 : n ≤ 9223372036854775807) : IntKind.u64.wrap n = (n.natAbs : Int) := by
  rw [IntKind.wrap_u64]; omega

theorem dec_size (u : Nat) (h : u < 18446744073709551616) : (txt (decDigits u)).size ≤ 20 := by
  rw [txt_size, decDigits_length]
  exact nDigits_le 19 u (by omega)
theorem sign_size (n : Int) : (txt (signOf n)).size ≤ 1 := by
  rw [txt_size]; unfold signOf; split <;> simp

theorem apart_ok (n : Int) (h0 : -9223372036854775808 ≤ n) (h1 : n ≤ 9223372036854775807) (w : World) :
    Calls Tryd.prog 25 #[.int .i64 n] w fun e w' => w' = w ∧ e = .returned (.tuple #[.string (txt (signOf n)), .int .u64 (n.natAbs : Nat)]) := by
  by_cases hn : n < 0
  · have hs : signOf n = [45] := if_pos hn
    rw [hs]
    have hw := wrap_neg n h0 hn
    go_enter Tryd.func25, Tryd.ntmps25
    go_wp2
    go_ret2
    exact ⟨rfl, rfl⟩
  · have hs : signOf n = [] := if_neg hn
    rw [hs]
    have hw := wrap_pos n (by omega) h1
    go_enter Tryd.func25, Tryd.ntmps25
    go_wp2
    go_ret2
    exact ⟨rfl, rfl⟩

theorem text_ok (n : Int) (h0 : -9223372036854775808 ≤ n) (h1 : n ≤ 9223372036854775807) (w : World) (hL : Laid w) :
    Calls Tryd.prog 13 #[.int .i64 n] w fun e w' => e = .returned (.string (txt (signOf n ++ decDigits n.natAbs))) ∧ Below w.heap.size w w' := by
  have ha := apart_ok n h0 h1 w
  have hf := fmt_ok n.natAbs (by omega) w hL
  have s1 := dec_size n.natAbs (by omega)
  have s2 := sign_size n
  have hcat : ¬ 9223372036854775807 < (txt (signOf n)).size + (txt (decDigits n.natAbs)).size := by omega
  clear s1 s2
  generalize n.natAbs = u at ha hf hcat ⊢
  go_enter Tryd.func13, Tryd.ntmps13
  go_wp2_with (first
    | (go_at_call 25; refine ha.mono ?_; rintro e w' ⟨hw, rfl⟩; obtain rfl := hw.symm)
    | (go_at_call 26; refine hf.mono ?_; rintro e w' ⟨rfl, hb⟩))
  go_ret
  exact ⟨ret_string (txt_app _ _), hb⟩

theorem right_ok (a b : Int) (w : World) :
    Calls Tryd.prog 15 #[.agg #[.int .i64 a, .int .i64 b]] w fun e w' => e = .returned (.bool (decide (0 ≤ b ∧ b < 1000000000))) ∧ Below w.heap.size w w' := by
  by_cases h0 : 0 ≤ b
  · by_cases h1 : b < 1000000000
    · have hd : decide (0 ≤ b ∧ b < 1000000000) = true := decide_eq_true ⟨h0, h1⟩
      rw [hd]
      go_enter Tryd.func15, Tryd.ntmps15
      go_wp2
      go_ret
      refine ⟨rfl, ?_⟩
      first | exact (Below.refl _ _).alloc (Nat.le_refl _) _ | exact ((Below.refl _ _).alloc (Nat.le_refl _) _).drew
    · have hd : decide (0 ≤ b ∧ b < 1000000000) = false := decide_eq_false fun h => h1 h.2
      rw [hd]
      go_enter Tryd.func15, Tryd.ntmps15
      go_wp2
      go_ret
      refine ⟨rfl, ?_⟩
      first | exact (Below.refl _ _).alloc (Nat.le_refl _) _ | exact ((Below.refl _ _).alloc (Nat.le_refl _) _).drew
  · have hd : decide (0 ≤ b ∧ b < 1000000000) = false := decide_eq_false fun h => h0 h.1
    rw [hd]
    go_enter Tryd.func15, Tryd.ntmps15
    go_wp2
    go_ret
    refine ⟨rfl, ?_⟩
    first | exact (Below.refl _ _).alloc (Nat.le_refl _) _ | exact ((Below.refl _ _).alloc (Nat.le_refl _) _).drew

theorem size9 : (({ data := #[48, 48, 48, 48, 48, 48, 48, 48, 48] } : ByteArray)).size = 9 := rfl

/-- behindPoint. -/
theorem behind_ok (p : Nat) (hp : p < 1000000000) (w : World) (hL : Laid w) :
    Calls Tryd.prog 27 #[.int .u64 p] w fun e w' => e = .returned (.string (txt (tail9 p))) ∧ Below w.heap.size w w' := by
  by_cases h0 : p = 0
  · subst h0
    go_enter Tryd.func27, Tryd.ntmps27
    go_wp2
    go_ret
    exact ⟨rfl, Below.refl _ _⟩
  · have hi : ¬ ((p : Int) = 0) := by omega
    have hlen : (decDigits (1000000000 + p)).length = 10 := by
      rw [decDigits_length]
      exact nDigits_unique 9 _ (by omega) (by omega)
    have hw : IntKind.u64.wrap (1000000000 + (p : Int)) = ((1000000000 + p : Nat) : Int) := by rw [IntKind.wrap_u64]; omega
    have ht : tail9 p = [46] ++ trimRightB ((decDigits (1000000000 + p)).drop 1) 48 := by unfold tail9; rw [if_neg h0]; rfl
    have hf := fmt_ok (1000000000 + p) (by omega) w hL
    rw [ht]
    have hcs : (txt (decDigits (1000000000 + p))).size = 10 := by rw [txt_size, hlen]
    have hc1 : (1 : Int) ≤ (txt (decDigits (1000000000 + p))).size := by omega
    have hx : (txt (decDigits (1000000000 + p))).extract 1 (txt (decDigits (1000000000 + p))).size = txt ((decDigits (1000000000 + p)).drop 1) := by rw [ext_from, bs_txt]
    have hxs : (txt ((decDigits (1000000000 + p)).drop 1)).size = 9 := by rw [txt_size, List.length_drop, hlen]
    have htr : ∀ w, Calls Tryd.prog 34 #[.string (txt ((decDigits (1000000000 + p)).drop 1)), .string ⟨#[48]⟩] w fun e w' => e = .returned (.string (txt (trimRightB ((decDigits (1000000000 + p)).drop 1) 48))) ∧ w' = w := fun w => by
      have := Tryd.strings_TrimRight_one (txt ((decDigits (1000000000 + p)).drop 1)) 48 (by decide) w (by omega)
      have e : (txt ((decDigits (1000000000 + p)).drop 1)).data.toList = (decDigits (1000000000 + p)).drop 1 := bs_txt _
      rw [e] at this
      exact this
    have hts : (txt (trimRightB ((decDigits (1000000000 + p)).drop 1) 48)).size ≤ 9 := by
      rw [txt_size]
      unfold trimRightB
      rw [List.length_reverse]
      have h1 := (List.dropWhile_suffix (p := (· == (48 : UInt8))) (l := ((decDigits (1000000000 + p)).drop 1).reverse)).length_le
      rw [List.length_reverse, List.length_drop, hlen] at h1
      exact h1
    clear ht hlen hcs hxs
    generalize decDigits (1000000000 + p) = D at *
    generalize D.drop 1 = DD at *
    generalize hT : trimRightB DD 48 = T at *
    have hcat : ¬ 9223372036854775807 < 1 + (txt T).size := by omega
    clear hT hts
    go_enter Tryd.func27, Tryd.ntmps27
    go_wp2_with (first
      | (go_at_call 26; refine hf.mono ?_; rintro e w' ⟨rfl, hb⟩)
      | (go_at_call 34; refine (htr _).mono ?_; rintro e w'' ⟨rfl, rfl⟩))
    go_ret
    exact ⟨ret_string (txt_app [46] T), hb⟩

theorem bs_at (s : ByteArray) (k : Nat) (h : k < s.size) : (bs s)[k]? = some (s[k]'h) := by
  have e : s = ⟨(bs s).toArray⟩ := (txt_bs s).symm
  have := getElem_mk (bs s) k (by rw [← e]; exact h)
  rw [this]
  congr 1
theorem bs_head (s : ByteArray) (h : 0 < s.size) : (bs s).head? = some (s[0]'h) := by rw [← bs_at s 0 h]; cases bs s <;> rfl

/-- natural: a number's text. -/
theorem natural_yes (s : ByteArray) (hs : s.size ≤ 281474976710656) (u : Nat) (hu : nat63 (bs s) = some u) (w : World) :
    Calls Tryd.prog 19 #[.string s] w fun e w' => e = .returned (.tuple #[.int .u64 u, .bool true]) ∧ Below w.heap.size w w' := by
  obtain ⟨hne, hd, hz, hv, hm⟩ := nat63_some hu
  have hp := parse_yes s hs hne hd (by omega) w
  rw [hv] at hp
  have hm' : ¬ (9223372036854775808 : Int) < u := by omega
  clear hv hd hne hu hm
  by_cases h1 : 1 < s.size
  · have h0 : 0 < s.size := by omega
    have hh : ¬ ((s[0]'h0).toNat : Int) = 48 := fun e => hz ⟨by rw [bs_head s h0]; congr 1; apply UInt8.toNat_inj.1; rw [show ((48 : UInt8).toNat) = 48 from rfl]; omega, by rw [bs_len]; exact h1⟩
    have hb1 : (1 : Int) < s.size := by omega
    clear hz
    go_enter Tryd.func19, Tryd.ntmps19
    go_wp2_with (go_at_call 29; refine hp.mono ?_; rintro e w' ⟨rfl, hb⟩)
    go_ret2
    exact ⟨rfl, hb⟩
  · have hb1 : ¬ (1 : Int) < s.size := by omega
    clear hz
    go_enter Tryd.func19, Tryd.ntmps19
    go_wp2_with (go_at_call 29; refine hp.mono ?_; rintro e w' ⟨rfl, hb⟩)
    go_ret2
    exact ⟨rfl, hb⟩

/-- natural: none. -/
theorem natural_no (s : ByteArray) (hs : s.size ≤ 281474976710656) (hu : nat63 (bs s) = none) (w : World) (hL : Laid w) :
    Calls Tryd.prog 19 #[.string s] w fun e w' => e = .returned (.tuple #[.int .u64 0, .bool false]) ∧ Below w.heap.size w w' := by
  by_cases hz : (bs s).head? = some 48 ∧ 1 < (bs s).length
  · have h1 : 1 < s.size := by rw [← bs_len]; exact hz.2
    have h0 : 0 < s.size := by omega
    have hh : ((s[0]'h0).toNat : Int) = 48 := by
      have := hz.1
      rw [bs_head s h0] at this
      injection this with this
      rw [this]; rfl
    have hb1 : (1 : Int) < s.size := by omega
    clear hz hu
    go_enter Tryd.func19, Tryd.ntmps19
    go_wp2
    go_ret2
    exact ⟨rfl, Below.refl _ _⟩
  · have hh : ∀ (h0 : 0 < s.size), 1 < s.size → ¬ ((s[0]'h0).toNat : Int) = 48 := fun h0 h1 e => hz ⟨by rw [bs_head s h0]; congr 1; apply UInt8.toNat_inj.1; rw [show ((48 : UInt8).toNat) = 48 from rfl]; omega, by rw [bs_len]; exact h1⟩
    by_cases hg : bs s ≠ [] ∧ allD (bs s) = true ∧ val 0 (bs s) ≤ 18446744073709551615
    · have hp := parse_yes s hs hg.1 hg.2.1 hg.2.2 w
      have hm' : (9223372036854775808 : Int) < (val 0 (bs s) : Nat) := by
        by_cases hle : val 0 (bs s) ≤ 9223372036854775808
        · unfold nat63 at hu
          rw [if_pos ⟨hg.1, hg.2.1, hz, hle⟩] at hu
          cases hu
        · omega
      clear hu hz hg
      generalize val 0 (bs s) = u at *
      by_cases h1 : 1 < s.size
      · have h0 : 0 < s.size := by omega
        have hh' := hh h0 h1
        have hb1 : (1 : Int) < s.size := by omega
        clear hh
        go_enter Tryd.func19, Tryd.ntmps19
        go_wp2_with (go_at_call 29; refine hp.mono ?_; rintro e w' ⟨rfl, hb⟩)
        go_ret2
        exact ⟨rfl, hb⟩
      · have hb1 : ¬ (1 : Int) < s.size := by omega
        clear hh
        go_enter Tryd.func19, Tryd.ntmps19
        go_wp2_with (go_at_call 29; refine hp.mono ?_; rintro e w' ⟨rfl, hb⟩)
        go_ret2
        exact ⟨rfl, hb⟩
    · have hp := parse_no s hs (by
        by_cases hne : bs s = []
        · exact Or.inl hne
        · exact Or.inr fun h => hg ⟨hne, h⟩) w hL
      clear hu hz hg
      by_cases h1 : 1 < s.size
      · have h0 : 0 < s.size := by omega
        have hh' := hh h0 h1
        have hb1 : (1 : Int) < s.size := by omega
        clear hh
        go_enter Tryd.func19, Tryd.ntmps19
        go_wp2_with (go_at_call 29; refine hp.mono ?_; rintro e w' ⟨v, N, rfl, hb⟩)
        go_ret2
        exact ⟨rfl, hb⟩
      · have hb1 : ¬ (1 : Int) < s.size := by omega
        clear hh
        go_enter Tryd.func19, Tryd.ntmps19
        go_wp2_with (go_at_call 29; refine hp.mono ?_; rintro e w' ⟨v, N, rfl, hb⟩)
        go_ret2
        exact ⟨rfl, hb⟩

/-- Number. -/
theorem number_ok (s : ByteArray) (hs : s.size ≤ 281474976710656) (w : World) (hL : Laid w) (r c : Int)
    (hr : r = match nat63 (bs s) with | some u => if u ≤ 9223372036854775807 then (u : Int) else 0 | none => 0)
    (hc : c = match nat63 (bs s) with | some u => if u ≤ 9223372036854775807 then 0 else 15 | none => 15) :
    Calls Tryd.prog 7 #[.string s] w fun e w' => e = .returned (.tuple #[.int .i64 r, .int .u8 c]) ∧ Below w.heap.size w w' := by
  cases hn : nat63 (bs s) with
  | none =>
    rw [hn] at hr hc
    subst hr hc
    have hp := natural_no s hs hn w hL
    clear hn
    go_enter Tryd.func7, Tryd.ntmps7
    go_wp2_with (go_at_call 19; refine hp.mono ?_; rintro e w' ⟨rfl, hb⟩)
    go_ret2
    exact ⟨rfl, hb⟩
  | some u =>
    rw [hn] at hr hc
    have hp := natural_yes s hs u hn w
    clear hn
    by_cases hu : u ≤ 9223372036854775807
    · simp only [if_pos hu] at hr hc
      subst hr hc
      have hm : ¬ (9223372036854775807 : Int) < u := by omega
      have hm2 : (u : Int) ≤ 9223372036854775807 := by omega
      have hm0 : (0 : Int) ≤ u := by omega
      have hwr : IntKind.i64.wrap (u : Int) = u := by rw [IntKind.wrap_i64]; omega
      clear hu
      go_enter Tryd.func7, Tryd.ntmps7
      go_wp2_with (go_at_call 19; refine hp.mono ?_; rintro e w' ⟨rfl, hb⟩)
      go_ret2
      exact ⟨rfl, hb⟩
    · simp only [if_neg hu] at hr hc
      subst hr hc
      have hm : (9223372036854775807 : Int) < u := by omega
      clear hu
      go_enter Tryd.func7, Tryd.ntmps7
      go_wp2_with (go_at_call 19; refine hp.mono ?_; rintro e w' ⟨rfl, hb⟩)
      go_ret2
      exact ⟨rfl, hb⟩

/-- billionths: as many as there are. -/
theorem billion_yes (s : ByteArray) (p : Nat) (hp : billion (bs s) = some p) (w : World) :
    Calls Tryd.prog 32 #[.string s] w fun e w' => e = .returned (.tuple #[.int .u64 p, .bool true]) ∧ Below w.heap.size w w' := by
  unfold billion at hp
  split at hp
  · rename_i h
    obtain ⟨hd, hl1, hl9⟩ := h
    injection hp with hp
    have hsz : s.size ≤ 9 := by rw [← bs_len]; exact hl9
    have hsz1 : 1 ≤ s.size := by rw [← bs_len]; exact hl1
    have hrep : ∀ k, allD (List.replicate k 48) = true ∧ ∀ acc, val acc (List.replicate k 48) = acc * 10 ^ k := by
      intro k
      induction k with
      | zero => exact ⟨rfl, fun acc => by rw [List.replicate_zero, val_nil]; simp⟩
      | succ k ih =>
        refine ⟨by rw [List.replicate_succ, allD_cons, ih.1]; rfl, fun acc => ?_⟩
        rw [List.replicate_succ, val_cons, ih.2, Nat.pow_succ]
        have : ((48 : UInt8).toNat - 48) = 0 := rfl
        rw [this, Nat.add_zero, Nat.mul_assoc, Nat.mul_comm 10]
    have hx : ({ data := #[48, 48, 48, 48, 48, 48, 48, 48, 48] } : ByteArray).extract s.size 9 = txt (List.replicate (9 - s.size) 48) := by
      have h9 : ({ data := #[48, 48, 48, 48, 48, 48, 48, 48, 48] } : ByteArray) = txt (List.replicate 9 48) := rfl
      have := ext_from (txt (List.replicate 9 48)) s.size
      rw [bs_txt, List.drop_replicate] at this
      rw [h9]
      exact this
    have hcat : s ++ txt (List.replicate (9 - s.size) 48) = txt (bs s ++ List.replicate (9 - s.size) 48) := by
      rw [← txt_app, txt_bs]
    have hvl : val 0 (bs s ++ List.replicate (9 - s.size) 48) = p := by rw [val_app, (hrep _).2, ← bs_len, hp]
    have hall : allD (bs s ++ List.replicate (9 - s.size) 48) = true := by rw [allD_app, hd, (hrep _).1]; rfl
    have hln : (bs s ++ List.replicate (9 - s.size) 48).length = 9 := by rw [List.length_append, List.length_replicate, bs_len]; omega
    have hlt := val_lt _ hall
    rw [hln, hvl] at hlt
    have hpar := parse_yes (txt (bs s ++ List.replicate (9 - s.size) 48)) (by rw [txt_size, hln]; omega) (by rw [bs_txt]; intro e; rw [e] at hln; simp at hln) (by rw [bs_txt]; exact hall) (by rw [bs_txt, hvl]; omega) w
    rw [bs_txt, hvl] at hpar
    generalize txt (bs s ++ List.replicate (9 - s.size) 48) = S at *
    generalize txt (List.replicate (9 - s.size) 48) = Z at *
    have i1 : ¬ (s.size : Int) < 1 := by omega
    have i2 : ¬ (9 : Int) < s.size := by omega
    have i3 : (s.size : Int) ≤ 9 := by omega
    have hzs : Z.size ≤ 9 := by rw [← hx]; rw [ByteArray.size_extract]; omega
    have hcs : ¬ 9223372036854775807 < s.size + Z.size := by omega
    clear hp hrep hvl hall hln hd hl1 hl9 hlt hzs
    have HS := hid hsz
    clear hsz hsz1
    go_enter Tryd.func32, Tryd.ntmps32
    go_wp2_with (go_at_call 29; refine hpar.mono ?_; rintro e w' ⟨rfl, hb⟩)
    go_region
    go_wp2
    go_ret2
    exact ⟨rfl, hb.drew⟩
  · cases hp

end Go.Proofs.YtjpbkonlakpkiaaDoor
