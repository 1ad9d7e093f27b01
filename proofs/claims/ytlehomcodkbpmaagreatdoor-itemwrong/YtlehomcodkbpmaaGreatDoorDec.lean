/-
  The program's functions of numbers: what they answer.
  Conditions: the package variables that the library reads hold what the program's text lays; strings of at most 2^48 bytes.
-/
import Derived.Test.YtlehomcodkbpmaaGreatDoorLibs
namespace Go.Proofs.YtlehomcodkbpmaaGreatDoor
open Go.ChangeShapes Go.WideShapes Go.ChangeAt Go.RowKit Go.Lib Go.Sort

theorem bs_at (s : ByteArray) (k : Nat) (h : k < s.size) : (bs s)[k]? = some (s[k]'h) := by
  have e : s = ⟨(bs s).toArray⟩ := (txt_bs s).symm
  have := getElem_mk (bs s) k (by rw [← e]; exact h)
  rw [this]
  congr 1
theorem bs_head (s : ByteArray) (h : 0 < s.size) : (bs s).head? = some (s[0]'h) := by rw [← bs_at s 0 h]; cases bs s <;> rfl

/-- natural: a number's text. -/
theorem natural_yes (s : ByteArray) (hs : s.size ≤ 281474976710656) (u : Nat) (hu : nat63 (bs s) = some u) (w : World) :
    Calls Tryz.prog 77 #[.string s] w fun e w' => e = .returned (.tuple #[.int .u64 u, .bool true]) ∧ Below w.heap.size w w' := by
  obtain ⟨hne, hd, hz, hv, hm⟩ := nat63_some hu
  have hp := parse_yes s hs hne hd (by omega) w
  rw [hv] at hp
  have hm' : ¬ (9223372036854775808 : Int) < u := by omega
  clear hv hd hne hu hm
  by_cases h1 : 1 < s.size
  · have h0 : 0 < s.size := by omega
    have hh : ¬ ((s[0]'h0).toNat : Int) = 48 := fun e => hz ⟨by rw [bs_head s h0]; congr 1; apply UInt8.toNat_inj.1; rw [show ((48 : UInt8).toNat) = 48 from rfl]; omega, by rw [bs_len]; exact h1⟩
    have hb1 : (1 : Int) < s.size := by omega
    clear hz
    go_enter Tryz.func77, Tryz.ntmps77
    go_wp2_with (go_at_call 88; refine hp.mono ?_; rintro e w' ⟨rfl, hb⟩)
    go_ret2
    exact ⟨rfl, hb⟩
  · have hb1 : ¬ (1 : Int) < s.size := by omega
    clear hz
    go_enter Tryz.func77, Tryz.ntmps77
    go_wp2_with (go_at_call 88; refine hp.mono ?_; rintro e w' ⟨rfl, hb⟩)
    go_ret2
    exact ⟨rfl, hb⟩

/-- natural: none. -/
theorem natural_no (s : ByteArray) (hs : s.size ≤ 281474976710656) (hu : nat63 (bs s) = none) (w : World) (hL : Laid w) :
    Calls Tryz.prog 77 #[.string s] w fun e w' => e = .returned (.tuple #[.int .u64 0, .bool false]) ∧ Below w.heap.size w w' := by
  by_cases hz : (bs s).head? = some 48 ∧ 1 < (bs s).length
  · have h1 : 1 < s.size := by rw [← bs_len]; exact hz.2
    have h0 : 0 < s.size := by omega
    have hh : ((s[0]'h0).toNat : Int) = 48 := by
      have := hz.1
      rw [bs_head s h0] at this
      injection this with this
      rw [this]; rfl
    have hb1 : (1 : Int) < s.size := by omega
    clear hz hu
    go_enter Tryz.func77, Tryz.ntmps77
    go_wp2
    go_ret2
    exact ⟨rfl, Below.refl _ _⟩
  · have hh : ∀ (h0 : 0 < s.size), 1 < s.size → ¬ ((s[0]'h0).toNat : Int) = 48 := fun h0 h1 e => hz ⟨by rw [bs_head s h0]; congr 1; apply UInt8.toNat_inj.1; rw [show ((48 : UInt8).toNat) = 48 from rfl]; omega, by rw [bs_len]; exact h1⟩
    by_cases hg : bs s ≠ [] ∧ allD (bs s) = true ∧ val 0 (bs s) ≤ 18446744073709551615
    · have hp := parse_yes s hs hg.1 hg.2.1 hg.2.2 w
      have hm' : (9223372036854775808 : Int) < (val 0 (bs s) : Nat) := by
        by_cases hle : val 0 (bs s) ≤ 9223372036854775808
        · unfold nat63 at hu
          rw [if_pos ⟨hg.1, hg.2.1, hz, hle⟩] at hu
          cases hu
        · omega
      clear hu hz hg
      generalize val 0 (bs s) = u at *
      by_cases h1 : 1 < s.size
      · have h0 : 0 < s.size := by omega
        have hh' := hh h0 h1
        have hb1 : (1 : Int) < s.size := by omega
        clear hh
        go_enter Tryz.func77, Tryz.ntmps77
        go_wp2_with (go_at_call 88; refine hp.mono ?_; rintro e w' ⟨rfl, hb⟩)
        go_ret2
        exact ⟨rfl, hb⟩
      · have hb1 : ¬ (1 : Int) < s.size := by omega
        clear hh
        go_enter Tryz.func77, Tryz.ntmps77
        go_wp2_with (go_at_call 88; refine hp.mono ?_; rintro e w' ⟨rfl, hb⟩)
        go_ret2
        exact ⟨rfl, hb⟩
    · have hp := parse_no s hs (by
        by_cases hne : bs s = []
        · exact Or.inl hne
        · exact Or.inr fun h => hg ⟨hne, h⟩) w hL
      clear hu hz hg
      by_cases h1 : 1 < s.size
      · have h0 : 0 < s.size := by omega
        have hh' := hh h0 h1
        have hb1 : (1 : Int) < s.size := by omega
        clear hh
        go_enter Tryz.func77, Tryz.ntmps77
        go_wp2_with (go_at_call 88; refine hp.mono ?_; rintro e w' ⟨v, N, rfl, hb⟩)
        go_ret2
        exact ⟨rfl, hb⟩
      · have hb1 : ¬ (1 : Int) < s.size := by omega
        clear hh
        go_enter Tryz.func77, Tryz.ntmps77
        go_wp2_with (go_at_call 88; refine hp.mono ?_; rintro e w' ⟨v, N, rfl, hb⟩)
        go_ret2
        exact ⟨rfl, hb⟩

/-- Number. -/
theorem number_ok (s : ByteArray) (hs : s.size ≤ 281474976710656) (w : World) (hL : Laid w) (r c : Int)
    (hr : r = match nat63 (bs s) with | some u => if u ≤ 9223372036854775807 then (u : Int) else 0 | none => 0)
    (hc : c = match nat63 (bs s) with | some u => if u ≤ 9223372036854775807 then 0 else 15 | none => 15) :
    Calls Tryz.prog 68 #[.string s] w fun e w' => e = .returned (.tuple #[.int .i64 r, .int .u8 c]) ∧ Below w.heap.size w w' := by
  cases hn : nat63 (bs s) with
  | none =>
    rw [hn] at hr hc
    subst hr hc
    have hp := natural_no s hs hn w hL
    clear hn
    go_enter Tryz.func68, Tryz.ntmps68
    go_wp2_with (go_at_call 77; refine hp.mono ?_; rintro e w' ⟨rfl, hb⟩)
    go_ret2
    exact ⟨rfl, hb⟩
  | some u =>
    rw [hn] at hr hc
    have hp := natural_yes s hs u hn w
    clear hn
    by_cases hu : u ≤ 9223372036854775807
    · simp only [if_pos hu] at hr hc
      subst hr hc
      have hm : ¬ (9223372036854775807 : Int) < u := by omega
      have hm2 : (u : Int) ≤ 9223372036854775807 := by omega
      have hm0 : (0 : Int) ≤ u := by omega
      have hwr : IntKind.i64.wrap (u : Int) = u := by rw [IntKind.wrap_i64]; omega
      clear hu
      go_enter Tryz.func68, Tryz.ntmps68
      go_wp2_with (go_at_call 77; refine hp.mono ?_; rintro e w' ⟨rfl, hb⟩)
      go_ret2
      exact ⟨rfl, hb⟩
    · simp only [if_neg hu] at hr hc
      subst hr hc
      have hm : (9223372036854775807 : Int) < u := by omega
      clear hu
      go_enter Tryz.func68, Tryz.ntmps68
      go_wp2_with (go_at_call 77; refine hp.mono ?_; rintro e w' ⟨rfl, hb⟩)
      go_ret2
      exact ⟨rfl, hb⟩

/-- billionths: as many as there are. -/
theorem billion_yes (s : ByteArray) (p : Nat) (hp : billion (bs s) = some p) (w : World) :
    Calls Tryz.prog 91 #[.string s] w fun e w' => e = .returned (.tuple #[.int .u64 p, .bool true]) ∧ Below w.heap.size w w' := by
  unfold billion at hp
  split at hp
  · rename_i h
    obtain ⟨hd, hl1, hl9⟩ := h
    injection hp with hp
    have hsz : s.size ≤ 9 := by rw [← bs_len]; exact hl9
    have hsz1 : 1 ≤ s.size := by rw [← bs_len]; exact hl1
    have hrep : ∀ k, allD (List.replicate k 48) = true ∧ ∀ acc, val acc (List.replicate k 48) = acc * 10 ^ k := by
      intro k
      induction k with
      | zero => exact ⟨rfl, fun acc => by rw [List.replicate_zero, val_nil]; simp⟩
      | succ k ih =>
        refine ⟨by rw [List.replicate_succ, allD_cons, ih.1]; rfl, fun acc => ?_⟩
        rw [List.replicate_succ, val_cons, ih.2, Nat.pow_succ]
        have : ((48 : UInt8).toNat - 48) = 0 := rfl
        rw [this, Nat.add_zero, Nat.mul_assoc, Nat.mul_comm 10]
    have hx : ({ data := #[48, 48, 48, 48, 48, 48, 48, 48, 48] } : ByteArray).extract s.size 9 = txt (List.replicate (9 - s.size) 48) := by
      have h9 : ({ data := #[48, 48, 48, 48, 48, 48, 48, 48, 48] } : ByteArray) = txt (List.replicate 9 48) := rfl
      have := ext_from (txt (List.replicate 9 48)) s.size
      rw [bs_txt, List.drop_replicate] at this
      rw [h9]
      exact this
    have hcat : s ++ txt (List.replicate (9 - s.size) 48) = txt (bs s ++ List.replicate (9 - s.size) 48) := by
      rw [← txt_app, txt_bs]
    have hvl : val 0 (bs s ++ List.replicate (9 - s.size) 48) = p := by rw [val_app, (hrep _).2, ← bs_len, hp]
    have hall : allD (bs s ++ List.replicate (9 - s.size) 48) = true := by rw [allD_app, hd, (hrep _).1]; rfl
    have hln : (bs s ++ List.replicate (9 - s.size) 48).length = 9 := by rw [List.length_append, List.length_replicate, bs_len]; omega
    have hlt := val_lt _ hall
    rw [hln, hvl] at hlt
    have hpar := parse_yes (txt (bs s ++ List.replicate (9 - s.size) 48)) (by rw [txt_size, hln]; omega) (by rw [bs_txt]; intro e; rw [e] at hln; simp at hln) (by rw [bs_txt]; exact hall) (by rw [bs_txt, hvl]; omega) w
    rw [bs_txt, hvl] at hpar
    generalize txt (bs s ++ List.replicate (9 - s.size) 48) = S at *
    generalize txt (List.replicate (9 - s.size) 48) = Z at *
    have i1 : ¬ (s.size : Int) < 1 := by omega
    have i2 : ¬ (9 : Int) < s.size := by omega
    have i3 : (s.size : Int) ≤ 9 := by omega
    have hzs : Z.size ≤ 9 := by rw [← hx]; rw [ByteArray.size_extract]; omega
    have hcs : ¬ 9223372036854775807 < s.size + Z.size := by omega
    clear hp hrep hvl hall hln hd hl1 hl9 hlt hzs
    have HS := hid hsz
    clear hsz hsz1
    go_enter Tryz.func91, Tryz.ntmps91
    go_wp2_with (go_at_call 88; refine hpar.mono ?_; rintro e w' ⟨rfl, hb⟩)
    go_region
    go_wp2
    go_ret2
    exact ⟨rfl, hb.drew⟩
  · cases hp

end Go.Proofs.YtlehomcodkbpmaaGreatDoor
