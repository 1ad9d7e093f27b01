/-
  The document's own reading of digits: what it answers.
  Conditions: strings of at most 2^48 bytes.
-/
import Derived.Test.YtlehomcodkbpmaaGreatDoorTim
namespace Go.Proofs.YtlehomcodkbpmaaGreatDoor
open Go.ChangeShapes Go.WideShapes Go.ChangeAt Go.RowKit Go.Lib Go.Sort

theorem bs_drop (s : ByteArray) (k : Nat) (h : k < s.size) : (bs s).drop k = (s[k]'h) :: (bs s).drop (k + 1) := by
  have hl : k < (bs s).length := by rw [bs_len]; exact h
  rw [List.drop_eq_getElem_cons hl]
  congr 1
theorem bs_drop_end (s : ByteArray) (k : Nat) (h : ¬ k < s.size) : (bs s).drop k = [] := by
  rw [List.drop_eq_nil_iff, bs_len]; omega

def onlyOf (l : List UInt8) : Bool := allD l && decide (l ≠ [])

set_option maxHeartbeats 4000000 in
set_option maxRecDepth 20000 in
theorem only_ok (s : ByteArray) (hs : s.size ≤ 281474976710656) (w : World) :
    Calls Tryz.prog 72 #[.string s] w fun e w' => e = .returned (.bool (onlyOf (bs s))) ∧ w' = w := by
  go_enter Tryz.func72, Tryz.ntmps72
  go_wp2
  go_loop [3] (fun i => ∃ k : Nat, k ≤ s.size ∧ i = .int .i64 k ∧ Hid (allD (bs s) = allD ((bs s).drop k))) (fun i => s.size - (RowKit.intOf i).toNat)
  case atStart => exact ⟨0, Nat.zero_le _, rfl, hid (by simp)⟩
  case round =>
    obtain ⟨k, hk, rfl, hr⟩ := hrel
    by_cases hlt : k < s.size
    · obtain ⟨c, hc⟩ : ∃ c : Int, c = ((s[k]'hlt).toNat : Int) := ⟨_, rfl⟩
      have hD : Hid (allD (bs s) = (isD (s[k]'hlt) && allD ((bs s).drop (k + 1)))) := hid (by rw [hr.out, bs_drop s k hlt, allD_cons])
      have hI : Hid (isD (s[k]'hlt) = true ↔ 48 ≤ c ∧ c ≤ 57) := hid (by rw [isD_iff]; omega)
      have hcr : 0 ≤ c ∧ c ≤ 255 := by have := (s[k]'hlt).toNat_lt; omega
      obtain ⟨hc0, hc1⟩ := hcr
      have hkl : (k : Int) < s.size := by omega
      replace hc := hc.symm
      by_cases h1 : c < 48
      · have E : Hid (onlyOf (bs s) = false) := hid (by
          have : isD (s[k]'hlt) = false := by
            cases h : isD (s[k]'hlt)
            · rfl
            · have := hI.out.1 h; omega
          unfold onlyOf; rw [hD.out, this]; rfl)
        clear hD hI hr
        go_wp2
        go_ret
        exact ⟨ret_bool E.out.symm, rfl⟩
      · by_cases h2 : 57 < c
        · have E : Hid (onlyOf (bs s) = false) := hid (by
            have : isD (s[k]'hlt) = false := by
              cases h : isD (s[k]'hlt)
              · rfl
              · have := hI.out.1 h; omega
            unfold onlyOf; rw [hD.out, this]; rfl)
          clear hD hI hr
          go_wp2
          go_ret
          exact ⟨ret_bool E.out.symm, rfl⟩
        · have E : Hid (allD (bs s) = allD ((bs s).drop (k + 1))) := hid (by rw [hD.out, hI.out.2 ⟨by omega, by omega⟩]; rfl)
          clear hD hI hr
          go_wp2
          go_round
          case rel => exact ⟨k + 1, by omega, by go_num, E⟩
          case measure => simp [RowKit.intOf]; omega
    · have E : Hid (onlyOf (bs s) = decide (0 < s.size)) := hid (by
        unfold onlyOf
        rw [hr.out, bs_drop_end s k hlt, allD_nil, Bool.true_and]
        congr 1
        rw [← bs_len]
        cases bs s <;> simp)
      have hkl : ¬ (k : Int) < s.size := by omega
      clear hr
      go_wp2
      go_ret
      exact ⟨ret_bool E.out.symm, rfl⟩

theorem allD_at {s : ByteArray} (hd : allD (bs s) = true) (k : Nat) (h : k < s.size) : 48 ≤ (s[k]'h).toNat ∧ (s[k]'h).toNat ≤ 57 := by
  have e := List.take_append_drop k (bs s)
  rw [← e, allD_app, Bool.and_eq_true, bs_drop s k h, allD_cons, Bool.and_eq_true, isD_iff] at hd
  exact hd.2.1

set_option maxHeartbeats 8000000 in
set_option maxRecDepth 20000 in
/-- Below: the digits of a number. -/
theorem below_walk (s : ByteArray) (hs : s.size ≤ 281474976710656) (hd : allD (bs s) = true) (hne : 0 < s.size) (hz : ¬ ((bs s).head? = some 48 ∧ 1 < (bs s).length)) (w : World) (r : Int) (ok : Bool)
    (hr : Hid (val 0 (bs s) ≤ 9223372036854775808 ∧ r = -(val 0 (bs s) : Nat) ∧ ok = true ∨ ¬ val 0 (bs s) ≤ 9223372036854775808 ∧ r = 0 ∧ ok = false)) :
    Calls Tryz.prog 71 #[.string s] w fun e w' => e = .returned (.tuple #[.int .i64 r, .bool ok]) ∧ w' = w := by
  have hon := only_ok s hs w
  have ho : onlyOf (bs s) = true := by
    unfold onlyOf
    rw [hd, Bool.true_and, decide_eq_true_eq]
    intro e
    have := bs_len s
    rw [e] at this
    simp at this
    omega
  rw [ho] at hon
  obtain ⟨c0, hc0⟩ : ∃ c0 : Int, c0 = ((s[0]'hne).toNat : Int) := ⟨_, rfl⟩
  have hz' : ¬ (c0 = 48 ∧ 1 < s.size) := fun h => hz ⟨by
    rw [bs_head s hne]
    congr 1
    apply UInt8.toNat_inj.1
    rw [show ((48 : UInt8).toNat) = 48 from rfl]; omega, by rw [bs_len]; exact h.2⟩
  have hne' : (0 : Int) < s.size := by omega
  have HD := hid hd
  replace hc0 := hc0.symm
  clear hz hd ho
  by_cases h48 : c0 = 48
  · have h1 : ¬ (1 : Int) < s.size := by omega
    clear hz'
    go_enter Tryz.func71, Tryz.ntmps71
    go_wp2_with (go_at_call 72; refine hon.mono ?_; rintro e w' ⟨rfl, hw⟩; obtain rfl := hw.symm)
    go_loop [4, 5, 6] (fun n i x => ∃ (k : Nat) (v d : Int), k ≤ s.size ∧ i = .int .i64 k ∧ n = .int .i64 (-v) ∧ 0 ≤ v ∧ v ≤ 9223372036854775808 ∧ Hid (val 0 (bs s) = val v.toNat ((bs s).drop k))) (fun _ i _ => s.size - (RowKit.intOf i).toNat)
    case atStart => exact ⟨0, 0, 0, Nat.zero_le _, rfl, rfl, by omega, by omega, hid (by simp)⟩
    case round =>
      obtain ⟨k, v, d, hk, rfl, rfl, hv0, hv1, hR⟩ := hrel
      by_cases hlt : k < s.size
      · obtain ⟨c, hc⟩ : ∃ c : Int, c = ((s[k]'hlt).toNat : Int) := ⟨_, rfl⟩
        have hcr := allD_at HD.out k hlt
        have hc48 : 48 ≤ c := by omega
        have hc57 : c ≤ 57 := by omega
        have hN : Hid (val 0 (bs s) = val (10 * v + (c - 48)).toNat ((bs s).drop (k + 1))) := hid (by
          rw [hR.out, bs_drop s k hlt, val_cons]
          congr 1
          omega)
        have hkl : (k : Int) < s.size := by omega
        have hw1 : IntKind.i64.wrap (c - 48) = c - 48 := by rw [IntKind.wrap_i64]; omega
        replace hc := hc.symm
        clear hcr hR
        by_cases hbig : 922337203685477580 < v
        · have hb' : -v < -922337203685477580 := by omega
          have E : Hid (r = 0 ∧ ok = false) := hid (by
            rcases hr.out with ⟨h, _⟩ | ⟨_, h⟩
            · have := val_ge ((bs s).drop (k + 1)) (10 * v + (c - 48)).toNat
              rw [← hN.out] at this
              omega
            · exact h)
          obtain ⟨rfl, rfl⟩ := E.out
          clear hN hbig hr E
          go_wp2
          go_ret2
          exact ⟨rfl, rfl⟩
        · have hb' : ¬ -v < -922337203685477580 := by omega
          by_cases heq : v = 922337203685477580 ∧ 56 < c
          · have heq1 : -v = -922337203685477580 := by omega
            have heq2 : 8 < c - 48 := by omega
            have E : Hid (r = 0 ∧ ok = false) := hid (by
              rcases hr.out with ⟨h, _⟩ | ⟨_, h⟩
              · have := val_ge ((bs s).drop (k + 1)) (10 * v + (c - 48)).toNat
                rw [← hN.out] at this
                omega
              · exact h)
            obtain ⟨rfl, rfl⟩ := E.out
            clear hN hbig hr E heq
            go_wp2
            go_ret2
            exact ⟨rfl, rfl⟩
          · have hm1 : IntKind.i64.wrap (10 * (-v)) = 10 * (-v) := by rw [IntKind.wrap_i64]; omega
            have hm2 : IntKind.i64.wrap (10 * (-v) - (c - 48)) = 10 * (-v) - (c - 48) := by rw [IntKind.wrap_i64]; omega
            by_cases hv : v = 922337203685477580
            · have heq1 : -v = -922337203685477580 := by omega
              have heq2 : ¬ 8 < c - 48 := by omega
              clear hbig heq
              go_wp2
              go_round
              case rel => exact ⟨k + 1, 10 * v + (c - 48), 0, by omega, by go_num, by go_num, by omega, by omega, hN⟩
              case measure => simp [RowKit.intOf]; omega
            · have heq1 : ¬ -v = -922337203685477580 := by omega
              clear hbig heq
              go_wp2
              go_round
              case rel => exact ⟨k + 1, 10 * v + (c - 48), 0, by omega, by go_num, by go_num, by omega, by omega, hN⟩
              case measure => simp [RowKit.intOf]; omega
      · have E : Hid (r = -v ∧ ok = true) := hid (by
          have e := hR.out
          rw [bs_drop_end s k hlt, val_nil] at e
          rcases hr.out with ⟨_, h, h'⟩ | ⟨h, _⟩
          · exact ⟨by rw [h, e]; omega, h'⟩
          · omega)
        obtain ⟨rfl, rfl⟩ := E.out
        have hkl : ¬ (k : Int) < s.size := by omega
        clear hR E hr
        go_wp2
        go_ret2
        exact ⟨rfl, rfl⟩
  · clear hz'
    go_enter Tryz.func71, Tryz.ntmps71
    go_wp2_with (go_at_call 72; refine hon.mono ?_; rintro e w' ⟨rfl, hw⟩; obtain rfl := hw.symm)
    go_loop [4, 5, 6] (fun n i x => ∃ (k : Nat) (v d : Int), k ≤ s.size ∧ i = .int .i64 k ∧ n = .int .i64 (-v) ∧ 0 ≤ v ∧ v ≤ 9223372036854775808 ∧ Hid (val 0 (bs s) = val v.toNat ((bs s).drop k))) (fun _ i _ => s.size - (RowKit.intOf i).toNat)
    case atStart => exact ⟨0, 0, 0, Nat.zero_le _, rfl, rfl, by omega, by omega, hid (by simp)⟩
    case round =>
      obtain ⟨k, v, d, hk, rfl, rfl, hv0, hv1, hR⟩ := hrel
      by_cases hlt : k < s.size
      · obtain ⟨c, hc⟩ : ∃ c : Int, c = ((s[k]'hlt).toNat : Int) := ⟨_, rfl⟩
        have hcr := allD_at HD.out k hlt
        have hc48 : 48 ≤ c := by omega
        have hc57 : c ≤ 57 := by omega
        have hN : Hid (val 0 (bs s) = val (10 * v + (c - 48)).toNat ((bs s).drop (k + 1))) := hid (by
          rw [hR.out, bs_drop s k hlt, val_cons]
          congr 1
          omega)
        have hkl : (k : Int) < s.size := by omega
        have hw1 : IntKind.i64.wrap (c - 48) = c - 48 := by rw [IntKind.wrap_i64]; omega
        replace hc := hc.symm
        clear hcr hR
        by_cases hbig : 922337203685477580 < v
        · have hb' : -v < -922337203685477580 := by omega
          have E : Hid (r = 0 ∧ ok = false) := hid (by
            rcases hr.out with ⟨h, _⟩ | ⟨_, h⟩
            · have := val_ge ((bs s).drop (k + 1)) (10 * v + (c - 48)).toNat
              rw [← hN.out] at this
              omega
            · exact h)
          obtain ⟨rfl, rfl⟩ := E.out
          clear hN hbig hr E
          go_wp2
          go_ret2
          exact ⟨rfl, rfl⟩
        · have hb' : ¬ -v < -922337203685477580 := by omega
          by_cases heq : v = 922337203685477580 ∧ 56 < c
          · have heq1 : -v = -922337203685477580 := by omega
            have heq2 : 8 < c - 48 := by omega
            have E : Hid (r = 0 ∧ ok = false) := hid (by
              rcases hr.out with ⟨h, _⟩ | ⟨_, h⟩
              · have := val_ge ((bs s).drop (k + 1)) (10 * v + (c - 48)).toNat
                rw [← hN.out] at this
                omega
              · exact h)
            obtain ⟨rfl, rfl⟩ := E.out
            clear hN hbig hr E heq
            go_wp2
            go_ret2
            exact ⟨rfl, rfl⟩
          · have hm1 : IntKind.i64.wrap (10 * (-v)) = 10 * (-v) := by rw [IntKind.wrap_i64]; omega
            have hm2 : IntKind.i64.wrap (10 * (-v) - (c - 48)) = 10 * (-v) - (c - 48) := by rw [IntKind.wrap_i64]; omega
            by_cases hv : v = 922337203685477580
            · have heq1 : -v = -922337203685477580 := by omega
              have heq2 : ¬ 8 < c - 48 := by omega
              clear hbig heq
              go_wp2
              go_round
              case rel => exact ⟨k + 1, 10 * v + (c - 48), 0, by omega, by go_num, by go_num, by omega, by omega, hN⟩
              case measure => simp [RowKit.intOf]; omega
            · have heq1 : ¬ -v = -922337203685477580 := by omega
              clear hbig heq
              go_wp2
              go_round
              case rel => exact ⟨k + 1, 10 * v + (c - 48), 0, by omega, by go_num, by go_num, by omega, by omega, hN⟩
              case measure => simp [RowKit.intOf]; omega
      · have E : Hid (r = -v ∧ ok = true) := hid (by
          have e := hR.out
          rw [bs_drop_end s k hlt, val_nil] at e
          rcases hr.out with ⟨_, h, h'⟩ | ⟨h, _⟩
          · exact ⟨by rw [h, e]; omega, h'⟩
          · omega)
        obtain ⟨rfl, rfl⟩ := E.out
        have hkl : ¬ (k : Int) < s.size := by omega
        clear hR E hr
        go_wp2
        go_ret2
        exact ⟨rfl, rfl⟩

theorem size_pos {s : ByteArray} (h : bs s ≠ []) : 0 < s.size := by
  rw [← bs_len]
  cases hb : bs s with
  | nil => exact absurd hb h
  | cons c r => simp

set_option maxHeartbeats 4000000 in
set_option maxRecDepth 20000 in
/-- Below. -/
theorem below_ok (s : ByteArray) (hs : s.size ≤ 281474976710656) (w : World) (r : Int) (ok : Bool)
    (hr : (∃ u, nat63 (bs s) = some u ∧ r = -(u : Int) ∧ ok = true) ∨ nat63 (bs s) = none ∧ r = 0 ∧ ok = false) :
    Calls Tryz.prog 71 #[.string s] w fun e w' => e = .returned (.tuple #[.int .i64 r, .bool ok]) ∧ w' = w := by
  have hon := only_ok s hs w
  by_cases ho : onlyOf (bs s) = true
  · have ho' := ho
    unfold onlyOf at ho'
    rw [Bool.and_eq_true, decide_eq_true_eq] at ho'
    obtain ⟨hd, hne⟩ := ho'
    have hp := size_pos hne
    by_cases hz : (bs s).head? = some 48 ∧ 1 < (bs s).length
    · have hn : nat63 (bs s) = none := by unfold nat63; rw [if_neg]; exact fun h => h.2.2.1 hz
      obtain ⟨u, hu, _⟩ | ⟨_, rfl, rfl⟩ := hr
      · rw [hn] at hu; cases hu
      have h0 : ((s[0]'hp).toNat : Int) = 48 := by
        have := hz.1
        rw [bs_head s hp] at this
        injection this with this
        rw [this]; rfl
      have h1 : (1 : Int) < s.size := by have := hz.2; rw [bs_len] at this; omega
      have hne' : (0 : Int) < s.size := by omega
      rw [ho] at hon
      clear ho hd hne hz hn
      go_enter Tryz.func71, Tryz.ntmps71
      go_wp2_with (go_at_call 72; refine hon.mono ?_; rintro e w' ⟨rfl, hw⟩; obtain rfl := hw.symm)
      go_ret2
      exact ⟨rfl, rfl⟩
    · refine below_walk s hs hd hp hz w r ok (hid ?_)
      by_cases hv : val 0 (bs s) ≤ 9223372036854775808
      · have hn : nat63 (bs s) = some (val 0 (bs s)) := by unfold nat63; rw [if_pos ⟨hne, hd, hz, hv⟩]
        obtain ⟨u, hu, h1, h2⟩ | ⟨h, _⟩ := hr
        · rw [hn] at hu
          injection hu with hu
          exact Or.inl ⟨hv, by rw [hu]; exact h1, h2⟩
        · rw [hn] at h; cases h
      · have hn : nat63 (bs s) = none := by unfold nat63; rw [if_neg]; exact fun h => hv h.2.2.2
        obtain ⟨u, hu, _⟩ | ⟨_, h⟩ := hr
        · rw [hn] at hu; cases hu
        · exact Or.inr ⟨hv, h⟩
  · have hn : nat63 (bs s) = none := by
      unfold nat63
      rw [if_neg]
      intro h
      apply ho
      unfold onlyOf
      rw [h.2.1, Bool.true_and, decide_eq_true_eq]
      exact h.1
    obtain ⟨u, hu, _⟩ | ⟨_, rfl, rfl⟩ := hr
    · rw [hn] at hu; cases hu
    rw [Bool.not_eq_true] at ho
    rw [ho] at hon
    clear ho hn
    go_enter Tryz.func71, Tryz.ntmps71
    go_wp2_with (go_at_call 72; refine hon.mono ?_; rintro e w' ⟨rfl, hw⟩; obtain rfl := hw.symm)
    go_ret2
    exact ⟨rfl, rfl⟩

/-- Number, the document's. -/
theorem rnumber_ok (s : ByteArray) (hs : s.size ≤ 281474976710656) (w : World) (r : Int) (ok : Bool)
    (hr : r = match nat63 (bs s) with | some u => if u ≤ 9223372036854775807 then (u : Int) else 0 | none => 0)
    (hk : ok = match nat63 (bs s) with | some u => decide (u ≤ 9223372036854775807) | none => false) :
    Calls Tryz.prog 61 #[.string s] w fun e w' => e = .returned (.tuple #[.int .i64 r, .bool ok]) ∧ w' = w := by
  cases hn : nat63 (bs s) with
  | none =>
    rw [hn] at hr hk
    subst hr hk
    have hb := below_ok s hs w 0 false (Or.inr ⟨hn, rfl, rfl⟩)
    clear hn
    go_enter Tryz.func61, Tryz.ntmps61
    go_wp2_with (go_at_call 71; refine hb.mono ?_; rintro e w' ⟨rfl, hw⟩; obtain rfl := hw.symm)
    go_ret2
    exact ⟨rfl, rfl⟩
  | some u =>
    rw [hn] at hr hk
    have hb := below_ok s hs w (-(u : Int)) true (Or.inl ⟨u, hn, rfl, rfl⟩)
    have hm := (nat63_some hn).2.2.2.2
    clear hn
    by_cases hu : u ≤ 9223372036854775807
    · simp only [if_pos hu, decide_eq_true hu] at hr hk
      subst hr hk
      have h1 : ¬ -(u : Int) < -9223372036854775807 := by omega
      have h2 : IntKind.i64.wrap (u : Int) = u := by rw [IntKind.wrap_i64]; omega
      clear hu hm
      go_enter Tryz.func61, Tryz.ntmps61
      go_wp2_with (go_at_call 71; refine hb.mono ?_; rintro e w' ⟨rfl, hw⟩; obtain rfl := hw.symm)
      go_ret2
      exact ⟨rfl, rfl⟩
    · simp only [if_neg hu, decide_eq_false hu] at hr hk
      subst hr hk
      have h1 : -(u : Int) < -9223372036854775807 := by omega
      clear hu hm
      go_enter Tryz.func61, Tryz.ntmps61
      go_wp2_with (go_at_call 71; refine hb.mono ?_; rintro e w' ⟨rfl, hw⟩; obtain rfl := hw.symm)
      go_ret2
      exact ⟨rfl, rfl⟩

end Go.Proofs.YtlehomcodkbpmaaGreatDoor
