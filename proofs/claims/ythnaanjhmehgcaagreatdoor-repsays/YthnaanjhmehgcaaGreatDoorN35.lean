/-
  The document's own reading of digits: what it answers.
  Conditions: strings of at most 2^48 bytes.; AND WHAT FOLLOWS OF IT. Conditions: those that each part names.
-/
import Derived.Test.YthnaanjhmehgcaaGreatDoorN05
/-
  The document's own reading of digits: what it answers.
  Conditions: strings of at most 2^48 bytes.
-/
namespace Go.Proofs.YthnaanjhmehgcaaGreatDoor
open Go.ChangeShapes Go.WideShapes Go.ChangeAt Go.RowKit Go.Lib Go.Sort

theorem bs_drop (s : ByteArray) (k : Nat) (h : k < s.size) : (bs s).drop k = (s[k]'h) :: (bs s).drop (k + 1) := by
  have hl : k < (bs s).length := by rw [bs_len]; exact h
  rw [List.drop_eq_getElem_cons hl]
  congr 1
theorem bs_drop_end (s : ByteArray) (k : Nat) (h : ¬ k < s.size) : (bs s).drop k = [] := by
  rw [List.drop_eq_nil_iff, bs_len]; omega

def onlyOf (l : List UInt8) : Bool := allD l && decide (l ≠ [])

set_option maxHeartbeats 4000000 in
set_option maxRecDepth 20000 in
theorem only_ok (s : ByteArray) (hs : s.size ≤ 281474976710656) (w : World) :
    Calls Tryz.prog 160 #[.string s] w fun e w' => e = .returned (.bool (onlyOf (bs s))) ∧ w' = w := by
  go_enter Tryz.func160, Tryz.ntmps160
  go_wp2
  go_loop [3] (fun i => ∃ k : Nat, k ≤ s.size ∧ i = .int .i64 k ∧ Hid (allD (bs s) = allD ((bs s).drop k))) (fun i => s.size - (RowKit.intOf i).toNat)
  case atStart => exact ⟨0, Nat.zero_le _, rfl, hid (by simp)⟩
  case round =>
    obtain ⟨k, hk, rfl, hr⟩ := hrel
    by_cases hlt : k < s.size
    · obtain ⟨c, hc⟩ : ∃ c : Int, c = ((s[k]'hlt).toNat : Int) := ⟨_, rfl⟩
      have hD : Hid (allD (bs s) = (isD (s[k]'hlt) && allD ((bs s).drop (k + 1)))) := hid (by rw [hr.out, bs_drop s k hlt, allD_cons])
      have hI : Hid (isD (s[k]'hlt) = true ↔ 48 ≤ c ∧ c ≤ 57) := hid (by rw [isD_iff]; omega)
      have hcr : 0 ≤ c ∧ c ≤ 255 := by have := (s[k]'hlt).toNat_lt; omega
      obtain ⟨hc0, hc1⟩ := hcr
      have hkl : (k : Int) < s.size := by omega
      replace hc := hc.symm
      by_cases h1 : c < 48
      · have E : Hid (onlyOf (bs s) = false) := hid (by
          have : isD (s[k]'hlt) = false := by
            cases h : isD (s[k]'hlt)
            · rfl
            · have := hI.out.1 h; omega
          unfold onlyOf; rw [hD.out, this]; rfl)
        clear hD hI hr
        go_wp2
        go_ret
        exact ⟨ret_bool E.out.symm, rfl⟩
      · by_cases h2 : 57 < c
        · have E : Hid (onlyOf (bs s) = false) := hid (by
            have : isD (s[k]'hlt) = false := by
              cases h : isD (s[k]'hlt)
              · rfl
              · have := hI.out.1 h; omega
            unfold onlyOf; rw [hD.out, this]; rfl)
          clear hD hI hr
          go_wp2
          go_ret
          exact ⟨ret_bool E.out.symm, rfl⟩
        · have E : Hid (allD (bs s) = allD ((bs s).drop (k + 1))) := hid (by rw [hD.out, hI.out.2 ⟨by omega, by omega⟩]; rfl)
          clear hD hI hr
          go_wp2
          go_round
          case rel => exact ⟨k + 1, by omega, by go_num, E⟩
          case measure => simp [RowKit.intOf]; omega
    · have E : Hid (onlyOf (bs s) = decide (0 < s.size)) := hid (by
        unfold onlyOf
        rw [hr.out, bs_drop_end s k hlt, allD_nil, Bool.true_and]
        congr 1
        rw [← bs_len]
        cases bs s <;> simp)
      have hkl : ¬ (k : Int) < s.size := by omega
      clear hr
      go_wp2
      go_ret
      exact ⟨ret_bool E.out.symm, rfl⟩

theorem allD_at {s : ByteArray} (hd : allD (bs s) = true) (k : Nat) (h : k < s.size) : 48 ≤ (s[k]'h).toNat ∧ (s[k]'h).toNat ≤ 57 := by
  have e := List.take_append_drop k (bs s)
  rw [← e, allD_app, Bool.and_eq_true, bs_drop s k h, allD_cons, Bool.and_eq_true, isD_iff] at hd
  exact hd.2.1

set_option maxHeartbeats 8000000 in
set_option maxRecDepth 20000 in
/-- Below: the digits of a number. -/
theorem below_walk (s : ByteArray) (hs : s.size ≤ 281474976710656) (hd : allD (bs s) = true) (hne : 0 < s.size) (hz : ¬ ((bs s).head? = some 48 ∧ 1 < (bs s).length)) (w : World) (r : Int) (ok : Bool)
    (hr : Hid (val 0 (bs s) ≤ 9223372036854775808 ∧ r = -(val 0 (bs s) : Nat) ∧ ok = true ∨ ¬ val 0 (bs s) ≤ 9223372036854775808 ∧ r = 0 ∧ ok = false)) :
    Calls Tryz.prog 159 #[.string s] w fun e w' => e = .returned (.tuple #[.int .i64 r, .bool ok]) ∧ w' = w := by
  have hon := only_ok s hs w
  have ho : onlyOf (bs s) = true := by
    unfold onlyOf
    rw [hd, Bool.true_and, decide_eq_true_eq]
    intro e
    have := bs_len s
    rw [e] at this
    simp at this
    omega
  rw [ho] at hon
  obtain ⟨c0, hc0⟩ : ∃ c0 : Int, c0 = ((s[0]'hne).toNat : Int) := ⟨_, rfl⟩
  have hz' : ¬ (c0 = 48 ∧ 1 < s.size) := fun h => hz ⟨by
    rw [bs_head s hne]
    congr 1
    apply UInt8.toNat_inj.1
    rw [show ((48 : UInt8).toNat) = 48 from rfl]; omega, by rw [bs_len]; exact h.2⟩
  have hne' : (0 : Int) < s.size := by omega
  have HD := hid hd
  replace hc0 := hc0.symm
  clear hz hd ho
  by_cases h48 : c0 = 48
  · have h1 : ¬ (1 : Int) < s.size := by omega
    clear hz'
    go_enter Tryz.func159, Tryz.ntmps159
    go_wp2_with (go_at_call 160; refine hon.mono ?_; rintro e w' ⟨rfl, hw⟩; obtain rfl := hw.symm)
    go_loop [4, 5, 6] (fun n i x => ∃ (k : Nat) (v d : Int), k ≤ s.size ∧ i = .int .i64 k ∧ n = .int .i64 (-v) ∧ 0 ≤ v ∧ v ≤ 9223372036854775808 ∧ Hid (val 0 (bs s) = val v.toNat ((bs s).drop k))) (fun _ i _ => s.size - (RowKit.intOf i).toNat)
    case atStart => exact ⟨0, 0, 0, Nat.zero_le _, rfl, rfl, by omega, by omega, hid (by simp)⟩
    case round =>
      obtain ⟨k, v, d, hk, rfl, rfl, hv0, hv1, hR⟩ := hrel
      by_cases hlt : k < s.size
      · obtain ⟨c, hc⟩ : ∃ c : Int, c = ((s[k]'hlt).toNat : Int) := ⟨_, rfl⟩
        have hcr := allD_at HD.out k hlt
        have hc48 : 48 ≤ c := by omega
        have hc57 : c ≤ 57 := by omega
        have hN : Hid (val 0 (bs s) = val (10 * v + (c - 48)).toNat ((bs s).drop (k + 1))) := hid (by
          rw [hR.out, bs_drop s k hlt, val_cons]
          congr 1
          omega)
        have hkl : (k : Int) < s.size := by omega
        have hw1 : IntKind.i64.wrap (c - 48) = c - 48 := by rw [IntKind.wrap_i64]; omega
        replace hc := hc.symm
        clear hcr hR
        by_cases hbig : 922337203685477580 < v
        · have hb' : -v < -922337203685477580 := by omega
          have E : Hid (r = 0 ∧ ok = false) := hid (by
            rcases hr.out with ⟨h, _⟩ | ⟨_, h⟩
            · have := val_ge ((bs s).drop (k + 1)) (10 * v + (c - 48)).toNat
              rw [← hN.out] at this
              omega
            · exact h)
          obtain ⟨rfl, rfl⟩ := E.out
          clear hN hbig hr E
          go_wp2
          go_ret2
          exact ⟨rfl, rfl⟩
        · have hb' : ¬ -v < -922337203685477580 := by omega
          by_cases heq : v = 922337203685477580 ∧ 56 < c
          · have heq1 : -v = -922337203685477580 := by omega
            have heq2 : 8 < c - 48 := by omega
            have E : Hid (r = 0 ∧ ok = false) := hid (by
              rcases hr.out with ⟨h, _⟩ | ⟨_, h⟩
              · have := val_ge ((bs s).drop (k + 1)) (10 * v + (c - 48)).toNat
                rw [← hN.out] at this
                omega
              · exact h)
            obtain ⟨rfl, rfl⟩ := E.out
            clear hN hbig hr E heq
            go_wp2
            go_ret2
            exact ⟨rfl, rfl⟩
          · have hm1 : IntKind.i64.wrap (10 * (-v)) = 10 * (-v) := by rw [IntKind.wrap_i64]; omega
            have hm2 : IntKind.i64.wrap (10 * (-v) - (c - 48)) = 10 * (-v) - (c - 48) := by rw [IntKind.wrap_i64]; omega
            by_cases hv : v = 922337203685477580
            · have heq1 : -v = -922337203685477580 := by omega
              have heq2 : ¬ 8 < c - 48 := by omega
              clear hbig heq
              go_wp2
              go_round
              case rel => exact ⟨k + 1, 10 * v + (c - 48), 0, by omega, by go_num, by go_num, by omega, by omega, hN⟩
              case measure => simp [RowKit.intOf]; omega
            · have heq1 : ¬ -v = -922337203685477580 := by omega
              clear hbig heq
              go_wp2
              go_round
              case rel => exact ⟨k + 1, 10 * v + (c - 48), 0, by omega, by go_num, by go_num, by omega, by omega, hN⟩
              case measure => simp [RowKit.intOf]; omega
      · have E : Hid (r = -v ∧ ok = true) := hid (by
          have e := hR.out
          rw [bs_drop_end s k hlt, val_nil] at e
          rcases hr.out with ⟨_, h, h'⟩ | ⟨h, _⟩
          · exact ⟨by rw [h, e]; omega, h'⟩
          · omega)
        obtain ⟨rfl, rfl⟩ := E.out
        have hkl : ¬ (k : Int) < s.size := by omega
        clear hR E hr
        go_wp2
        go_ret2
        exact ⟨rfl, rfl⟩
  · clear hz'
    go_enter Tryz.func159, Tryz.ntmps159
    go_wp2_with (go_at_call 160; refine hon.mono ?_; rintro e w' ⟨rfl, hw⟩; obtain rfl := hw.symm)
    go_loop [4, 5, 6] (fun n i x => ∃ (k : Nat) (v d : Int), k ≤ s.size ∧ i = .int .i64 k ∧ n = .int .i64 (-v) ∧ 0 ≤ v ∧ v ≤ 9223372036854775808 ∧ Hid (val 0 (bs s) = val v.toNat ((bs s).drop k))) (fun _ i _ => s.size - (RowKit.intOf i).toNat)
    case atStart => exact ⟨0, 0, 0, Nat.zero_le _, rfl, rfl, by omega, by omega, hid (by simp)⟩
    case round =>
      obtain ⟨k, v, d, hk, rfl, rfl, hv0, hv1, hR⟩ := hrel
      by_cases hlt : k < s.size
      · obtain ⟨c, hc⟩ : ∃ c : Int, c = ((s[k]'hlt).toNat : Int) := ⟨_, rfl⟩
        have hcr := allD_at HD.out k hlt
        have hc48 : 48 ≤ c := by omega
        have hc57 : c ≤ 57 := by omega
        have hN : Hid (val 0 (bs s) = val (10 * v + (c - 48)).toNat ((bs s).drop (k + 1))) := hid (by
          rw [hR.out, bs_drop s k hlt, val_cons]
          congr 1
          omega)
        have hkl : (k : Int) < s.size := by omega
        have hw1 : IntKind.i64.wrap (c - 48) = c - 48 := by rw [IntKind.wrap_i64]; omega
        replace hc := hc.symm
        clear hcr hR
        by_cases hbig : 922337203685477580 < v
        · have hb' : -v < -922337203685477580 := by omega
          have E : Hid (r = 0 ∧ ok = false) := hid (by
            rcases hr.out with ⟨h, _⟩ | ⟨_, h⟩
            · have := val_ge ((bs s).drop (k + 1)) (10 * v + (c - 48)).toNat
              rw [← hN.out] at this
              omega
            · exact h)
          obtain ⟨rfl, rfl⟩ := E.out
          clear hN hbig hr E
          go_wp2
          go_ret2
          exact ⟨rfl, rfl⟩
        · have hb' : ¬ -v < -922337203685477580 := by omega
          by_cases heq : v = 922337203685477580 ∧ 56 < c
          · have heq1 : -v = -922337203685477580 := by omega
            have heq2 : 8 < c - 48 := by omega
            have E : Hid (r = 0 ∧ ok = false) := hid (by
              rcases hr.out with ⟨h, _⟩ | ⟨_, h⟩
              · have := val_ge ((bs s).drop (k + 1)) (10 * v + (c - 48)).toNat
                rw [← hN.out] at this
                omega
              · exact h)
            obtain ⟨rfl, rfl⟩ := E.out
            clear hN hbig hr E heq
            go_wp2
            go_ret2
            exact ⟨rfl, rfl⟩
          · have hm1 : IntKind.i64.wrap (10 * (-v)) = 10 * (-v) := by rw [IntKind.wrap_i64]; omega
            have hm2 : IntKind.i64.wrap (10 * (-v) - (c - 48)) = 10 * (-v) - (c - 48) := by rw [IntKind.wrap_i64]; omega
            by_cases hv : v = 922337203685477580
            · have heq1 : -v = -922337203685477580 := by omega
              have heq2 : ¬ 8 < c - 48 := by omega
              clear hbig heq
              go_wp2
              go_round
              case rel => exact ⟨k + 1, 10 * v + (c - 48), 0, by omega, by go_num, by go_num, by omega, by omega, hN⟩
              case measure => simp [RowKit.intOf]; omega
            · have heq1 : ¬ -v = -922337203685477580 := by omega
              clear hbig heq
              go_wp2
              go_round
              case rel => exact ⟨k + 1, 10 * v + (c - 48), 0, by omega, by go_num, by go_num, by omega, by omega, hN⟩
              case measure => simp [RowKit.intOf]; omega
      · have E : Hid (r = -v ∧ ok = true) := hid (by
          have e := hR.out
          rw [bs_drop_end s k hlt, val_nil] at e
          rcases hr.out with ⟨_, h, h'⟩ | ⟨h, _⟩
          · exact ⟨by rw [h, e]; omega, h'⟩
          · omega)
        obtain ⟨rfl, rfl⟩ := E.out
        have hkl : ¬ (k : Int) < s.size := by omega
        clear hR E hr
        go_wp2
        go_ret2
        exact ⟨rfl, rfl⟩

theorem size_pos {s : ByteArray} (h : bs s ≠ []) : 0 < s.size := by
  rw [← bs_len]
  cases hb : bs s with
  | nil => exact absurd hb h
  | cons c r => simp

set_option maxHeartbeats 4000000 in
set_option maxRecDepth 20000 in
/-- Below. -/
theorem below_ok (s : ByteArray) (hs : s.size ≤ 281474976710656) (w : World) (r : Int) (ok : Bool)
    (hr : (∃ u, nat63 (bs s) = some u ∧ r = -(u : Int) ∧ ok = true) ∨ nat63 (bs s) = none ∧ r = 0 ∧ ok = false) :
    Calls Tryz.prog 159 #[.string s] w fun e w' => e = .returned (.tuple #[.int .i64 r, .bool ok]) ∧ w' = w := by
  have hon := only_ok s hs w
  by_cases ho : onlyOf (bs s) = true
  · have ho' := ho
    unfold onlyOf at ho'
    rw [Bool.and_eq_true, decide_eq_true_eq] at ho'
    obtain ⟨hd, hne⟩ := ho'
    have hp := size_pos hne
    by_cases hz : (bs s).head? = some 48 ∧ 1 < (bs s).length
    · have hn : nat63 (bs s) = none := by unfold nat63; rw [if_neg]; exact fun h => h.2.2.1 hz
      obtain ⟨u, hu, _⟩ | ⟨_, rfl, rfl⟩ := hr
      · rw [hn] at hu; cases hu
      have h0 : ((s[0]'hp).toNat : Int) = 48 := by
        have := hz.1
        rw [bs_head s hp] at this
        injection this with this
        rw [this]; rfl
      have h1 : (1 : Int) < s.size := by have := hz.2; rw [bs_len] at this; omega
      have hne' : (0 : Int) < s.size := by omega
      rw [ho] at hon
      clear ho hd hne hz hn
      go_enter Tryz.func159, Tryz.ntmps159
      go_wp2_with (go_at_call 160; refine hon.mono ?_; rintro e w' ⟨rfl, hw⟩; obtain rfl := hw.symm)
      go_ret2
      exact ⟨rfl, rfl⟩
    · refine below_walk s hs hd hp hz w r ok (hid ?_)
      by_cases hv : val 0 (bs s) ≤ 9223372036854775808
      · have hn : nat63 (bs s) = some (val 0 (bs s)) := by unfold nat63; rw [if_pos ⟨hne, hd, hz, hv⟩]
        obtain ⟨u, hu, h1, h2⟩ | ⟨h, _⟩ := hr
        · rw [hn] at hu
          injection hu with hu
          exact Or.inl ⟨hv, by rw [hu]; exact h1, h2⟩
        · rw [hn] at h; cases h
      · have hn : nat63 (bs s) = none := by unfold nat63; rw [if_neg]; exact fun h => hv h.2.2.2
        obtain ⟨u, hu, _⟩ | ⟨_, h⟩ := hr
        · rw [hn] at hu; cases hu
        · exact Or.inr ⟨hv, h⟩
  · have hn : nat63 (bs s) = none := by
      unfold nat63
      rw [if_neg]
      intro h
      apply ho
      unfold onlyOf
      rw [h.2.1, Bool.true_and, decide_eq_true_eq]
      exact h.1
    obtain ⟨u, hu, _⟩ | ⟨_, rfl, rfl⟩ := hr
    · rw [hn] at hu; cases hu
    rw [Bool.not_eq_true] at ho
    rw [ho] at hon
    clear ho hn
    go_enter Tryz.func159, Tryz.ntmps159
    go_wp2_with (go_at_call 160; refine hon.mono ?_; rintro e w' ⟨rfl, hw⟩; obtain rfl := hw.symm)
    go_ret2
    exact ⟨rfl, rfl⟩

/-- Number, the document's. -/
theorem rnumber_ok (s : ByteArray) (hs : s.size ≤ 281474976710656) (w : World) (r : Int) (ok : Bool)
    (hr : r = match nat63 (bs s) with | some u => if u ≤ 9223372036854775807 then (u : Int) else 0 | none => 0)
    (hk : ok = match nat63 (bs s) with | some u => decide (u ≤ 9223372036854775807) | none => false) :
    Calls Tryz.prog 129 #[.string s] w fun e w' => e = .returned (.tuple #[.int .i64 r, .bool ok]) ∧ w' = w := by
  cases hn : nat63 (bs s) with
  | none =>
    rw [hn] at hr hk
    subst hr hk
    have hb := below_ok s hs w 0 false (Or.inr ⟨hn, rfl, rfl⟩)
    clear hn
    go_enter Tryz.func129, Tryz.ntmps129
    go_wp2_with (go_at_call 159; refine hb.mono ?_; rintro e w' ⟨rfl, hw⟩; obtain rfl := hw.symm)
    go_ret2
    exact ⟨rfl, rfl⟩
  | some u =>
    rw [hn] at hr hk
    have hb := below_ok s hs w (-(u : Int)) true (Or.inl ⟨u, hn, rfl, rfl⟩)
    have hm := (nat63_some hn).2.2.2.2
    clear hn
    by_cases hu : u ≤ 9223372036854775807
    · simp only [if_pos hu, decide_eq_true hu] at hr hk
      subst hr hk
      have h1 : ¬ -(u : Int) < -9223372036854775807 := by omega
      have h2 : IntKind.i64.wrap (u : Int) = u := by rw [IntKind.wrap_i64]; omega
      clear hu hm
      go_enter Tryz.func129, Tryz.ntmps129
      go_wp2_with (go_at_call 159; refine hb.mono ?_; rintro e w' ⟨rfl, hw⟩; obtain rfl := hw.symm)
      go_ret2
      exact ⟨rfl, rfl⟩
    · simp only [if_neg hu, decide_eq_false hu] at hr hk
      subst hr hk
      have h1 : -(u : Int) < -9223372036854775807 := by omega
      clear hu hm
      go_enter Tryz.func129, Tryz.ntmps129
      go_wp2_with (go_at_call 159; refine hb.mono ?_; rintro e w' ⟨rfl, hw⟩; obtain rfl := hw.symm)
      go_ret2
      exact ⟨rfl, rfl⟩

end Go.Proofs.YthnaanjhmehgcaaGreatDoor

/-
  The document's own reading of times: what it answers.
  Conditions: strings of at most 2^48 bytes.
-/
namespace Go.Proofs.YthnaanjhmehgcaaGreatDoor
open Go.ChangeShapes Go.WideShapes Go.ChangeAt Go.RowKit Go.Lib Go.Sort

/-- The time of seconds and billionths behind a sign. -/
def resOf (m : Bool) (v : Option (Nat × Nat)) : Option (Int × Int) :=
  match v with
  | none => none
  | some (u, p) => if m = true then underOf u p else if 9223372036854775807 < u then none else some ((u : Int), (p : Int))

theorem ahead_hit {c : UInt8} (h : c = 46) (l : List UInt8) : ahead (c :: l) = [] := by
  subst h; unfold ahead; rw [List.takeWhile_cons]; rfl
theorem ahead_miss {c : UInt8} (h : c ≠ 46) (l : List UInt8) : ahead (c :: l) = c :: ahead l := by
  unfold ahead; rw [List.takeWhile_cons, if_pos (by simpa [bne] using h)]
theorem ahead_take (l : List UInt8) : l.take (ahead l).length = ahead l := by
  induction l with
  | nil => rfl
  | cons c r ih =>
    by_cases h : c = 46
    · rw [ahead_hit h]; rfl
    · rw [ahead_miss h, List.length_cons, List.take_succ_cons, ih]
theorem pointed_iff (l : List UInt8) : pointed l = decide ((ahead l).length < l.length) := by
  induction l with
  | nil => rfl
  | cons c r ih =>
    by_cases h : c = 46
    · rw [ahead_hit h]; subst h; unfold pointed; simp
    · rw [ahead_miss h]
      unfold pointed at *
      rw [List.contains_cons, ih, show ((46 : UInt8) == c) = false by cases h' : ((46 : UInt8) == c); rfl; exact absurd (eq_of_beq h').symm h, Bool.false_or, List.length_cons, List.length_cons]
      congr 1
      simp
theorem behind_drop (l : List UInt8) : behind l = l.drop ((ahead l).length + 1) := by
  induction l with
  | nil => rfl
  | cons c r ih =>
    by_cases h : c = 46
    · rw [ahead_hit h]; subst h; unfold behind; rw [List.dropWhile_cons]; rfl
    · rw [ahead_miss h, List.length_cons, List.drop_succ_cons, ← ih]
      unfold behind
      rw [List.dropWhile_cons, if_pos (by simpa [bne] using h)]

/-- Nine digits, noughts behind those that are there. -/
def pz (l : List UInt8) (j : Nat) : Nat := val 0 (l.take j) * 10 ^ (j - l.length)
theorem pz_zero (l : List UInt8) : pz l 0 = 0 := by unfold pz; rw [List.take_zero, val_nil, Nat.zero_mul]
theorem pz_in (s : ByteArray) (j : Nat) (h : j < s.size) : pz (bs s) (j + 1) = 10 * pz (bs s) j + ((s[j]'h).toNat - 48) := by
  have hl : j < (bs s).length := by rw [bs_len]; exact h
  unfold pz
  rw [show j + 1 - (bs s).length = 0 by omega, show j - (bs s).length = 0 by omega, Nat.pow_zero, Nat.mul_one, Nat.mul_one, List.take_add_one, bs_at s j h, val_app, Option.toList_some, val_cons, val_nil]
  omega
theorem pz_out (s : ByteArray) (j : Nat) (h : ¬ j < s.size) : pz (bs s) (j + 1) = 10 * pz (bs s) j := by
  have hl : (bs s).length ≤ j := by rw [bs_len]; omega
  unfold pz
  rw [List.take_of_length_le (by omega), List.take_of_length_le hl, show j + 1 - (bs s).length = j - (bs s).length + 1 by omega, Nat.pow_succ]
  rw [← Nat.mul_assoc, Nat.mul_comm 10]
theorem allD_take {l : List UInt8} (h : allD l = true) (k : Nat) : allD (l.take k) = true := by
  rw [← List.take_append_drop k l, allD_app, Bool.and_eq_true] at h
  exact h.1
theorem pz_lt (l : List UInt8) (hd : allD l = true) (j : Nat) : pz l j < 10 ^ j := by
  unfold pz
  have h1 := val_lt _ (allD_take hd j)
  rw [List.length_take] at h1
  have h2 : 10 ^ j = 10 ^ (min j l.length) * 10 ^ (j - l.length) := by rw [← Nat.pow_add]; congr 1; omega
  rw [h2]
  exact Nat.mul_lt_mul_of_pos_right h1 (Nat.pow_pos (by omega))
theorem pz_le (l : List UInt8) (hd : allD l = true) (j : Nat) (hj : j ≤ 9) : pz l j ≤ 1000000000 :=
  Nat.le_trans (Nat.le_of_lt (pz_lt l hd j)) (Nat.pow_le_pow_right (n := 10)  (by omega) hj)
theorem pz_nine (l : List UInt8) (hd : allD l = true) (h1 : 1 ≤ l.length) (h9 : l.length ≤ 9) : billion l = some (pz l 9) := by
  unfold billion pz
  rw [if_pos ⟨hd, h1, h9⟩, List.take_of_length_le h9]

set_option maxHeartbeats 4000000 in
set_option maxRecDepth 20000 in
theorem rtime_e (s : ByteArray) (hp : ¬ 0 < s.size) (w : World) (a b : Int) (ok : Bool) (h : a = 0 ∧ b = 0 ∧ ok = false) :
    Calls Tryz.prog 130 #[.string s] w fun e w' => e = .returned (.tuple #[.agg #[.int .i64 a, .int .i64 b], .bool ok]) ∧ Below w.heap.size w w' := by
  obtain ⟨rfl, rfl, rfl⟩ := h
  have hbe : bs s = [] := by rw [← List.length_eq_zero_iff, bs_len]; omega
  obtain rfl : s = ⟨#[]⟩ := by rw [← txt_bs s, hbe]; rfl
  have hbel := fun w => below_ok ⟨#[]⟩ (by decide) w 0 false (Or.inr ⟨rfl, rfl, rfl⟩)
  clear hp hbe
  go_enter Tryz.func130, Tryz.ntmps130
  go_wp2
  refine wp_loop_rounds 1 ?_
  rw [rounds_succ]
  go_wp2_with (first | (go_at_call 159; refine (hbel _).mono ?_; rintro e w' ⟨rfl, hw⟩; obtain rfl := hw.symm))
  refine bodyPost_ret (v := .tuple #[.agg #[.int .i64 0, .int .i64 0], .bool false]) ?_ rfl ⟨rfl, below_alloc _ _⟩
  simp [results, Tryz.results130, go_sem]

set_option maxHeartbeats 16000000 in
set_option maxRecDepth 20000 in
theorem rtime_p (s : ByteArray) (hs : s.size ≤ 281474976710656) (hm : ¬ (bs s).head? = some 45) (w : World) (a b : Int) (ok : Bool)
    (hres : Hid (resOf false (valueOf (bs s)) = some (a, b) ∧ ok = true ∨ resOf false (valueOf (bs s)) = none ∧ a = 0 ∧ b = 0 ∧ ok = false)) :
    Calls Tryz.prog 130 #[.string s] w fun e w' => e = .returned (.tuple #[.agg #[.int .i64 a, .int .i64 b], .bool ok]) ∧ Below w.heap.size w w' := by
  have hTs := hs
  obtain ⟨A, hA⟩ : ∃ A, txt (ahead (bs s)) = A := ⟨_, rfl⟩
  have hAb : Hid (bs A = ahead (bs s)) := hid (by rw [← hA, bs_txt])
  have hAs : A.size ≤ 281474976710656 := by rw [← hA]; exact Nat.le_trans (size_ahead s) hTs
  have hpt : Hid (pointed (bs s) = decide ((ahead (bs s)).length < s.size)) := hid (by rw [pointed_iff, bs_len])
  have hlen : Hid ((ahead (bs s)).length ≤ s.size) := hid (by rw [← bs_len]; exact ahead_len _)
  have hA' := hid hA
  clear hA
  cases hn0 : nat63 (bs A) with
  | none =>
    have hbel := fun w => below_ok A hAs w 0 false (Or.inr ⟨hn0, rfl, rfl⟩)
    have hn := hid hn0
    clear hn0
    by_cases hp : 0 < s.size
    · have hp' : (0 : Int) < s.size := by omega
      have hc0 : ¬ ((s[0]'hp).toNat : Int) = 45 := fun e => hm (by rw [bs_head s hp]; congr 1; apply UInt8.toNat_inj.1; rw [show ((45 : UInt8).toNat) = 45 from rfl]; omega)
      go_enter Tryz.func130, Tryz.ntmps130
      go_wp2
      go_loop [5, 6] (fun p i => ∃ (x : Int) (q : Nat), -1 ≤ x ∧ x < s.size ∧ i = .int .i64 x ∧ p = .int .i64 q ∧ q ≤ s.size ∧ Hid (q = (x + 1).toNat + (ahead ((bs s).drop (x + 1).toNat)).length)) (fun _ i => (RowKit.intOf i + 1).toNat)
      case atStart => exact ⟨(s.size : Int) - 1, s.size, by omega, by omega, by go_num, rfl, Nat.le_refl _, hid (by rw [show ((s.size : Int) - 1 + 1).toNat = s.size by omega, bs_drop_end s s.size (by omega)]; rfl)⟩
      case round =>
        obtain ⟨x, q, hx0, hx1, rfl, rfl, hq, hR⟩ := hrel
        by_cases h0 : 0 ≤ x
        · obtain ⟨j, rfl⟩ : ∃ j : Nat, x = j := ⟨x.toNat, by omega⟩
          have hjl : j < s.size := by omega
          obtain ⟨c, hc⟩ : ∃ c : Int, c = ((s[j]'hjl).toNat : Int) := ⟨_, rfl⟩
          have hdr := bs_drop s j hjl
          rw [show ((j : Int) + 1).toNat = j + 1 by omega] at hR
          have hji : (j : Int) < s.size := by omega
          have hc' := hid hc
          replace hc := hc.symm
          by_cases h46 : c = 46
          · have hN : Hid (j = ((j : Int) - 1 + 1).toNat + (ahead ((bs s).drop ((j : Int) - 1 + 1).toNat)).length) := hid (by
              rw [show ((j : Int) - 1 + 1).toNat = j by omega, hdr, ahead_hit (UInt8.toNat_inj.1 (by rw [show ((46 : UInt8).toNat) = 46 from rfl]; have := hc'.out; omega))]; rfl)
            clear hdr hR hc'
            go_wp2
            go_round
            case rel => exact ⟨(j : Int) - 1, j, by omega, by omega, by go_num, rfl, by omega, hN⟩
            case measure => simp [RowKit.intOf]; try omega
          · have hN : Hid (q = ((j : Int) - 1 + 1).toNat + (ahead ((bs s).drop ((j : Int) - 1 + 1).toNat)).length) := hid (by
              rw [show ((j : Int) - 1 + 1).toNat = j by omega, hdr, ahead_miss (fun e => h46 (by have := hc'.out; rw [e] at this; exact this)), List.length_cons]; have := hR.out; omega)
            clear hdr hR hc'
            go_wp2
            go_round
            case rel => exact ⟨(j : Int) - 1, q, by omega, by omega, by go_num, rfl, hq, hN⟩
            case measure => simp [RowKit.intOf]; try omega
        · obtain rfl : x = -1 := by omega
          have E : Hid (q = (ahead (bs s)).length) := hid (by have := hR.out; simpa using this)
          clear hR h0 hx0 hx1
          have hx : s.extract 0 q = A := by rw [ext_upto, E.out, ahead_take]; exact hA'.out
          have hq0 : (0 : Int) ≤ q := by omega
          have hq1 : (q : Int) ≤ s.size := by omega
          by_cases hpq : q < s.size
          · have hPT : Hid (pointed (bs s) = true) := hid (by rw [hpt.out, ← E.out, decide_eq_true hpq])
            obtain ⟨M, hM⟩ : ∃ M, s.extract (q + 1) s.size = M := ⟨_, rfl⟩
            have hMb : Hid (bs M = behind (bs s)) := hid (by rw [← hM, ext_from, bs_txt, behind_drop, E.out])
            have hMs : M.size ≤ 281474976710656 := by rw [← bs_len, hMb.out, behind_drop, List.length_drop, bs_len]; omega
            have hqi : (q : Int) < s.size := by omega
            have hqi1 : (q : Int) + 1 ≤ s.size := by omega
            have hqi2 : (0 : Int) ≤ (q : Int) + 1 := by omega
            have hon := fun w => only_ok M hMs w
            by_cases hon1 : onlyOf (bs M) = true
            · have hd := hon1
              unfold onlyOf at hd
              rw [Bool.and_eq_true, decide_eq_true_eq] at hd
              obtain ⟨hd, hne⟩ := hd
              have hMp := size_pos hne
              rw [hon1] at hon
              by_cases h9 : M.size ≤ 9
              · have h9i : ¬ (9 : Int) < M.size := by omega
                have hB : Hid (billion (behind (bs s)) = some (pz (bs M) 9)) := hid (by rw [← hMb.out]; exact pz_nine _ hd (by rw [bs_len]; omega) (by rw [bs_len]; exact h9))
                have HD := hid hd
                have hV : Hid (valueOf (bs s) = none) := hid (by unfold valueOf; rw [← hAb.out, hn.out, hPT.out, hB.out]; try rfl)
                have hpl : Hid (pz (bs M) 9 < 1000000000) := hid (pz_lt _ hd 9)
                clear hd hne hon1 hB hPT
                go_wp2_with (first | (go_at_call 159; refine (hbel _).mono ?_; rintro e w' ⟨rfl, hw⟩; obtain rfl := hw.symm) | (go_at_call 160; refine (hon _).mono ?_; rintro e w' ⟨rfl, hw⟩; obtain rfl := hw.symm))
                go_loop [9, 11] (fun n i => ∃ (j : Nat) (v : Int), j ≤ 9 ∧ i = .int .i64 j ∧ n = .int .i64 v ∧ 0 ≤ v ∧ v ≤ 1000000000 ∧ Hid (v = (pz (bs M) j : Nat))) (fun _ i => 9 - (RowKit.intOf i).toNat)
                case atStart => exact ⟨0, 0, by omega, rfl, rfl, by omega, by omega, hid (by rw [pz_zero]; rfl)⟩
                case round =>
                  obtain ⟨j, v, hj, rfl, rfl, hv0, hv1, hPZ⟩ := hrel
                  by_cases hj9 : j < 9
                  · have hji : (j : Int) < 9 := by omega
                    have m1 : IntKind.i64.wrap (10 * v) = 10 * v := by rw [IntKind.wrap_i64]; omega
                    by_cases hjl : j < M.size
                    · obtain ⟨c, hc⟩ : ∃ c : Int, c = ((M[j]'hjl).toNat : Int) := ⟨_, rfl⟩
                      have hcr := allD_at HD.out j hjl
                      have hc48 : 48 ≤ c := by omega
                      have hc57 : c ≤ 57 := by omega
                      have hN : Hid (10 * v + c - 48 = (pz (bs M) (j + 1) : Nat)) := hid (by rw [pz_in M j hjl]; have := hPZ.out; omega)
                      have hNl : 10 * v + c - 48 ≤ 1000000000 := by rw [hN.out]; have := pz_le _ HD.out (j + 1) (by omega); omega
                      have m2 : IntKind.i64.wrap (10 * v + c) = 10 * v + c := by rw [IntKind.wrap_i64]; omega
                      have m3 : IntKind.i64.wrap (10 * v + c - 48) = 10 * v + c - 48 := by rw [IntKind.wrap_i64]; omega
                      have hjm : (j : Int) < M.size := by omega
                      replace hc := hc.symm
                      clear hcr hPZ
                      go_wp2
                      go_round
                      case rel => exact ⟨j + 1, 10 * v + c - 48, by omega, by go_num, by go_num, by omega, hNl, hN⟩
                      case measure => simp [RowKit.intOf]; omega
                    · have hN : Hid (10 * v = (pz (bs M) (j + 1) : Nat)) := hid (by rw [pz_out M j hjl]; have := hPZ.out; omega)
                      have hNl : 10 * v ≤ 1000000000 := by rw [hN.out]; have := pz_le _ HD.out (j + 1) (by omega); omega
                      have hjm : ¬ (j : Int) < M.size := by omega
                      clear hPZ
                      go_wp2
                      go_round
                      case rel => exact ⟨j + 1, 10 * v, by omega, by go_num, by go_num, by omega, hNl, hN⟩
                      case measure => simp [RowKit.intOf]; omega
                  · obtain rfl : j = 9 := by omega
                    have hvl : v < 1000000000 := by have h1 := hPZ.out; have h2 := hpl.out; omega
                    generalize hpp : pz (bs M) 9 = p at *
                    have hPi := hPZ.out
                    clear hPZ hpp hj9
                    have hR := hres.out
                    rw [hV.out] at hR
                    obtain ⟨hR, _⟩ | ⟨_, rfl, rfl, rfl⟩ := hR
                    · cases hR
                    clear hV
                    go_wp2
                    refine bodyPost_ret (v := .tuple #[.agg #[.int .i64 0, .int .i64 0], .bool false]) ?_ rfl ⟨rfl, below_alloc _ _⟩
                    simp [results, Tryz.results130, go_sem]
              · have h9i : (9 : Int) < M.size := by omega
                have hV : Hid (valueOf (bs s) = none) := hid (by unfold valueOf; rw [← hAb.out, hn.out, hPT.out, show billion (behind (bs s)) = none by rw [← hMb.out]; unfold billion; rw [if_neg]; intro h; have := h.2.2; rw [bs_len] at this; omega]; try rfl)
                have hR := hres.out
                rw [hV.out] at hR
                obtain ⟨hR, _⟩ | ⟨_, rfl, rfl, rfl⟩ := hR
                · cases hR
                clear hV
                go_wp2_with (first | (go_at_call 159; refine (hbel _).mono ?_; rintro e w' ⟨rfl, hw⟩; obtain rfl := hw.symm) | (go_at_call 160; refine (hon _).mono ?_; rintro e w' ⟨rfl, hw⟩; obtain rfl := hw.symm))
                refine bodyPost_ret (v := .tuple #[.agg #[.int .i64 0, .int .i64 0], .bool false]) ?_ rfl ⟨rfl, below_alloc _ _⟩
                simp [results, Tryz.results130, go_sem]
            · have hV : Hid (valueOf (bs s) = none) := hid (by unfold valueOf; rw [← hAb.out, hn.out, hPT.out, show billion (behind (bs s)) = none by rw [← hMb.out]; unfold billion; rw [if_neg]; intro h; apply hon1; unfold onlyOf; rw [h.1, Bool.true_and, decide_eq_true_eq]; intro e; have := h.2.1; rw [e] at this; simp at this]; try rfl)
              rw [Bool.not_eq_true] at hon1
              rw [hon1] at hon
              have hR := hres.out
              rw [hV.out] at hR
              obtain ⟨hR, _⟩ | ⟨_, rfl, rfl, rfl⟩ := hR
              · cases hR
              clear hV
              go_wp2_with (first | (go_at_call 159; refine (hbel _).mono ?_; rintro e w' ⟨rfl, hw⟩; obtain rfl := hw.symm) | (go_at_call 160; refine (hon _).mono ?_; rintro e w' ⟨rfl, hw⟩; obtain rfl := hw.symm))
              refine bodyPost_ret (v := .tuple #[.agg #[.int .i64 0, .int .i64 0], .bool false]) ?_ rfl ⟨rfl, below_alloc _ _⟩
              simp [results, Tryz.results130, go_sem]
          · obtain rfl : q = s.size := by omega
            have hPT : Hid (pointed (bs s) = false) := hid (by rw [hpt.out, ← E.out]; simp)
            have hV : Hid (valueOf (bs s) = none) := hid (by unfold valueOf; rw [← hAb.out, hn.out, hPT.out]; try rfl)
            clear hPT hpq
            have hR := hres.out
            rw [hV.out] at hR
            obtain ⟨hR, _⟩ | ⟨_, rfl, rfl, rfl⟩ := hR
            · cases hR
            clear hV
            go_wp2_with (first | (go_at_call 159; refine (hbel _).mono ?_; rintro e w' ⟨rfl, hw⟩; obtain rfl := hw.symm))
            refine bodyPost_ret (v := .tuple #[.agg #[.int .i64 0, .int .i64 0], .bool false]) ?_ rfl ⟨rfl, below_alloc _ _⟩
            simp [results, Tryz.results130, go_sem]
    · refine rtime_e s hp w a b ok ?_
      have hbe : bs s = [] := by rw [← List.length_eq_zero_iff, bs_len]; omega
      have hR := hres.out
      rw [hbe] at hR
      obtain ⟨hR, _⟩ | ⟨_, h⟩ := hR
      · cases hR
      · exact h
  | some u =>
    have hbel := fun w => below_ok A hAs w (-(u : Int)) true (Or.inl ⟨u, hn0, rfl, rfl⟩)
    have hu63 := (nat63_some hn0).2.2.2.2
    have hn := hid hn0
    clear hn0
    by_cases hp : 0 < s.size
    · have hp' : (0 : Int) < s.size := by omega
      have hc0 : ¬ ((s[0]'hp).toNat : Int) = 45 := fun e => hm (by rw [bs_head s hp]; congr 1; apply UInt8.toNat_inj.1; rw [show ((45 : UInt8).toNat) = 45 from rfl]; omega)
      go_enter Tryz.func130, Tryz.ntmps130
      go_wp2
      go_loop [5, 6] (fun p i => ∃ (x : Int) (q : Nat), -1 ≤ x ∧ x < s.size ∧ i = .int .i64 x ∧ p = .int .i64 q ∧ q ≤ s.size ∧ Hid (q = (x + 1).toNat + (ahead ((bs s).drop (x + 1).toNat)).length)) (fun _ i => (RowKit.intOf i + 1).toNat)
      case atStart => exact ⟨(s.size : Int) - 1, s.size, by omega, by omega, by go_num, rfl, Nat.le_refl _, hid (by rw [show ((s.size : Int) - 1 + 1).toNat = s.size by omega, bs_drop_end s s.size (by omega)]; rfl)⟩
      case round =>
        obtain ⟨x, q, hx0, hx1, rfl, rfl, hq, hR⟩ := hrel
        by_cases h0 : 0 ≤ x
        · obtain ⟨j, rfl⟩ : ∃ j : Nat, x = j := ⟨x.toNat, by omega⟩
          have hjl : j < s.size := by omega
          obtain ⟨c, hc⟩ : ∃ c : Int, c = ((s[j]'hjl).toNat : Int) := ⟨_, rfl⟩
          have hdr := bs_drop s j hjl
          rw [show ((j : Int) + 1).toNat = j + 1 by omega] at hR
          have hji : (j : Int) < s.size := by omega
          have hc' := hid hc
          replace hc := hc.symm
          by_cases h46 : c = 46
          · have hN : Hid (j = ((j : Int) - 1 + 1).toNat + (ahead ((bs s).drop ((j : Int) - 1 + 1).toNat)).length) := hid (by
              rw [show ((j : Int) - 1 + 1).toNat = j by omega, hdr, ahead_hit (UInt8.toNat_inj.1 (by rw [show ((46 : UInt8).toNat) = 46 from rfl]; have := hc'.out; omega))]; rfl)
            clear hdr hR hc'
            go_wp2
            go_round
            case rel => exact ⟨(j : Int) - 1, j, by omega, by omega, by go_num, rfl, by omega, hN⟩
            case measure => simp [RowKit.intOf]; try omega
          · have hN : Hid (q = ((j : Int) - 1 + 1).toNat + (ahead ((bs s).drop ((j : Int) - 1 + 1).toNat)).length) := hid (by
              rw [show ((j : Int) - 1 + 1).toNat = j by omega, hdr, ahead_miss (fun e => h46 (by have := hc'.out; rw [e] at this; exact this)), List.length_cons]; have := hR.out; omega)
            clear hdr hR hc'
            go_wp2
            go_round
            case rel => exact ⟨(j : Int) - 1, q, by omega, by omega, by go_num, rfl, hq, hN⟩
            case measure => simp [RowKit.intOf]; try omega
        · obtain rfl : x = -1 := by omega
          have E : Hid (q = (ahead (bs s)).length) := hid (by have := hR.out; simpa using this)
          clear hR h0 hx0 hx1
          have hx : s.extract 0 q = A := by rw [ext_upto, E.out, ahead_take]; exact hA'.out
          have hq0 : (0 : Int) ≤ q := by omega
          have hq1 : (q : Int) ≤ s.size := by omega
          by_cases hpq : q < s.size
          · have hPT : Hid (pointed (bs s) = true) := hid (by rw [hpt.out, ← E.out, decide_eq_true hpq])
            obtain ⟨M, hM⟩ : ∃ M, s.extract (q + 1) s.size = M := ⟨_, rfl⟩
            have hMb : Hid (bs M = behind (bs s)) := hid (by rw [← hM, ext_from, bs_txt, behind_drop, E.out])
            have hMs : M.size ≤ 281474976710656 := by rw [← bs_len, hMb.out, behind_drop, List.length_drop, bs_len]; omega
            have hqi : (q : Int) < s.size := by omega
            have hqi1 : (q : Int) + 1 ≤ s.size := by omega
            have hqi2 : (0 : Int) ≤ (q : Int) + 1 := by omega
            have hon := fun w => only_ok M hMs w
            by_cases hon1 : onlyOf (bs M) = true
            · have hd := hon1
              unfold onlyOf at hd
              rw [Bool.and_eq_true, decide_eq_true_eq] at hd
              obtain ⟨hd, hne⟩ := hd
              have hMp := size_pos hne
              rw [hon1] at hon
              by_cases h9 : M.size ≤ 9
              · have h9i : ¬ (9 : Int) < M.size := by omega
                have hB : Hid (billion (behind (bs s)) = some (pz (bs M) 9)) := hid (by rw [← hMb.out]; exact pz_nine _ hd (by rw [bs_len]; omega) (by rw [bs_len]; exact h9))
                have HD := hid hd
                have hV : Hid (valueOf (bs s) = some (u, pz (bs M) 9)) := hid (by unfold valueOf; rw [← hAb.out, hn.out, hPT.out, hB.out]; try rfl)
                have hpl : Hid (pz (bs M) 9 < 1000000000) := hid (pz_lt _ hd 9)
                clear hd hne hon1 hB hPT
                go_wp2_with (first | (go_at_call 159; refine (hbel _).mono ?_; rintro e w' ⟨rfl, hw⟩; obtain rfl := hw.symm) | (go_at_call 160; refine (hon _).mono ?_; rintro e w' ⟨rfl, hw⟩; obtain rfl := hw.symm))
                go_loop [9, 11] (fun n i => ∃ (j : Nat) (v : Int), j ≤ 9 ∧ i = .int .i64 j ∧ n = .int .i64 v ∧ 0 ≤ v ∧ v ≤ 1000000000 ∧ Hid (v = (pz (bs M) j : Nat))) (fun _ i => 9 - (RowKit.intOf i).toNat)
                case atStart => exact ⟨0, 0, by omega, rfl, rfl, by omega, by omega, hid (by rw [pz_zero]; rfl)⟩
                case round =>
                  obtain ⟨j, v, hj, rfl, rfl, hv0, hv1, hPZ⟩ := hrel
                  by_cases hj9 : j < 9
                  · have hji : (j : Int) < 9 := by omega
                    have m1 : IntKind.i64.wrap (10 * v) = 10 * v := by rw [IntKind.wrap_i64]; omega
                    by_cases hjl : j < M.size
                    · obtain ⟨c, hc⟩ : ∃ c : Int, c = ((M[j]'hjl).toNat : Int) := ⟨_, rfl⟩
                      have hcr := allD_at HD.out j hjl
                      have hc48 : 48 ≤ c := by omega
                      have hc57 : c ≤ 57 := by omega
                      have hN : Hid (10 * v + c - 48 = (pz (bs M) (j + 1) : Nat)) := hid (by rw [pz_in M j hjl]; have := hPZ.out; omega)
                      have hNl : 10 * v + c - 48 ≤ 1000000000 := by rw [hN.out]; have := pz_le _ HD.out (j + 1) (by omega); omega
                      have m2 : IntKind.i64.wrap (10 * v + c) = 10 * v + c := by rw [IntKind.wrap_i64]; omega
                      have m3 : IntKind.i64.wrap (10 * v + c - 48) = 10 * v + c - 48 := by rw [IntKind.wrap_i64]; omega
                      have hjm : (j : Int) < M.size := by omega
                      replace hc := hc.symm
                      clear hcr hPZ
                      go_wp2
                      go_round
                      case rel => exact ⟨j + 1, 10 * v + c - 48, by omega, by go_num, by go_num, by omega, hNl, hN⟩
                      case measure => simp [RowKit.intOf]; omega
                    · have hN : Hid (10 * v = (pz (bs M) (j + 1) : Nat)) := hid (by rw [pz_out M j hjl]; have := hPZ.out; omega)
                      have hNl : 10 * v ≤ 1000000000 := by rw [hN.out]; have := pz_le _ HD.out (j + 1) (by omega); omega
                      have hjm : ¬ (j : Int) < M.size := by omega
                      clear hPZ
                      go_wp2
                      go_round
                      case rel => exact ⟨j + 1, 10 * v, by omega, by go_num, by go_num, by omega, hNl, hN⟩
                      case measure => simp [RowKit.intOf]; omega
                  · obtain rfl : j = 9 := by omega
                    have hvl : v < 1000000000 := by have h1 := hPZ.out; have h2 := hpl.out; omega
                    generalize hpp : pz (bs M) 9 = p at *
                    have hPi := hPZ.out
                    clear hPZ hpp hj9
                    have hR := hres.out
                    rw [hV.out] at hR
                    unfold resOf at hR
                    simp only [Bool.false_eq_true, if_false] at hR
                    by_cases hbig : 9223372036854775807 < u
                    · rw [if_pos hbig] at hR
                      obtain ⟨hR, _⟩ | ⟨_, rfl, rfl, rfl⟩ := hR
                      · cases hR
                      have hub : -(u : Int) = -9223372036854775808 := by omega
                      clear hV hbig
                      go_wp2
                      refine bodyPost_ret (v := .tuple #[.agg #[.int .i64 0, .int .i64 0], .bool false]) ?_ rfl ⟨rfl, below_alloc _ _⟩
                      simp [results, Tryz.results130, go_sem]
                    · rw [if_neg hbig] at hR
                      obtain ⟨hR, rfl⟩ | ⟨hR, _⟩ := hR
                      · simp only [Option.some.injEq, Prod.mk.injEq] at hR
                        obtain ⟨ha, hb⟩ := hR
                        obtain rfl : a = u := ha.symm
                        obtain rfl : b = v := by omega
                        have hub : ¬ -(u : Int) = -9223372036854775808 := by omega
                        have hw1 : IntKind.i64.wrap (u : Int) = u := by rw [IntKind.wrap_i64]; omega
                        clear hV hbig ha hb hPi
                        go_wp2
                        refine bodyPost_ret (v := .tuple #[.agg #[.int .i64 (u : Int), .int .i64 b], .bool true]) ?_ rfl ⟨rfl, below_alloc _ _⟩
                        simp [results, Tryz.results130, go_sem]
                      · cases hR
              · have h9i : (9 : Int) < M.size := by omega
                have hV : Hid (valueOf (bs s) = none) := hid (by unfold valueOf; rw [← hAb.out, hn.out, hPT.out, show billion (behind (bs s)) = none by rw [← hMb.out]; unfold billion; rw [if_neg]; intro h; have := h.2.2; rw [bs_len] at this; omega]; try rfl)
                have hR := hres.out
                rw [hV.out] at hR
                obtain ⟨hR, _⟩ | ⟨_, rfl, rfl, rfl⟩ := hR
                · cases hR
                clear hV
                go_wp2_with (first | (go_at_call 159; refine (hbel _).mono ?_; rintro e w' ⟨rfl, hw⟩; obtain rfl := hw.symm) | (go_at_call 160; refine (hon _).mono ?_; rintro e w' ⟨rfl, hw⟩; obtain rfl := hw.symm))
                refine bodyPost_ret (v := .tuple #[.agg #[.int .i64 0, .int .i64 0], .bool false]) ?_ rfl ⟨rfl, below_alloc _ _⟩
                simp [results, Tryz.results130, go_sem]
            · have hV : Hid (valueOf (bs s) = none) := hid (by unfold valueOf; rw [← hAb.out, hn.out, hPT.out, show billion (behind (bs s)) = none by rw [← hMb.out]; unfold billion; rw [if_neg]; intro h; apply hon1; unfold onlyOf; rw [h.1, Bool.true_and, decide_eq_true_eq]; intro e; have := h.2.1; rw [e] at this; simp at this]; try rfl)
              rw [Bool.not_eq_true] at hon1
              rw [hon1] at hon
              have hR := hres.out
              rw [hV.out] at hR
              obtain ⟨hR, _⟩ | ⟨_, rfl, rfl, rfl⟩ := hR
              · cases hR
              clear hV
              go_wp2_with (first | (go_at_call 159; refine (hbel _).mono ?_; rintro e w' ⟨rfl, hw⟩; obtain rfl := hw.symm) | (go_at_call 160; refine (hon _).mono ?_; rintro e w' ⟨rfl, hw⟩; obtain rfl := hw.symm))
              refine bodyPost_ret (v := .tuple #[.agg #[.int .i64 0, .int .i64 0], .bool false]) ?_ rfl ⟨rfl, below_alloc _ _⟩
              simp [results, Tryz.results130, go_sem]
          · obtain rfl : q = s.size := by omega
            have hPT : Hid (pointed (bs s) = false) := hid (by rw [hpt.out, ← E.out]; simp)
            have hV : Hid (valueOf (bs s) = some (u, 0)) := hid (by unfold valueOf; rw [← hAb.out, hn.out, hPT.out]; try rfl)
            clear hPT hpq
            have hR := hres.out
            rw [hV.out] at hR
            unfold resOf at hR
            simp only [Bool.false_eq_true, if_false] at hR
            by_cases hbig : 9223372036854775807 < u
            · rw [if_pos hbig] at hR
              obtain ⟨hR, _⟩ | ⟨_, rfl, rfl, rfl⟩ := hR
              · cases hR
              have hub : -(u : Int) = -9223372036854775808 := by omega
              clear hV hbig
              go_wp2_with (first | (go_at_call 159; refine (hbel _).mono ?_; rintro e w' ⟨rfl, hw⟩; obtain rfl := hw.symm))
              refine bodyPost_ret (v := .tuple #[.agg #[.int .i64 0, .int .i64 0], .bool false]) ?_ rfl ⟨rfl, below_alloc _ _⟩
              simp [results, Tryz.results130, go_sem]
            · rw [if_neg hbig] at hR
              obtain ⟨hR, rfl⟩ | ⟨hR, _⟩ := hR
              · simp only [Option.some.injEq, Prod.mk.injEq] at hR
                obtain ⟨ha, hb⟩ := hR
                obtain rfl : a = u := ha.symm
                obtain rfl : b = 0 := hb.symm
                have hub : ¬ -(u : Int) = -9223372036854775808 := by omega
                have hw1 : IntKind.i64.wrap (u : Int) = u := by rw [IntKind.wrap_i64]; omega
                clear hV hbig ha hb
                go_wp2_with (first | (go_at_call 159; refine (hbel _).mono ?_; rintro e w' ⟨rfl, hw⟩; obtain rfl := hw.symm))
                refine bodyPost_ret (v := .tuple #[.agg #[.int .i64 (u : Int), .int .i64 0], .bool true]) ?_ rfl ⟨rfl, below_alloc _ _⟩
                simp [results, Tryz.results130, go_sem]
              · cases hR
    · have hbe : bs s = [] := by rw [← List.length_eq_zero_iff, bs_len]; omega
      have h1 := hn.out
      rw [hAb.out, hbe] at h1
      cases h1
end Go.Proofs.YthnaanjhmehgcaaGreatDoor
