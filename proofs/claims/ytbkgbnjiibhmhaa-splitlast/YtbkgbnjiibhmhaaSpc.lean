/-
  WHAT split's FUNCTIONS GIVE: whether a name fits, the last cut ahead of a place, the split. Conditions: the length.
-/
import Derived.Test.YtbkgbnjiibhmhaaProg
import Derived.Test.YtbkgbnjiibhmhaaSpl
import Derived.Laws.Cover1
namespace Go.Proofs.Ytbkgbnjiibhmhaa
open Go.ChangeShapes Go.WideShapes Go.ChangeAt Go.RowKit Go.Lib
set_option linter.unusedVariables false
set_option linter.unusedSimpArgs false
set_option maxRecDepth 20000

theorem most_ok (w : World) : Calls Try.prog 21 #[] w fun e w' => w' = w ∧ e = .returned (.int .i64 256) := by
  go_enter Try.func21, Try.ntmps21
  go_wp2
  go_ret
  exact ⟨rfl, rfl⟩

/-- whether a name fits -/
def fitB (s : ByteArray) : Bool := decide (1 ≤ s.size ∧ s.size ≤ 100)
theorem empty_of (s : ByteArray) (h : s.size = 0) : s = ⟨#[]⟩ := by
  apply ByteArray.ext
  have : s.data.size = 0 := h
  exact Array.eq_empty_of_size_eq_zero this
theorem toList_ne (s : ByteArray) (h : s.size ≠ 0) : ¬ s.toList = [] := by
  rw [Lib.toList_data]
  intro e
  apply h
  show s.data.size = 0
  rw [← Array.length_toList, e]; rfl

set_option maxHeartbeats 2000000 in
theorem fits_ok (s : ByteArray) (hs : s.size ≤ 9000000000000000000) (w : World) : Calls Try.prog 28 #[.string s] w fun e w' => w' = w ∧ e = .returned (.bool (fitB s)) := by
  obtain ⟨q, hq⟩ : ∃ q, q = fitB s := ⟨_, rfl⟩
  rw [← hq]
  unfold fitB at hq
  by_cases h0 : s.size = 0
  · have hq' := hid (show q = false by rw [hq]; simp [h0])
    obtain rfl := empty_of s h0
    clear hq
    go_enter Try.func28, Try.ntmps28
    go_wp2
    go_ret
    exact ⟨rfl, ret_bool hq'.out.symm⟩
  · have hne := toList_ne s h0
    have he : s.toList.isEmpty = false := by simpa using hne
    by_cases h1 : s.size ≤ 100
    · have hq' := hid (show q = true by rw [hq]; simp; omega)
      have hI : (s.size : Int) ≤ 100 := by omega
      clear hq
      go_enter Try.func28, Try.ntmps28
      go_wp2
      go_ret
      exact ⟨rfl, ret_bool hq'.out.symm⟩
    · have hq' := hid (show q = false by rw [hq]; simp; omega)
      have hI : ¬ (s.size : Int) ≤ 100 := by omega
      clear hq
      go_enter Try.func28, Try.ntmps28
      go_wp2
      go_ret
      exact ⟨rfl, ret_bool hq'.out.symm⟩

theorem lastC_up {l : List Int} {e : Nat} : ∀ e', e ≤ e' → (∀ i, e ≤ i → i < e' → cutB l i = false) → lastC l e' = lastC l e
  | 0, h, _ => by obtain rfl : e = 0 := by omega
                  rfl
  | e' + 1, h, hn => by
    rcases Nat.lt_or_ge e' e with h' | h'
    · obtain rfl : e = e' + 1 := by omega
      rfl
    · rw [lastC_no (hn e' h' (by omega))]
      exact lastC_up e' h' (fun i h1 h2 => hn i h1 (by omega))

theorem min3_run (a b c m : Int) (hm : (if c < (if b < a then b else a) then c else (if b < a then b else a)) = m) (ts : Array TypeId) (t : TypeId) (w : World) : (Builtin.min_ ts t #[.int .i64 a, .int .i64 b, .int .i64 c]).run Try.prog w = .ok (.int .i64 m) w := by
  rw [← hm]; exact run_min_int3 w ts t _ _ _ a b c

set_option maxHeartbeats 4000000 in
theorem cutAhead_big (s : ByteArray) (hs : s.size ≤ 9000000000000000000) (e0 : Nat) (he : e0 ≤ s.size) (hF : 1 < (s.size : Int) - 1 - 100) (w : World) : Calls Try.prog 29 #[.string s, .int .i64 e0] w fun e w' => w' = w ∧ e = .returned (.int .i64 (lastC (nums s) e0)) := by
  have hlen := nums_length s
  have hnat := fun k hk => nums_at s k hk
  generalize nums s = l at *
  obtain ⟨q, hq⟩ : ∃ q, q = lastC l e0 := ⟨_, rfl⟩
  rw [← hq]
  obtain ⟨m, hm⟩ : ∃ m : Int, (if (155 : Int) < (if (s.size : Int) - 2 < (e0 : Int) - 1 then (s.size : Int) - 2 else (e0 : Int) - 1) then 155 else (if (s.size : Int) - 2 < (e0 : Int) - 1 then (s.size : Int) - 2 else (e0 : Int) - 1)) = m := ⟨_, rfl⟩
  have hmin := fun ts t w => min3_run _ _ _ m hm ts t w
  have hm1 : m ≤ 155 ∧ m ≤ (s.size : Int) - 2 ∧ m ≤ (e0 : Int) - 1 ∧ -2 ≤ m ∧ (m = 155 ∨ m = (s.size : Int) - 2 ∨ m = (e0 : Int) - 1) := by rw [← hm]; split <;> split <;> omega
  clear hm
  obtain ⟨m1, m2, m3, m4, m5⟩ := hm1
  have hst : Hid (q = lastC l (m + 1).toNat) := hid (by
    rw [hq]
    refine lastC_up e0 (by omega) fun i h1 h2 => cutB_not ?_
    omega)
  have hc0 : ∀ i : Nat, (i : Int) < (s.size : Int) - 1 - 100 → cutB l i = false := fun i hi => cutB_not (by omega)
  clear hq m5
  replace hlen := hid hlen
  go_enter Try.func29, Try.ntmps29
  go_wp2
  go_loop [7] (fun y => ∃ z : Int, y = .int .i64 z ∧ z ≤ m ∧ -3 ≤ z ∧ Hid (q = lastC l (z + 1).toNat)) (fun y => (RowKit.intOf y + 4).toNat)
  case atStart => exact ⟨m, rfl, Int.le_refl _, by omega, hst⟩
  case round =>
    obtain ⟨z, rfl, hz0, hz1, hp⟩ := hrel
    by_cases hlt : z < (s.size : Int) - 1 - 100
    · have hq1 := hid (hp.out.trans (lastC_none (l := l) (e := (z + 1).toNat) fun i hi => hc0 i (by omega)))
      clear hp hst hc0
      go_wp2
      go_ret
      exact ⟨rfl, ret_int (by rw [hq1.out]; rfl)⟩
    · obtain ⟨k, rfl⟩ := Int.eq_ofNat_of_zero_le (show 0 ≤ z by omega)
      have hk : k < s.size := by omega
      have hck := hnat k hk
      rw [show ((k : Int) + 1).toNat = k + 1 by omega] at hp
      clear hst hc0
      by_cases h47 : l.getD k 0 = 47
      · have hcb : cutB l k = true := cutB_iff.2 (by have := hlen.out; omega)
        have hq1 := hid (hp.out.trans (lastC_yes hcb))
        have h47' : ((s[k]'hk).toNat : Int) = 47 := by rw [hck]; exact h47
        clear hck h47 hp hcb hnat
        go_wp2
        go_ret
        exact ⟨rfl, ret_int (by rw [hq1.out])⟩
      · have hcb : cutB l k = false := cutB_not fun h => h47 h.1
        have hq1 := hid (hp.out.trans (lastC_no hcb))
        obtain ⟨c, hc⟩ : ∃ c, c = l.getD k 0 := ⟨_, rfl⟩
        rw [← hc] at h47 hck
        have hneq : (c == 47) = false := by simpa using h47
        clear hc hp hcb hnat
        go_wp2
        go_round
        case rel => exact ⟨(k : Int) - 1, rfl, by omega, by omega, by rw [show ((k : Int) - 1 + 1).toNat = k by omega]; exact hq1⟩
        case measure => simp [RowKit.intOf]; omega

set_option maxHeartbeats 4000000 in
theorem cutAhead_small (s : ByteArray) (hs : s.size ≤ 9000000000000000000) (e0 : Nat) (he : e0 ≤ s.size) (hF : ¬ 1 < (s.size : Int) - 1 - 100) (w : World) : Calls Try.prog 29 #[.string s, .int .i64 e0] w fun e w' => w' = w ∧ e = .returned (.int .i64 (lastC (nums s) e0)) := by
  have hlen := nums_length s
  have hnat := fun k hk => nums_at s k hk
  generalize nums s = l at *
  obtain ⟨q, hq⟩ : ∃ q, q = lastC l e0 := ⟨_, rfl⟩
  rw [← hq]
  obtain ⟨m, hm⟩ : ∃ m : Int, (if (155 : Int) < (if (s.size : Int) - 2 < (e0 : Int) - 1 then (s.size : Int) - 2 else (e0 : Int) - 1) then 155 else (if (s.size : Int) - 2 < (e0 : Int) - 1 then (s.size : Int) - 2 else (e0 : Int) - 1)) = m := ⟨_, rfl⟩
  have hmin := fun ts t w => min3_run _ _ _ m hm ts t w
  have hm1 : m ≤ 155 ∧ m ≤ (s.size : Int) - 2 ∧ m ≤ (e0 : Int) - 1 ∧ -2 ≤ m ∧ (m = 155 ∨ m = (s.size : Int) - 2 ∨ m = (e0 : Int) - 1) := by rw [← hm]; split <;> split <;> omega
  clear hm
  obtain ⟨m1, m2, m3, m4, m5⟩ := hm1
  have hst : Hid (q = lastC l (m + 1).toNat) := hid (by
    rw [hq]
    refine lastC_up e0 (by omega) fun i h1 h2 => cutB_not ?_
    omega)
  have hc0 : ∀ i : Nat, (i : Int) < 1 → cutB l i = false := fun i hi => cutB_not (by omega)
  clear hq m5
  replace hlen := hid hlen
  go_enter Try.func29, Try.ntmps29
  go_wp2
  go_loop [7] (fun y => ∃ z : Int, y = .int .i64 z ∧ z ≤ m ∧ -3 ≤ z ∧ Hid (q = lastC l (z + 1).toNat)) (fun y => (RowKit.intOf y + 4).toNat)
  case atStart => exact ⟨m, rfl, Int.le_refl _, by omega, hst⟩
  case round =>
    obtain ⟨z, rfl, hz0, hz1, hp⟩ := hrel
    by_cases hlt : z < 1
    · have hq1 := hid (hp.out.trans (lastC_none (l := l) (e := (z + 1).toNat) fun i hi => hc0 i (by omega)))
      clear hp hst hc0
      go_wp2
      go_ret
      exact ⟨rfl, ret_int (by rw [hq1.out]; rfl)⟩
    · obtain ⟨k, rfl⟩ := Int.eq_ofNat_of_zero_le (show 0 ≤ z by omega)
      have hk : k < s.size := by omega
      have hck := hnat k hk
      rw [show ((k : Int) + 1).toNat = k + 1 by omega] at hp
      clear hst hc0
      by_cases h47 : l.getD k 0 = 47
      · have hcb : cutB l k = true := cutB_iff.2 (by have := hlen.out; omega)
        have hq1 := hid (hp.out.trans (lastC_yes hcb))
        have h47' : ((s[k]'hk).toNat : Int) = 47 := by rw [hck]; exact h47
        clear hck h47 hp hcb hnat
        go_wp2
        go_ret
        exact ⟨rfl, ret_int (by rw [hq1.out])⟩
      · have hcb : cutB l k = false := cutB_not fun h => h47 h.1
        have hq1 := hid (hp.out.trans (lastC_no hcb))
        obtain ⟨c, hc⟩ : ∃ c, c = l.getD k 0 := ⟨_, rfl⟩
        rw [← hc] at h47 hck
        have hneq : (c == 47) = false := by simpa using h47
        clear hc hp hcb hnat
        go_wp2
        go_round
        case rel => exact ⟨(k : Int) - 1, rfl, by omega, by omega, by rw [show ((k : Int) - 1 + 1).toNat = k by omega]; exact hq1⟩
        case measure => simp [RowKit.intOf]; omega


theorem cutAhead_ok (s : ByteArray) (hs : s.size ≤ 9000000000000000000) (e0 : Nat) (he : e0 ≤ s.size) (w : World) : Calls Try.prog 29 #[.string s, .int .i64 e0] w fun e w' => w' = w ∧ e = .returned (.int .i64 (lastC (nums s) e0)) := by
  by_cases h : 1 < (s.size : Int) - 1 - 100
  · exact cutAhead_big s hs e0 he h w
  · exact cutAhead_small s hs e0 he h w

end Go.Proofs.Ytbkgbnjiibhmhaa
