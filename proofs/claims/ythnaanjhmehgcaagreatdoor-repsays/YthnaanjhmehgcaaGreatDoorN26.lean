/-
  WHERE A NAME MAY BE CUT, AS A FUNCTION OF ITS BYTES. Nothing of the program. No condition.; AND WHAT FOLLOWS OF IT. Conditions: those that each part names.
-/
import Derived.Test.YthnaanjhmehgcaaGreatDoorN03
import Derived.Test.YthnaanjhmehgcaaGreatDoorProg
import Derived.Laws.Cover1
import Derived.BigQuiet
/-
  WHERE A NAME MAY BE CUT, AS A FUNCTION OF ITS BYTES. Nothing of the program. No condition.
-/
namespace Go.Proofs.YthnaanjhmehgcaaGreatDoor
open Go.ChangeShapes Go.WideShapes Go.ChangeAt Go.RowKit
set_option linter.unusedVariables false
set_option linter.unusedSimpArgs false

/-- a cut of a name -/
def cutB (l : List Int) (i : Nat) : Bool := decide (l.getD i 0 = 47 ∧ 1 ≤ i ∧ i ≤ 155 ∧ i + 2 ≤ l.length ∧ l.length ≤ i + 101)
/-- the cuts ahead of a place -/
def cutsTo (l : List Int) (e : Nat) : List Nat := (List.range e).filter (cutB l)
/-- the last of them -/
def lastC (l : List Int) (e : Nat) : Nat := (cutsTo l e).getLastD 0
def oneC (k : Nat) : List Nat := if k = 0 then [] else [k]

theorem cutB_iff {l : List Int} {i : Nat} : cutB l i = true ↔ l.getD i 0 = 47 ∧ 1 ≤ i ∧ i ≤ 155 ∧ i + 2 ≤ l.length ∧ l.length ≤ i + 101 := by unfold cutB; simp
theorem cutB_not {l : List Int} {i : Nat} (h : ¬ (l.getD i 0 = 47 ∧ 1 ≤ i ∧ i ≤ 155 ∧ i + 2 ≤ l.length ∧ l.length ≤ i + 101)) : cutB l i = false := by
  cases hc : cutB l i
  · rfl
  · exact absurd (cutB_iff.1 hc) h
theorem cutsTo_zero (l : List Int) : cutsTo l 0 = [] := rfl
theorem cutsTo_yes {l : List Int} {e : Nat} (h : cutB l e = true) : cutsTo l (e + 1) = cutsTo l e ++ [e] := by
  unfold cutsTo; rw [List.range_succ, List.filter_append]; simp [h]
theorem cutsTo_no {l : List Int} {e : Nat} (h : cutB l e = false) : cutsTo l (e + 1) = cutsTo l e := by
  unfold cutsTo; rw [List.range_succ, List.filter_append]; simp [h]
theorem lastC_yes {l : List Int} {e : Nat} (h : cutB l e = true) : lastC l (e + 1) = e := by unfold lastC; rw [cutsTo_yes h]; simp
theorem lastC_no {l : List Int} {e : Nat} (h : cutB l e = false) : lastC l (e + 1) = lastC l e := by unfold lastC; rw [cutsTo_no h]
theorem cutsTo_none {l : List Int} {e : Nat} (h : ∀ i, i < e → cutB l i = false) : cutsTo l e = [] := by
  unfold cutsTo
  rw [List.filter_eq_nil_iff]
  intro i hi
  rw [h i (List.mem_range.1 hi)]
  simp
theorem lastC_none {l : List Int} {e : Nat} (h : ∀ i, i < e → cutB l i = false) : lastC l e = 0 := by unfold lastC; rw [cutsTo_none h]; rfl
theorem lastC_is (l : List Int) : ∀ e, lastC l e = 0 ∨ (cutB l (lastC l e) = true ∧ lastC l e < e)
  | 0 => .inl rfl
  | e + 1 => by
    cases h : cutB l e
    · rw [lastC_no h]
      rcases lastC_is l e with h' | ⟨h1, h2⟩
      · exact .inl h'
      · exact .inr ⟨h1, by omega⟩
    · rw [lastC_yes h]
      exact .inr ⟨h, by omega⟩
theorem cutsTo_last (l : List Int) : ∀ e, cutsTo l e = cutsTo l (lastC l e) ++ oneC (lastC l e)
  | 0 => rfl
  | e + 1 => by
    cases h : cutB l e
    · rw [lastC_no h, cutsTo_no h]
      exact cutsTo_last l e
    · rw [lastC_yes h, cutsTo_yes h]
      have := (cutB_iff.1 h).2.1
      unfold oneC
      rw [if_neg (by omega)]
theorem lastC_le (l : List Int) (e : Nat) : lastC l e ≤ 155 := by
  rcases lastC_is l e with h | ⟨h, _⟩
  · omega
  · exact (cutB_iff.1 h).2.2.1
theorem lastC_lt (l : List Int) (e : Nat) : lastC l e = 0 ∨ lastC l e < e := by
  rcases lastC_is l e with h | ⟨_, h⟩
  · exact .inl h
  · exact .inr h
theorem cutsTo_len (l : List Int) (e : Nat) : (cutsTo l e).length ≤ e := by
  have := List.length_filter_le (cutB l) (List.range e)
  simpa [cutsTo] using this
theorem cutsTo_mem {l : List Int} {e i : Nat} : i ∈ cutsTo l e ↔ i < e ∧ cutB l i = true := by
  unfold cutsTo; rw [List.mem_filter, List.mem_range]

/-- numbers as the program has them -/
def natI (l : List Nat) : List Int := l.map Int.ofNat
theorem natI_app (a b : List Nat) : natI (a ++ b) = natI a ++ natI b := by simp [natI]
theorem natI_rev (a : List Nat) : natI a.reverse = (natI a).reverse := by simp [natI]
theorem natI_len (a : List Nat) : (natI a).length = a.length := by simp [natI]

/-! ### the row of numbers -/

def i64s (l : List Int) : List Value := l.map (Value.int .i64)
theorem i64s_get (l : List Int) (j : Nat) (h : j < l.length) : (i64s l)[j]? = some (.int .i64 (l.getD j 0)) := by unfold i64s; simp [h]
theorem i64s_more {w : World} {B n : Nat} {v : Value} {l : List Int} {x : Int} (h : w.ownsRow B 3 1 v n (i64s l ++ [.int .i64 x])) : w.ownsRow B 3 1 v n (i64s (l ++ [x])) := by
  rw [show i64s (l ++ [x]) = i64s l ++ [.int .i64 x] by simp [i64s]]; exact h
theorem one_i64 (v : Int) : ∀ u ∈ [Value.int .i64 v], u.oneCell' = true := by intro u hu; simp at hu; subst hu; rfl

/-- a row of numbers, as a reader meets it -/
theorem ints_cases {w : World} {B : Nat} {v : Value} {l : List Int} (h : w.ownsRow B 3 1 v l.length (i64s l)) :
    (l = [] ∧ ∃ a c, v = .slice a 0 c) ∨ (0 < l.length ∧ ∃ g c, v = .slice (some ⟨g, 0, none⟩) l.length c ∧ ∀ i, i < l.length → w.cell? ⟨g, i, none⟩ = some (.int .i64 (l.getD i 0))) := by
  rcases Nat.eq_zero_or_pos l.length with h0 | h0
  · have hl : l = [] := by simpa using h0
    subst hl
    refine .inl ⟨rfl, ?_⟩
    rcases h.2 with ⟨hv, _⟩ | ⟨g, cap, cur, hv, _⟩
    · exact ⟨_, _, hv⟩
    · exact ⟨_, _, hv⟩
  · obtain ⟨g, c, rfl, -⟩ := own_shape h h0
    refine .inr ⟨h0, g, c, rfl, fun i hi => ?_⟩
    rw [h.cellAt i (by omega), i64s_get _ _ hi]

theorem drop_get (l : List Int) (i : Nat) (h : i < l.length) : l.drop i = l.getD i 0 :: l.drop (i + 1) := by
  rw [List.drop_eq_getElem_cons h]; simp [h]

end Go.Proofs.YthnaanjhmehgcaaGreatDoor

/-
  WHAT split's FUNCTIONS GIVE: whether a name fits, the last cut ahead of a place, the split. Conditions: the length.
-/
namespace Go.Proofs.YthnaanjhmehgcaaGreatDoor
open Go.ChangeShapes Go.WideShapes Go.ChangeAt Go.RowKit Go.Lib
set_option linter.unusedVariables false
set_option linter.unusedSimpArgs false
set_option maxRecDepth 20000

/-- whether a name fits -/
def fitB (s : ByteArray) : Bool := decide (1 ≤ s.size ∧ s.size ≤ 100)
theorem empty_of (s : ByteArray) (h : s.size = 0) : s = ⟨#[]⟩ := by
  apply ByteArray.ext
  have : s.data.size = 0 := h
  exact Array.eq_empty_of_size_eq_zero this
theorem toList_ne (s : ByteArray) (h : s.size ≠ 0) : ¬ s.toList = [] := by
  rw [Lib.toList_data]
  intro e
  apply h
  show s.data.size = 0
  rw [← Array.length_toList, e]; rfl

set_option maxHeartbeats 2000000 in
theorem fits_ok (s : ByteArray) (hs : s.size ≤ 9000000000000000000) (w : World) : Calls Tryz.prog 143 #[.string s] w fun e w' => w' = w ∧ e = .returned (.bool (fitB s)) := by
  obtain ⟨q, hq⟩ : ∃ q, q = fitB s := ⟨_, rfl⟩
  rw [← hq]
  unfold fitB at hq
  by_cases h0 : s.size = 0
  · have hq' := hid (show q = false by rw [hq]; simp [h0])
    obtain rfl := empty_of s h0
    clear hq
    go_enter Tryz.func143, Tryz.ntmps143
    go_wp2
    go_ret
    exact ⟨rfl, ret_bool hq'.out.symm⟩
  · have hne := toList_ne s h0
    have he : s.toList.isEmpty = false := by simpa using hne
    by_cases h1 : s.size ≤ 100
    · have hq' := hid (show q = true by rw [hq]; simp; omega)
      have hI : (s.size : Int) ≤ 100 := by omega
      clear hq
      go_enter Tryz.func143, Tryz.ntmps143
      go_wp2
      go_ret
      exact ⟨rfl, ret_bool hq'.out.symm⟩
    · have hq' := hid (show q = false by rw [hq]; simp; omega)
      have hI : ¬ (s.size : Int) ≤ 100 := by omega
      clear hq
      go_enter Tryz.func143, Tryz.ntmps143
      go_wp2
      go_ret
      exact ⟨rfl, ret_bool hq'.out.symm⟩

theorem lastC_up {l : List Int} {e : Nat} : ∀ e', e ≤ e' → (∀ i, e ≤ i → i < e' → cutB l i = false) → lastC l e' = lastC l e
  | 0, h, _ => by obtain rfl : e = 0 := by omega
                  rfl
  | e' + 1, h, hn => by
    rcases Nat.lt_or_ge e' e with h' | h'
    · obtain rfl : e = e' + 1 := by omega
      rfl
    · rw [lastC_no (hn e' h' (by omega))]
      exact lastC_up e' h' (fun i h1 h2 => hn i h1 (by omega))

theorem min3_run (a b c m : Int) (hm : (if c < (if b < a then b else a) then c else (if b < a then b else a)) = m) (ts : Array TypeId) (t : TypeId) (w : World) : (Builtin.min_ ts t #[.int .i64 a, .int .i64 b, .int .i64 c]).run Tryz.prog w = .ok (.int .i64 m) w := by
  rw [← hm]; exact run_min_int3 w ts t _ _ _ a b c

set_option maxHeartbeats 4000000 in
theorem cutAhead_big (s : ByteArray) (hs : s.size ≤ 9000000000000000000) (e0 : Nat) (he : e0 ≤ s.size) (hF : 1 < (s.size : Int) - 1 - 100) (w : World) : Calls Tryz.prog 144 #[.string s, .int .i64 e0] w fun e w' => w' = w ∧ e = .returned (.int .i64 (lastC (nums s) e0)) := by
  have hlen := nums_length s
  have hnat := fun k hk => nums_at s k hk
  generalize nums s = l at *
  obtain ⟨q, hq⟩ : ∃ q, q = lastC l e0 := ⟨_, rfl⟩
  rw [← hq]
  obtain ⟨m, hm⟩ : ∃ m : Int, (if (155 : Int) < (if (s.size : Int) - 2 < (e0 : Int) - 1 then (s.size : Int) - 2 else (e0 : Int) - 1) then 155 else (if (s.size : Int) - 2 < (e0 : Int) - 1 then (s.size : Int) - 2 else (e0 : Int) - 1)) = m := ⟨_, rfl⟩
  have hmin := fun ts t w => min3_run _ _ _ m hm ts t w
  have hm1 : m ≤ 155 ∧ m ≤ (s.size : Int) - 2 ∧ m ≤ (e0 : Int) - 1 ∧ -2 ≤ m ∧ (m = 155 ∨ m = (s.size : Int) - 2 ∨ m = (e0 : Int) - 1) := by rw [← hm]; split <;> split <;> omega
  clear hm
  obtain ⟨m1, m2, m3, m4, m5⟩ := hm1
  have hst : Hid (q = lastC l (m + 1).toNat) := hid (by
    rw [hq]
    refine lastC_up e0 (by omega) fun i h1 h2 => cutB_not ?_
    omega)
  have hc0 : ∀ i : Nat, (i : Int) < (s.size : Int) - 1 - 100 → cutB l i = false := fun i hi => cutB_not (by omega)
  clear hq m5
  replace hlen := hid hlen
  go_enter Tryz.func144, Tryz.ntmps144
  go_wp2
  go_loop [7] (fun y => ∃ z : Int, y = .int .i64 z ∧ z ≤ m ∧ -3 ≤ z ∧ Hid (q = lastC l (z + 1).toNat)) (fun y => (RowKit.intOf y + 4).toNat)
  case atStart => exact ⟨m, rfl, Int.le_refl _, by omega, hst⟩
  case round =>
    obtain ⟨z, rfl, hz0, hz1, hp⟩ := hrel
    by_cases hlt : z < (s.size : Int) - 1 - 100
    · have hq1 := hid (hp.out.trans (lastC_none (l := l) (e := (z + 1).toNat) fun i hi => hc0 i (by omega)))
      clear hp hst hc0
      go_wp2
      go_ret
      exact ⟨rfl, ret_int (by rw [hq1.out]; rfl)⟩
    · obtain ⟨k, rfl⟩ := Int.eq_ofNat_of_zero_le (show 0 ≤ z by omega)
      have hk : k < s.size := by omega
      have hck := hnat k hk
      rw [show ((k : Int) + 1).toNat = k + 1 by omega] at hp
      clear hst hc0
      by_cases h47 : l.getD k 0 = 47
      · have hcb : cutB l k = true := cutB_iff.2 (by have := hlen.out; omega)
        have hq1 := hid (hp.out.trans (lastC_yes hcb))
        have h47' : ((s[k]'hk).toNat : Int) = 47 := by rw [hck]; exact h47
        clear hck h47 hp hcb hnat
        go_wp2
        go_ret
        exact ⟨rfl, ret_int (by rw [hq1.out])⟩
      · have hcb : cutB l k = false := cutB_not fun h => h47 h.1
        have hq1 := hid (hp.out.trans (lastC_no hcb))
        obtain ⟨c, hc⟩ : ∃ c, c = l.getD k 0 := ⟨_, rfl⟩
        rw [← hc] at h47 hck
        have hneq : (c == 47) = false := by simpa using h47
        clear hc hp hcb hnat
        go_wp2
        go_round
        case rel => exact ⟨(k : Int) - 1, rfl, by omega, by omega, by rw [show ((k : Int) - 1 + 1).toNat = k by omega]; exact hq1⟩
        case measure => simp [RowKit.intOf]; omega

set_option maxHeartbeats 4000000 in
theorem cutAhead_small (s : ByteArray) (hs : s.size ≤ 9000000000000000000) (e0 : Nat) (he : e0 ≤ s.size) (hF : ¬ 1 < (s.size : Int) - 1 - 100) (w : World) : Calls Tryz.prog 144 #[.string s, .int .i64 e0] w fun e w' => w' = w ∧ e = .returned (.int .i64 (lastC (nums s) e0)) := by
  have hlen := nums_length s
  have hnat := fun k hk => nums_at s k hk
  generalize nums s = l at *
  obtain ⟨q, hq⟩ : ∃ q, q = lastC l e0 := ⟨_, rfl⟩
  rw [← hq]
  obtain ⟨m, hm⟩ : ∃ m : Int, (if (155 : Int) < (if (s.size : Int) - 2 < (e0 : Int) - 1 then (s.size : Int) - 2 else (e0 : Int) - 1) then 155 else (if (s.size : Int) - 2 < (e0 : Int) - 1 then (s.size : Int) - 2 else (e0 : Int) - 1)) = m := ⟨_, rfl⟩
  have hmin := fun ts t w => min3_run _ _ _ m hm ts t w
  have hm1 : m ≤ 155 ∧ m ≤ (s.size : Int) - 2 ∧ m ≤ (e0 : Int) - 1 ∧ -2 ≤ m ∧ (m = 155 ∨ m = (s.size : Int) - 2 ∨ m = (e0 : Int) - 1) := by rw [← hm]; split <;> split <;> omega
  clear hm
  obtain ⟨m1, m2, m3, m4, m5⟩ := hm1
  have hst : Hid (q = lastC l (m + 1).toNat) := hid (by
    rw [hq]
    refine lastC_up e0 (by omega) fun i h1 h2 => cutB_not ?_
    omega)
  have hc0 : ∀ i : Nat, (i : Int) < 1 → cutB l i = false := fun i hi => cutB_not (by omega)
  clear hq m5
  replace hlen := hid hlen
  go_enter Tryz.func144, Tryz.ntmps144
  go_wp2
  go_loop [7] (fun y => ∃ z : Int, y = .int .i64 z ∧ z ≤ m ∧ -3 ≤ z ∧ Hid (q = lastC l (z + 1).toNat)) (fun y => (RowKit.intOf y + 4).toNat)
  case atStart => exact ⟨m, rfl, Int.le_refl _, by omega, hst⟩
  case round =>
    obtain ⟨z, rfl, hz0, hz1, hp⟩ := hrel
    by_cases hlt : z < 1
    · have hq1 := hid (hp.out.trans (lastC_none (l := l) (e := (z + 1).toNat) fun i hi => hc0 i (by omega)))
      clear hp hst hc0
      go_wp2
      go_ret
      exact ⟨rfl, ret_int (by rw [hq1.out]; rfl)⟩
    · obtain ⟨k, rfl⟩ := Int.eq_ofNat_of_zero_le (show 0 ≤ z by omega)
      have hk : k < s.size := by omega
      have hck := hnat k hk
      rw [show ((k : Int) + 1).toNat = k + 1 by omega] at hp
      clear hst hc0
      by_cases h47 : l.getD k 0 = 47
      · have hcb : cutB l k = true := cutB_iff.2 (by have := hlen.out; omega)
        have hq1 := hid (hp.out.trans (lastC_yes hcb))
        have h47' : ((s[k]'hk).toNat : Int) = 47 := by rw [hck]; exact h47
        clear hck h47 hp hcb hnat
        go_wp2
        go_ret
        exact ⟨rfl, ret_int (by rw [hq1.out])⟩
      · have hcb : cutB l k = false := cutB_not fun h => h47 h.1
        have hq1 := hid (hp.out.trans (lastC_no hcb))
        obtain ⟨c, hc⟩ : ∃ c, c = l.getD k 0 := ⟨_, rfl⟩
        rw [← hc] at h47 hck
        have hneq : (c == 47) = false := by simpa using h47
        clear hc hp hcb hnat
        go_wp2
        go_round
        case rel => exact ⟨(k : Int) - 1, rfl, by omega, by omega, by rw [show ((k : Int) - 1 + 1).toNat = k by omega]; exact hq1⟩
        case measure => simp [RowKit.intOf]; omega


theorem cutAhead_ok (s : ByteArray) (hs : s.size ≤ 9000000000000000000) (e0 : Nat) (he : e0 ≤ s.size) (w : World) : Calls Tryz.prog 144 #[.string s, .int .i64 e0] w fun e w' => w' = w ∧ e = .returned (.int .i64 (lastC (nums s) e0)) := by
  by_cases h : 1 < (s.size : Int) - 1 - 100
  · exact cutAhead_big s hs e0 he h w
  · exact cutAhead_small s hs e0 he h w

end Go.Proofs.YthnaanjhmehgcaaGreatDoor

/-
  WHAT split.Split AND THE DOCUMENT's OWN GIVE. Conditions: the length.
-/
namespace Go.Proofs.YthnaanjhmehgcaaGreatDoor
open Go.ChangeShapes Go.WideShapes Go.ChangeAt Go.RowKit Go.Lib
set_option linter.unusedVariables false
set_option linter.unusedSimpArgs false
set_option maxRecDepth 20000

/-- the split of a name -/
def spA (s : ByteArray) : ByteArray := if fitB s = true then ⟨#[]⟩ else if lastC (nums s) s.size = 0 then ⟨#[]⟩ else s.extract 0 (lastC (nums s) s.size)
def spN (s : ByteArray) : ByteArray := if fitB s = true then s else if lastC (nums s) s.size = 0 then ⟨#[]⟩ else s.extract (lastC (nums s) s.size + 1) s.size
def spO (s : ByteArray) : Bool := fitB s || !decide (lastC (nums s) s.size = 0)

theorem sp_fit {s : ByteArray} (h : fitB s = true) : spA s = ⟨#[]⟩ ∧ spN s = s ∧ spO s = true := by unfold spA spN spO; simp [h]
theorem sp_none {s : ByteArray} (h : fitB s = false) (h0 : lastC (nums s) s.size = 0) : spA s = ⟨#[]⟩ ∧ spN s = ⟨#[]⟩ ∧ spO s = false := by unfold spA spN spO; simp [h, h0]
theorem sp_cut {s : ByteArray} (h : fitB s = false) (h0 : lastC (nums s) s.size ≠ 0) : spA s = s.extract 0 (lastC (nums s) s.size) ∧ spN s = s.extract (lastC (nums s) s.size + 1) s.size ∧ spO s = true := by unfold spA spN spO; simp [h, h0]
theorem below_draws {B : Nat} {a w : World} (h : Below B a w) (n : Nat) : Below B a (w.drewN n) := h.trans ⟨rfl, rfl, rfl, Nat.le_refl _, fun _ _ => rfl⟩
theorem ret_ssb {a b c d : ByteArray} {x y : Bool} (h : a = b) (h' : c = d) (h'' : x = y) : Ending.returned (.tuple #[.string a, .string c, .bool x]) = .returned (.tuple #[.string b, .string d, .bool y]) := by rw [h, h', h'']

set_option maxHeartbeats 4000000 in
theorem split_ok (s : ByteArray) (hs : s.size ≤ 9000000000000000000) (w : World) : Calls Tryz.prog 111 #[.string s] w fun e w' => e = .returned (.tuple #[.string (spA s), .string (spN s), .bool (spO s)]) ∧ Below w.heap.size w w' := by
  have hf := fun w => fits_ok s hs w
  have hc := fun w => cutAhead_ok s hs s.size (Nat.le_refl _) w
  cases hft : fitB s
  · by_cases h0 : lastC (nums s) s.size = 0
    · have E := hid (sp_none hft h0)
      rw [hft] at hf
      rw [h0] at hc
      go_enter Tryz.func111, Tryz.ntmps111
      go_wp2_with (first
        | (go_at_call 143; refine (hf _).mono ?_; rintro e w' ⟨hw, rfl⟩; obtain rfl := hw.symm)
        | (go_at_call 144; refine (hc _).mono ?_; rintro e w' ⟨hw, rfl⟩; obtain rfl := hw.symm))
      go_ret3
      exact ⟨ret_ssb E.out.1.symm E.out.2.1.symm E.out.2.2.symm, Below.refl _ _⟩
    · have E := hid (sp_cut hft h0)
      have hle := (lastC_lt (nums s) s.size).resolve_left h0
      rw [hft] at hf
      generalize lastC (nums s) s.size = k at *
      have hkI : ((k : Int) == 0) = false := by simpa using h0
      go_enter Tryz.func111, Tryz.ntmps111
      go_upto_region 6 with (first
        | (go_at_call 143; refine (hf _).mono ?_; rintro e w' ⟨hw, rfl⟩; obtain rfl := hw.symm)
        | (go_at_call 144; refine (hc _).mono ?_; rintro e w' ⟨hw, rfl⟩; obtain rfl := hw.symm))
      go_quiet (fail)
      go_wp2
      go_ret3
      exact ⟨ret_ssb E.out.1.symm E.out.2.1.symm E.out.2.2.symm, below_draws (Below.refl _ _) _⟩
  · have E := hid (sp_fit hft)
    rw [hft] at hf
    go_enter Tryz.func111, Tryz.ntmps111
    go_wp2_with (first
      | (go_at_call 143; refine (hf _).mono ?_; rintro e w' ⟨hw, rfl⟩; obtain rfl := hw.symm))
    go_ret3
    exact ⟨ret_ssb E.out.1.symm E.out.2.1.symm E.out.2.2.symm, Below.refl _ _⟩

/-! ### the document's own -/

theorem Tryz.info3 : (Tryz.prog.info? 3).map (fun i => (i.zero, i.size, i.bytes)) = some (some (.int .i64 0), 1, 8) := by kernel_rfl

set_option maxHeartbeats 8000000 in
theorem rcuts_ok (s : ByteArray) (hs : s.size ≤ 1000000) (w : World) : Calls Tryz.prog 81 #[.string s] w fun e w' => (∃ v, e = .returned v ∧ w'.ownsRow w.heap.size 3 1 v (natI (cutsTo (nums s) s.size)).length (i64s (natI (cutsTo (nums s) s.size)))) ∧ Below w.heap.size w w' := by
  obtain ⟨i0, hi, hz0, hz1, hz2⟩ := info_parts Tryz.info3
  have hlen := nums_length s
  have hnat := fun k hk => nums_at s k hk
  generalize nums s = l at *
  obtain ⟨q, hq⟩ : ∃ q, q = natI (cutsTo l s.size) := ⟨_, rfl⟩
  rw [← hq]
  have hnil : w.ownsRow w.heap.size 3 1 (.slice none 0 0) 0 [] := ⟨rfl, .inl ⟨rfl, rfl⟩⟩
  replace hq := hid hq
  replace hlen := hid hlen
  go_enter Tryz.func81, Tryz.ntmps81
  go_wp2
  go_loopw [3, 4] (fun x y wr => ∃ (v : Value) (k : Nat) (acc : List Int), x = v ∧ y = .int .i64 k ∧ k ≤ s.size ∧ acc.length ≤ k ∧ wr.ownsRow w.heap.size 3 1 v acc.length (i64s acc) ∧ Below w.heap.size w wr ∧ Hid (acc = natI (cutsTo l k))) (fun _ y _ => s.size - (RowKit.intOf y).toNat)
  case atStart => exact ⟨_, 0, [], rfl, by go_num, Nat.zero_le _, by simp, hnil, Below.refl _ _, hid rfl⟩
  case round =>
    obtain ⟨v, k, acc, rfl, rfl, hks, hak, hown, hb, hp⟩ := hrel
    have hsz := hb.size
    by_cases hlt : k < s.size
    · have hck := hnat k hlt
      cases hcb : cutB l k
      · have hp' : Hid (acc = natI (cutsTo l (k + 1))) := hid (by rw [hp.out, cutsTo_no hcb])
        obtain ⟨c, hc⟩ : ∃ c, c = l.getD k 0 := ⟨_, rfl⟩
        have hno : Hid (¬ (c = 47 ∧ 1 ≤ k ∧ k ≤ 155 ∧ k + 2 ≤ s.size ∧ s.size ≤ k + 101)) := hid (fun h => by
          have := cutB_iff.2 ⟨hc ▸ h.1, h.2.1, h.2.2.1, by rw [hlen.out]; exact h.2.2.2.1, by rw [hlen.out]; exact h.2.2.2.2⟩
          rw [hcb] at this; cases this)
        rw [← hc] at hck
        clear hp hq hnat hcb hc hlen
        by_cases g1 : c = 47
        · subst g1
          by_cases g2 : 1 ≤ k
          · by_cases g3 : k ≤ 155
            · by_cases g4 : k + 2 ≤ s.size
              · have g5 : ¬ s.size ≤ k + 101 := fun h => hno.out ⟨rfl, g2, g3, g4, h⟩
                clear hno
                go_wp2
                go_roundw
                case rel => exact ⟨_, k + 1, _, rfl, by go_num, by omega, by omega, hown, hb, hp'⟩
                case measure => simp [RowKit.intOf]; omega
              · clear hno
                go_wp2
                go_roundw
                case rel => exact ⟨_, k + 1, _, rfl, by go_num, by omega, by omega, hown, hb, hp'⟩
                case measure => simp [RowKit.intOf]; omega
            · clear hno
              go_wp2
              go_roundw
              case rel => exact ⟨_, k + 1, _, rfl, by go_num, by omega, by omega, hown, hb, hp'⟩
              case measure => simp [RowKit.intOf]; omega
          · clear hno
            go_wp2
            go_roundw
            case rel => exact ⟨_, k + 1, _, rfl, by go_num, by omega, by omega, hown, hb, hp'⟩
            case measure => simp [RowKit.intOf]; omega
        · have hneq : (c == 47) = false := by simpa using g1
          clear hno
          go_wp2
          go_roundw
          case rel => exact ⟨_, k + 1, _, rfl, by go_num, by omega, by omega, hown, hb, hp'⟩
          case measure => simp [RowKit.intOf]; omega
      · have hp' : Hid (acc ++ [(k : Int)] = natI (cutsTo l (k + 1))) := hid (by rw [hp.out, cutsTo_yes hcb, natI_app]; rfl)
        obtain ⟨g1, g2, g3, g4, g5⟩ := cutB_iff.1 hcb
        rw [hlen.out] at g4 g5
        rw [g1] at hck
        clear hp hq hnat hcb g1
        go_wp2_with (first | (at_builtin; refine wpList_append_own _ rfl _ _ 72 rfl w.heap.size 3 i0 (.int .i64 0) 1 8 Tryz.underlying72 hi hz0 hz1 hz2 rfl (by decide) _ _ _ rfl (hown.alloc _) ⟨wr.heap.size, 0, none⟩ 1 1 [.int .i64 (k : Int)] rfl rfl (cell_one_new _ _ _) (one_i64 _) (by unfold maxLen; omega) (by omega) (by simp; omega) ?_; intro v' w2 hown' hgrow' _))
        go_roundw
        case rel => exact ⟨_, k + 1, _, rfl, by go_num, by omega, by simp; omega, by have := i64s_more hown'; simpa using this, (hb.alloc hsz _).grown hgrow' (by simp; omega) (fun k hk => (hown.lt k hk).1), hp'⟩
        case measure => simp [RowKit.intOf]; omega
    · have hq' : acc = q := by rw [hp.out, hq.out, show k = s.size by omega]
      subst hq'
      clear hq hp hnat
      go_wp2
      go_ret
      exact ⟨⟨_, rfl, hown⟩, hb⟩

theorem natI_cases (l : List Nat) : natI l = [] ∨ ∃ k r, l = r ++ [k] := by
  rcases List.eq_nil_or_concat l with rfl | ⟨r, k, rfl⟩
  · exact .inl rfl
  · exact .inr ⟨k, r, by simp⟩
theorem natI_last (l : List Nat) (h : 0 < l.length) : (natI l).getD ((natI l).length - 1) 0 = ((l.getLastD 0 : Nat) : Int) := by
  rcases List.eq_nil_or_concat l with rfl | ⟨r, k, rfl⟩
  · simp at h
  · simp [natI]

theorem fit_empty : fitB ⟨#[]⟩ = false := by decide +kernel

set_option maxHeartbeats 4000000 in
theorem rsplit_ok (s : ByteArray) (hs : s.size ≤ 1000000) (w : World) : Calls Tryz.prog 38 #[.string s] w fun e w' => e = .returned (.tuple #[.string (spA s), .string (spN s), .bool (spO s)]) ∧ Below w.heap.size w w' := by
  have hc := fun w => rcuts_ok s hs w
  by_cases h0 : s.size = 0
  · obtain rfl := empty_of s h0
    have E := hid (sp_none fit_empty (by decide +kernel))
    rw [show natI (cutsTo (nums ⟨#[]⟩) (ByteArray.size ⟨#[]⟩)) = [] by decide +kernel] at hc
    go_enter Tryz.func38, Tryz.ntmps38
    go_wp2_with (first
      | (go_at_call 81; refine (hc _).mono ?_; rintro e w1 ⟨⟨v, rfl, hown⟩, hb⟩; obtain ⟨-, a, c, rfl⟩ := (ints_cases hown).resolve_right (fun h => absurd h.1 (by simp))))
    go_ret3
    exact ⟨ret_ssb E.out.1.symm E.out.2.1.symm E.out.2.2.symm, hb⟩
  · have hne := toList_ne s h0
    have he : s.toList.isEmpty = false := by simpa using hne
    by_cases h1 : s.size ≤ 100
    · have E := hid (sp_fit (s := s) (by unfold fitB; simp; omega))
      have hI : (s.size : Int) ≤ 100 := by omega
      go_enter Tryz.func38, Tryz.ntmps38
      go_wp2
      go_ret3
      exact ⟨ret_ssb E.out.1.symm E.out.2.1.symm E.out.2.2.symm, Below.refl _ _⟩
    · have hf : fitB s = false := by unfold fitB; simp; omega
      have hI : ¬ (s.size : Int) ≤ 100 := by omega
      by_cases hl : (cutsTo (nums s) s.size).length = 0
      · have hl' : cutsTo (nums s) s.size = [] := by simpa using hl
        have E := hid (sp_none hf (by unfold lastC; rw [hl']; rfl))
        rw [hl'] at hc
        clear hl hl'
        go_enter Tryz.func38, Tryz.ntmps38
        go_wp2_with (first
          | (go_at_call 81; refine (hc _).mono ?_; rintro e w1 ⟨⟨v, rfl, hown⟩, hb⟩; obtain ⟨-, a, c, rfl⟩ := (ints_cases hown).resolve_right (fun h => absurd h.1 (by simp [natI]))))
        go_ret3
        exact ⟨ret_ssb E.out.1.symm E.out.2.1.symm E.out.2.2.symm, hb⟩
      · have hlast := natI_last (cutsTo (nums s) s.size) (by omega)
        have hlc : lastC (nums s) s.size ≠ 0 := by
          intro e
          have h1 := cutsTo_last (nums s) s.size
          rw [e] at h1
          exact hl (by rw [h1]; rfl)
        have E := hid (sp_cut hf hlc)
        have hle := (lastC_lt (nums s) s.size).resolve_left hlc
        change (natI _).getD _ 0 = ((lastC (nums s) s.size : Nat) : Int) at hlast
        have hlz : (natI (cutsTo (nums s) s.size)).length ≤ 1000000 ∧ 0 < (natI (cutsTo (nums s) s.size)).length := by
          have := cutsTo_len (nums s) s.size
          rw [natI_len]; omega
        generalize natI (cutsTo (nums s) s.size) = q at *
        generalize lastC (nums s) s.size = k at *
        obtain ⟨n, hn⟩ : ∃ n, n = q.length := ⟨_, rfl⟩
        replace hn := hid hn
        clear hl
        go_enter Tryz.func38, Tryz.ntmps38
        go_upto_region 7 with (first
          | (go_at_call 81; refine (hc _).mono ?_; rintro e w1 ⟨⟨v, rfl, hown⟩, hb⟩; obtain ⟨-, g, c, rfl, hcell⟩ := (ints_cases hown).resolve_left (fun h => by rw [h.1] at hlz; simp at hlz); have hcl := hcell (q.length - 1) (by omega); rw [hlast] at hcl; rw [← hn.out] at hlz hcl ⊢))
        go_quiet (fail)
        go_wp2
        go_ret3
        exact ⟨ret_ssb E.out.1.symm E.out.2.1.symm E.out.2.2.symm, below_draws hb _⟩

end Go.Proofs.YthnaanjhmehgcaaGreatDoor
