/-
  THE CONTRACTS of num.Put, of the comparison of bytes and of the chapter's example. No condition.
-/
import Derived.Test.YtknkgahhehjikaaLays
import Derived.Laws.BytesArg
import Derived.WalkSpells
namespace Go.Proofs.Ytknkgahhehjikaa
open Go.ChangeShapes Go.WideShapes Go.ChangeAt Go.RowKit
set_option linter.unusedVariables false

/-- the bytes of a number in a field, and the code -/
def putL (n k : Int) (wd : Bool) : List Int :=
  if k < 2 ∨ 32 < k then [] else if 0 ≤ n ∧ n ≤ most k then octB n k.toNat else if (wd && fit n k.toNat) = true then wideB n k.toNat else []
def putC (n k : Int) (wd : Bool) : Int :=
  if k < 2 ∨ 32 < k then 2 else if 0 ≤ n ∧ n ≤ most k then 0 else if (wd && fit n k.toNat) = true then 0 else 5

theorem lets_length (n : Int) (k : Nat) : (lets n k).length = k := by simp [lets, digs_length]
theorem octB_length (n : Int) (k : Nat) (h : 2 ≤ k) : (octB n k).length = k := by
  unfold octB; split <;> simp [lets_length]; omega
theorem wideB_length (n : Int) (k : Nat) (h : 2 ≤ k) : (wideB n k).length = k := by simp [wideB, digs_length]; omega

theorem digs_range (b n : Int) (k : Nat) (hb : 0 < b) : ∀ x ∈ digs b n k, 0 ≤ x ∧ x < b := by
  induction k generalizing n with
  | zero => simp [digs]
  | succ k ih =>
    intro x hx
    simp only [digs, List.mem_append, List.mem_singleton] at hx
    rcases hx with hx | rfl
    · exact ih _ x hx
    · exact ⟨Int.emod_nonneg _ (by omega), Int.emod_lt_of_pos _ hb⟩
theorem lets_range (n : Int) (k : Nat) : ∀ x ∈ lets n k, 48 ≤ x ∧ x ≤ 55 := by
  intro x hx
  simp only [lets, List.mem_map] at hx
  obtain ⟨y, hy, rfl⟩ := hx
  have := digs_range 8 n k (by omega) y hy
  omega
theorem octB_range (n : Int) (k : Nat) : ∀ x ∈ octB n k, 0 ≤ x ∧ x ≤ 255 := by
  intro x hx
  unfold octB at hx
  split at hx
  · simp only [List.mem_append, List.mem_singleton] at hx
    rcases hx with hx | rfl
    · have := lets_range _ _ x hx; omega
    · omega
  · have := lets_range _ _ x hx; omega
theorem wideB_range (n : Int) (k : Nat) : ∀ x ∈ wideB n k, 0 ≤ x ∧ x ≤ 255 := by
  intro x hx
  simp only [wideB, List.mem_cons] at hx
  rcases hx with rfl | hx
  · split <;> omega
  · have := digs_range 256 _ _ (by omega) x hx; omega
theorem putL_range (n k : Int) (wd : Bool) : ∀ x ∈ putL n k wd, 0 ≤ x ∧ x ≤ 255 := by
  unfold putL
  split
  · simp
  · split
    · exact octB_range _ _
    · split
      · exact wideB_range _ _
      · simp

theorem own_bys {w : World} {B n : Nat} {v : Value} {l : List Int} (h : w.ownsRow B 5 1 v n (u8s l)) (hl : l.length = n) (hr : ∀ x ∈ l, 0 ≤ x ∧ x ≤ 255) : ∃ a c, v = .slice a n c ∧ Bys w a n c l := by
  rcases h.2 with ⟨rfl, rfl⟩ | ⟨g, cap, cur, rfl, hb, hg, hnc, hcm, hcs, htake⟩
  · have : l = [] := by simpa using hl
    subst this
    exact ⟨none, 0, rfl, Bys.mk0 (by omega)⟩
  · refine ⟨_, cap, rfl, Bys.mk' hl hnc (by unfold maxLen at hcm; omega) ⟨hr, fun i hi => ?_⟩⟩
    have := h.cellAt i (by omega)
    rw [Nat.zero_add, this, u8s_get _ _ hi]

theorem bys_string {w : World} {a : Option Addr} {n c : Nat} {l : List Int} (h : Bys w a n c l) :
    (convert 22 9 (.slice a n c)).run Try.prog w = .ok (.string (strOfNums l)) w := by
  obtain ⟨hl, hlc, hm, hb, ⟨rfl, rfl⟩ | ⟨h0, b, off, rfl, hc⟩⟩ := h
  · match a with
    | none => exact run_convert_bytes_nil w 22 5 Try.underlying22 Try.underlying5 0 c 9 Try.underlying9
    | some x =>
      have hld : (loadCells x 0).run Try.prog w = .ok (([] : List Int).map (Value.int .u8)).toArray w := by
        have := run_loadCells_list (P := Try.prog) w x [] (by simp)
        simpa using this
      rw [run_convert_bytes_string w 22 9 5 _ 0 c Try.underlying22 Try.underlying5 Try.underlying9, run_bytesToString w _ 0 c [] hld]
      rfl
  · exact run_convert_bytes_arg w 22 5 Try.underlying22 Try.underlying5 b off n c l hl (fun i hi => hc.2 i (by omega)) 9 Try.underlying9

theorem same_any (w : World) (a a' : Option Addr) (n n' c c' : Nat) (l : List Int) (h : Bys w a n c l) (h' : Bys w a' n' c' l) :
    Calls Try.prog 17 #[.slice a n c, .slice a' n' c'] w fun e w' => w' = w ∧ e = .returned (.bool true) := by
  have e1 := bys_string h
  have e2 := bys_string h'
  clear h h'
  go_enter Try.func17, Try.ntmps17
  go_wp2
  all_goals go_ret
  all_goals exact ⟨rfl, ret_bool (by simp)⟩

set_option maxHeartbeats 1000000 in
theorem put_any (w : World) (n k : Int) (wd : Bool) (hn : -9223372036854775808 ≤ n) (hn2 : n ≤ 9223372036854775807) :
    Calls Try.prog 15 #[.int .i64 n, .int .i64 k, .bool wd] w fun e w' => ∃ v, e = .returned (.tuple #[v, .int .u8 (putC n k wd)]) ∧
      w'.ownsRow w.heap.size 5 1 v (putL n k wd).length (u8s (putL n k wd)) ∧ Below w.heap.size w w' := by
  by_cases h1 : k < 2 ∨ 32 < k
  · have EL : Hid (putL n k wd = []) := hid (by rw [putL, if_pos h1])
    have EC : Hid (putC n k wd = 2) := hid (by rw [putC, if_pos h1])
    by_cases h2 : k < 2
    · clear h1
      go_enter Try.func15, Try.ntmps15
      go_wp2
      all_goals go_ret2
      all_goals exact ⟨_, by rw [EC.out]; rfl, by rw [EL.out]; exact World.ownsRow_nil _ _ _ _, Below.refl _ _⟩
    · have h3 : 32 < k := by omega
      clear h1
      go_enter Try.func15, Try.ntmps15
      go_wp2
      all_goals go_ret2
      all_goals exact ⟨_, by rw [EC.out]; rfl, by rw [EL.out]; exact World.ownsRow_nil _ _ _ _, Below.refl _ _⟩
  · obtain ⟨q, rfl⟩ : ∃ q : Nat, k = q := ⟨k.toNat, by omega⟩
    have hq1 : 2 ≤ q := by omega
    have hq2 : q ≤ 32 := by omega
    clear h1
    by_cases h2 : 0 ≤ n ∧ n ≤ most q
    · have EL : Hid (putL n q wd = octB n q) := hid (by rw [putL, if_neg (by omega), if_pos h2]; rfl)
      have EC : Hid (putC n q wd = 0) := hid (by rw [putC, if_neg (by omega), if_pos h2])
      obtain ⟨h3, h4⟩ := h2
      go_enter Try.func15, Try.ntmps15
      go_wp2_with (first | (go_at_call 18; refine (most_any _ _).mono ?_; rintro e w' ⟨hw, rfl⟩; obtain rfl := hw.symm) | (go_at_call 24; refine (putOctal_any _ n q hq1 hq2 h3 hn2).mono ?_; rintro e w1 ⟨g, rfl, hown, hbel⟩))
      all_goals go_ret2
      all_goals exact ⟨_, by rw [EC.out]; rfl, by rw [EL.out, octB_length _ _ hq1]; assumption, by assumption⟩
    · have h2' : n < 0 ∨ most q < n := by omega
      clear h2
      cases hf : (wd && fit n q)
      · have EL : Hid (putL n q wd = []) := hid (by rw [putL, if_neg (by omega), if_neg (by omega), show (q : Int).toNat = q from rfl, hf]; rfl)
        have EC : Hid (putC n q wd = 5) := hid (by rw [putC, if_neg (by omega), if_neg (by omega), show (q : Int).toNat = q from rfl, hf]; rfl)
        cases wd
        · clear hf
          rcases h2' with h3 | h3
          all_goals
            go_enter Try.func15, Try.ntmps15
            go_wp2_with (first | (go_at_call 18; refine (most_any _ _).mono ?_; rintro e w' ⟨hw, rfl⟩; obtain rfl := hw.symm) | (go_at_call 25; refine (fits_any _ n q hq1 hq2 hn hn2).mono ?_; rintro e w' ⟨hw, rfl⟩; obtain rfl := hw.symm) | (go_at_call 26; refine (putWide_any _ n q hq1 hq2 hn hn2).mono ?_; rintro e w1 ⟨g, rfl, hown, hbel⟩))
            all_goals go_ret2
            all_goals exact ⟨_, by rw [EC.out]; rfl, by rw [EL.out]; exact World.ownsRow_nil _ _ _ _, Below.refl _ _⟩
        · have hf' : fit n q = false := by simpa using hf
          clear hf
          rcases h2' with h3 | h3
          all_goals
            go_enter Try.func15, Try.ntmps15
            go_wp2_with (first | (go_at_call 18; refine (most_any _ _).mono ?_; rintro e w' ⟨hw, rfl⟩; obtain rfl := hw.symm) | (go_at_call 25; refine (fits_any _ n q hq1 hq2 hn hn2).mono ?_; rintro e w' ⟨hw, rfl⟩; obtain rfl := hw.symm) | (go_at_call 26; refine (putWide_any _ n q hq1 hq2 hn hn2).mono ?_; rintro e w1 ⟨g, rfl, hown, hbel⟩))
            all_goals go_ret2
            all_goals exact ⟨_, by rw [EC.out]; rfl, by rw [EL.out]; exact World.ownsRow_nil _ _ _ _, Below.refl _ _⟩
      · have EL : Hid (putL n q wd = wideB n q) := hid (by rw [putL, if_neg (by omega), if_neg (by omega), show (q : Int).toNat = q from rfl, hf]; rfl)
        have EC : Hid (putC n q wd = 0) := hid (by rw [putC, if_neg (by omega), if_neg (by omega), show (q : Int).toNat = q from rfl, hf]; rfl)
        obtain ⟨rfl, hf'⟩ : wd = true ∧ fit n q = true := by simpa using hf
        clear hf
        rcases h2' with h3 | h3
        all_goals
          go_enter Try.func15, Try.ntmps15
          go_wp2_with (first | (go_at_call 18; refine (most_any _ _).mono ?_; rintro e w' ⟨hw, rfl⟩; obtain rfl := hw.symm) | (go_at_call 25; refine (fits_any _ n q hq1 hq2 hn hn2).mono ?_; rintro e w' ⟨hw, rfl⟩; obtain rfl := hw.symm) | (go_at_call 26; refine (putWide_any _ n q hq1 hq2 hn hn2).mono ?_; rintro e w1 ⟨g, rfl, hown, hbel⟩))
          all_goals go_ret2
          all_goals exact ⟨_, by rw [EC.out]; rfl, by rw [EL.out, wideB_length _ _ hq1]; assumption, by assumption⟩

theorem bys_lit {w : World} (l : List Int) (hl : l.length ≤ 1000) (hr : ∀ x ∈ l, 0 ≤ x ∧ x ≤ 255) : Bys (w.alloc (.cells (u8s l).toArray 5)) (some ⟨w.heap.size, 0, none⟩) l.length l.length l := by
  have h := World.ownsRow_lit (base := 0) (e := 5) (size := 1) w (u8s l).toArray l.length (Nat.zero_le _) (by unfold maxLen; omega) (by simp [u8s])
  obtain ⟨a, c, e, h'⟩ := own_bys (l := l) (by simpa using h) rfl hr
  simp only [Value.slice.injEq] at e
  obtain ⟨rfl, -, rfl⟩ := e
  exact h'

theorem Cells.below {w w' : World} (hb : Below w.heap.size w w') {b off : Nat} {l : List Int} (h : Cells w b off l) : Cells w' b off l :=
  ⟨h.1, fun i hi => cell_later hb (h.2 i hi)⟩
theorem Bys.below {w w' : World} (hb : Below w.heap.size w w') {a : Option Addr} {n c : Nat} {l : List Int} (h : Bys w a n c l) : Bys w' a n c l := by
  obtain ⟨hl, hlc, hm, hr, h' | ⟨h0, b, off, rfl, hc⟩⟩ := h
  · exact ⟨hl, hlc, hm, hr, .inl h'⟩
  · exact ⟨hl, hlc, hm, hr, .inr ⟨h0, b, off, rfl, hc.below hb⟩⟩
theorem Bys.alloc {w : World} {a : Option Addr} {n c : Nat} {l : List Int} (h : Bys w a n c l) (o : Obj) : Bys (w.alloc o) a n c l :=
  h.below ((Below.refl _ _).alloc (Nat.le_refl _) _)

theorem ex_octal : octal [32, 49, 55, 0, 32] = some 15 := by decide
theorem ex_putL : putL (-1) 8 true = [255, 255, 255, 255, 255, 255, 255, 255] := by decide
theorem ex_putC : putC (-1) 8 true = 0 := by decide

theorem put_bys {w w1 : World} {v : Value} {n k : Int} {wd : Bool} (h : w1.ownsRow w.heap.size 5 1 v (putL n k wd).length (u8s (putL n k wd))) :
    ∃ a c, v = .slice a (putL n k wd).length c ∧ Bys w1 a (putL n k wd).length c (putL n k wd) := own_bys h rfl (putL_range _ _ _)

set_option maxHeartbeats 1000000 in
theorem alive_any (w : World) : Calls Try.prog 7 #[] w fun e w' => e = .returned (.bool true) ∧ Below w.heap.size w w' := by
  have hb1 := bys_lit (w := w) [32, 49, 55, 0, 32] (by decide) (by decide)
  have e1 : val (octal [32, 49, 55, 0, 32]) = 15 := by rw [ex_octal]; rfl
  have e2 : cod (octal [32, 49, 55, 0, 32]) = 0 := by rw [ex_octal]; rfl
  have e3 := ex_putC
  go_enter Try.func7, Try.ntmps7
  go_wp2_with (first | (go_at_call 8; refine (octal_any _ _ _ _ _ hb1).mono ?_; rintro e w' ⟨hw, rfl⟩; obtain rfl := hw.symm) | (go_at_call 15; refine (put_any _ (-1) 8 true (by omega) (by omega)).mono ?_; rintro e w1 ⟨v, rfl, hown, hbel⟩; obtain ⟨a, c, rfl, hby⟩ := put_bys hown; rw [ex_putL] at hby; clear hown) | (go_at_call 17; refine (same_any _ _ _ _ _ _ _ _ (hby.alloc _) (bys_lit [255, 255, 255, 255, 255, 255, 255, 255] (by decide) (by decide))).mono ?_; rintro e w2 ⟨hw, rfl⟩; obtain rfl := hw.symm))
  all_goals go_ret
  all_goals exact ⟨rfl, (((Below.refl _ _).alloc (Nat.le_refl _) _).trans (hbel.mono (by simp))).alloc (by have := hbel.size; simp at this; omega) _⟩
end Go.Proofs.Ytknkgahhehjikaa
