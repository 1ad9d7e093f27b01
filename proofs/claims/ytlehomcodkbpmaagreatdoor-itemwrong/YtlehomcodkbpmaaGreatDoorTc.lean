/-
  WHETHER A HEAD IS MORE THAN IS GONE THROUGH (the statements' own measure); AND WHAT FOLLOWS OF IT. Conditions: those that each part names.
-/
import Derived.Test.YtlehomcodkbpmaaGreatDoorFwb
import Derived.Test.YtlehomcodkbpmaaGreatDoorTa
import Derived.Test.YtlehomcodkbpmaaGreatDoorTb
import Derived.Test.YtlehomcodkbpmaaGreatDoorRtx
/-
  WHETHER A HEAD IS MORE THAN IS GONE THROUGH (the statements' own measure). Conditions: a text has no more bytes than a machine reaches.
-/
namespace Go.Proofs.YtlehomcodkbpmaaGreatDoor
open Go.ChangeShapes Go.WideShapes Go.ChangeAt Go.RowKit Go.Lib
set_option linter.unusedVariables false
set_option linter.unusedSimpArgs false
set_option maxRecDepth 20000

/-- the bytes of a head's texts -/
def sumH (h : Hd) : Nat := h.name.size + h.link.size + h.user.size + h.group.size

set_option maxHeartbeats 8000000 in
theorem many_ok {w : World} {a : Option Addr} {n c : Nat} {l : List (ByteArray × ByteArray)} (h : Hd) (hp : Pys w a n c l) (ht : sumH h + totN l ≤ 4611686018427387904) :
    Calls Tryz.prog 5 #[.agg (h.cs (.slice a n c))] w fun e w' => e = .returned (.bool (decide (200000 < sumH h + totN l ∨ 40 < n))) ∧ Below w.heap.size w w' := by
  have hb0 := (Below.refl w.heap.size w).alloc (Nat.le_refl _) (.cells (h.cs (.slice a n c)) 26)
  have hB : ∀ {wr : World}, Below (w.heap.size + 1) (w.alloc (.cells (h.cs (.slice a n c)) 26)) wr → Below w.heap.size w wr := fun hb => hb0.trans (hb.mono (Nat.le_succ _))
  have hcx : ∀ {wr : World}, Below (w.heap.size + 1) (w.alloc (.cells (h.cs (.slice a n c)) 26)) wr → wr.cell? ⟨w.heap.size, 13, none⟩ = some (.slice a n c) := by
    intro wr hb
    have e1 : (w.alloc (.cells (h.cs (.slice a n c)) 26)).heap[w.heap.size]? = some (.cells (h.cs (.slice a n c)) 26) := heap_alloc_new _ _
    have e2 : wr.heap[w.heap.size]? = some (.cells (h.cs (.slice a n c)) 26) := by rw [hb.block _ (by omega)]; exact e1
    simp [World.cell?, e2, Hd.cs]
  have hsz : (w.alloc (.cells (h.cs (.slice a n c)) 26)).heap.size = w.heap.size + 1 := by simp
  obtain ⟨T, hT⟩ : ∃ T, T = sumH h + totN l := ⟨_, rfl⟩
  rw [← hT] at ht ⊢
  have hT0 : h.name.size + h.link.size + h.user.size + h.group.size ≤ T := by rw [hT]; unfold sumH; omega
  have hT' := hid (show h.name.size + h.link.size + h.user.size + h.group.size + totN l = T by rw [hT]; rfl)
  clear hT
  obtain ⟨hl, hlc, hm, hor⟩ := hp
  have hl' := hid hl
  clear hl
  unfold Hd.cs at *
  rcases hor with ⟨rfl, rfl⟩ | ⟨h0, b, off, rfl, hc⟩
  · have E := hid (by have := hT'.out; rw [totN] at this; omega : h.name.size + h.link.size + h.user.size + h.group.size = T)
    clear hT'
    go_enter Tryz.func5, Tryz.ntmps5
    by_cases g : 200000 < h.name.size + h.link.size + h.user.size + h.group.size
    · have gI : (200000 : Int) < (h.name.size : Int) + h.link.size + h.user.size + h.group.size := by omega
      go_wp2
      refine wp_loop_rounds 1 ?_
      rw [rounds_succ]
      go_wp2
      all_goals go_ret
      all_goals exact ⟨ret_bool (by have := E.out; simp; omega), hb0⟩
    · have gI : ¬ (200000 : Int) < (h.name.size : Int) + h.link.size + h.user.size + h.group.size := by omega
      go_wp2
      refine wp_loop_rounds 1 ?_
      rw [rounds_succ]
      go_wp2
      all_goals go_ret
      all_goals exact ⟨ret_bool (by have := E.out; simp; omega), hb0⟩
  · go_enter Tryz.func5, Tryz.ntmps5
    go_wp2
    go_loopw [3, 4] (fun y x wr => ∃ (s k : Nat), y = .int .i64 s ∧ x = .int .i64 k ∧ Below (w.heap.size + 1) _ wr ∧ k ≤ n ∧ s ≤ T ∧ Hid (s + totN (l.drop k) = T)) (fun _ x _ => n - (RowKit.intOf x).toNat)
    case atStart => exact ⟨h.name.size + h.link.size + h.user.size + h.group.size, 0, by go_num, rfl, Below.refl _ _, by omega, hT0, hid (by have := hT'.out; simpa using this)⟩
    case round =>
      obtain ⟨s, k, rfl, rfl, hb, hk, hs, hr⟩ := hrel
      have hcx1 := hcx hb
      by_cases hlt : k < n
      · obtain ⟨ky, vl, hmem, hd, c0, c1⟩ := (hc.below (hB hb)).at k (by rw [hl'.out]; exact hlt)
        have hkI : (k : Int) < (n : Int) := by omega
        have E := hid (by have := hr.out; rw [hd.out, totN] at this; simp only at this; omega : s + ky.size + vl.size + totN (l.drop (k + 1)) = T)
        have hb1 : s + ky.size + vl.size ≤ T := by have := E.out; omega
        clear hr hd hmem
        go_wp2
        go_region
        go_wp2
        go_roundw
        case rel => exact ⟨s + ky.size + vl.size, k + 1, by go_num, by go_num, hb.drew, by omega, hb1, E⟩
        case measure => simp [RowKit.intOf]; omega
      · obtain rfl : k = n := by omega
        have E : s = T := by have := hr.out; rw [List.drop_eq_nil_iff.mpr (by rw [hl'.out]; exact Nat.le_refl _), totN] at this; omega
        subst E
        clear hr hT'
        by_cases g2 : 200000 < s
        · have i2 : (200000 : Int) < (s : Int) := by omega
          go_wp2
          all_goals go_ret
          all_goals exact ⟨by simp [g2], hB hb⟩
        · have i2 : ¬ (200000 : Int) < (s : Int) := by omega
          by_cases g1 : 40 < k
          · have i1 : (40 : Int) < (k : Int) := by omega
            go_wp2
            all_goals go_ret
            all_goals exact ⟨by simp [g1, g2], hB hb⟩
          · have i1 : ¬ (40 : Int) < (k : Int) := by omega
            go_wp2
            all_goals go_ret
            all_goals exact ⟨by simp [g1, g2], hB hb⟩

set_option maxHeartbeats 8000000 in
theorem many_big {w : World} {a : Option Addr} {n c : Nat} {l : List (ByteArray × ByteArray)} (h : Hd) (hp : Pys w a n c l) (hn : 40 < n) :
    Calls Tryz.prog 5 #[.agg (h.cs (.slice a n c))] w fun e w' => e = .returned (.bool true) ∧ Below w.heap.size w w' := by
  have hb0 := (Below.refl w.heap.size w).alloc (Nat.le_refl _) (.cells (h.cs (.slice a n c)) 26)
  have hB : ∀ {wr : World}, Below (w.heap.size + 1) (w.alloc (.cells (h.cs (.slice a n c)) 26)) wr → Below w.heap.size w wr := fun hb => hb0.trans (hb.mono (Nat.le_succ _))
  have hcx : ∀ {wr : World}, Below (w.heap.size + 1) (w.alloc (.cells (h.cs (.slice a n c)) 26)) wr → wr.cell? ⟨w.heap.size, 13, none⟩ = some (.slice a n c) := by
    intro wr hb
    have e1 : (w.alloc (.cells (h.cs (.slice a n c)) 26)).heap[w.heap.size]? = some (.cells (h.cs (.slice a n c)) 26) := heap_alloc_new _ _
    have e2 : wr.heap[w.heap.size]? = some (.cells (h.cs (.slice a n c)) 26) := by rw [hb.block _ (by omega)]; exact e1
    simp [World.cell?, e2, Hd.cs]
  have hsz : (w.alloc (.cells (h.cs (.slice a n c)) 26)).heap.size = w.heap.size + 1 := by simp
  obtain ⟨hl, hlc, hm, hor⟩ := hp
  have hl' := hid hl
  clear hl
  unfold Hd.cs at *
  rcases hor with ⟨rfl, rfl⟩ | ⟨h0, b, off, rfl, hc⟩
  · omega
  · go_enter Tryz.func5, Tryz.ntmps5
    go_wp2
    go_loopw [3, 4] (fun y x wr => ∃ (s : Int) (k : Nat), y = .int .i64 s ∧ x = .int .i64 k ∧ Below (w.heap.size + 1) _ wr ∧ k ≤ n) (fun _ x _ => n - (RowKit.intOf x).toNat)
    case atStart => exact ⟨_, 0, rfl, rfl, Below.refl _ _, by omega⟩
    case round =>
      obtain ⟨s, k, rfl, rfl, hb, hk⟩ := hrel
      have hcx1 := hcx hb
      by_cases hlt : k < n
      · obtain ⟨ky, vl, hmem, hd, c0, c1⟩ := (hc.below (hB hb)).at k (by rw [hl'.out]; exact hlt)
        have hkI : (k : Int) < (n : Int) := by omega
        clear hd hmem
        go_wp2
        go_region
        go_wp2
        go_roundw
        case rel => exact ⟨_, k + 1, rfl, by go_num, hb.drew, by omega⟩
        case measure => simp [RowKit.intOf]; omega
      · obtain rfl : k = n := by omega
        have i1 : (40 : Int) < (k : Int) := by omega
        by_cases i2 : (200000 : Int) < s
        · go_wp2
          all_goals go_ret
          all_goals exact ⟨rfl, hB hb⟩
        · go_wp2
          all_goals go_ret
          all_goals exact ⟨rfl, hB hb⟩

/-- many, whatever the head is: false tells that all is small -/
theorem many_all {w : World} {a : Option Addr} {n c : Nat} {l : List (ByteArray × ByteArray)} (h : Hd) (hp : Pys w a n c l) (hz : ∀ p ∈ l, p.1.size ≤ 140737488351232 ∧ p.2.size ≤ 140737488351232)
    (h1 : h.name.size ≤ 140737488351232) (h2 : h.link.size ≤ 140737488351232) (h3 : h.user.size ≤ 140737488351232) (h4 : h.group.size ≤ 140737488351232) :
    Calls Tryz.prog 5 #[.agg (h.cs (.slice a n c))] w fun e w' => e = .returned (.bool (decide (200000 < sumH h + totN l ∨ 40 < n))) ∧ Below w.heap.size w w' := by
  by_cases hn : n ≤ 40
  · refine many_ok h hp ?_
    have := tot_le 140737488351232 l hz
    have h5 := hp.1
    unfold sumH
    omega
  · refine (many_big h hp (by omega)).mono fun e w' ⟨e1, e2⟩ => ⟨?_, e2⟩
    rw [e1, decide_eq_true (.inr (by omega))]

end Go.Proofs.YtlehomcodkbpmaaGreatDoor

/-
  THE FULL NAMES OF A RIGHT HEAD TELL ITS KIND AND NAME, AND NO OTHERS DO. Nothing of the program. No condition.
-/
namespace Go.Proofs.YtlehomcodkbpmaaGreatDoor
open Go.ChangeShapes Go.WideShapes Go.ChangeAt Go.RowKit Go.Lib
set_option linter.unusedVariables false
set_option linter.unusedSimpArgs false
set_option maxRecDepth 20000

theorem nums_app1 (s t : ByteArray) : nums (s ++ t) = nums s ++ nums t := by
  unfold nums
  rw [ByteArray.data_append, Array.toList_append, List.map_append]

theorem ends_sl (s : ByteArray) : endsS (s ++ ⟨#[47]⟩) = true := by
  have hs : (s ++ ⟨#[47]⟩ : ByteArray).size = s.size + 1 := by rw [ByteArray.size_append]; rfl
  unfold endsS
  rw [hs, nums_app1]
  have e : nums ⟨#[47]⟩ = [47] := rfl
  rw [e]
  have : (nums s ++ [47]).getD (s.size + 1 - 1) 0 = 47 := by
    rw [Nat.add_sub_cancel, List.getD_eq_getElem?_getD, List.getElem?_append_right (by rw [nums_length]; exact Nat.le_refl _), nums_length]; simp
  rw [this]
  simp

theorem cut_sl (s : ByteArray) : cutS (s ++ ⟨#[47]⟩) = s := by
  have hs : (s ++ ⟨#[47]⟩ : ByteArray).size = s.size + 1 := by rw [ByteArray.size_append]; rfl
  apply nums_inj
  unfold cutS
  rw [nums_extract, hs, nums_app1, List.drop_zero]
  rw [show s.size + 1 - 1 - 0 = (nums s).length by rw [nums_length]; omega]
  exact List.take_left

theorem sl_cut (o : ByteArray) (h : endsS o = true) : cutS o ++ ⟨#[47]⟩ = o := by
  unfold endsS at h
  simp only [Bool.and_eq_true, decide_eq_true_eq, beq_iff_eq] at h
  obtain ⟨h0, h1⟩ := h
  apply nums_inj
  have e : nums ⟨#[47]⟩ = [47] := rfl
  rw [nums_app1, e]
  unfold cutS
  rw [nums_extract, List.drop_zero, Nat.sub_zero]
  have hl : o.size - 1 < (nums o).length := by rw [nums_length]; omega
  have h2 : (nums o)[o.size - 1] = 47 := by
    rw [List.getD_eq_getElem?_getD, List.getElem?_eq_getElem hl] at h1; simpa using h1
  have h3 := List.take_append_getElem hl
  rw [h2] at h3
  rw [h3, List.take_of_length_le (by rw [nums_length]; omega)]

theorem app_ne (s : ByteArray) (h : 0 < s.size) : s ++ ⟨#[47]⟩ ≠ (⟨#[47]⟩ : ByteArray) := by
  intro e
  have := congrArg ByteArray.size e
  rw [ByteArray.size_append] at this
  have e1 : (⟨#[47]⟩ : ByteArray).size = 1 := rfl
  omega

theorem ends_one : endsS ⟨#[47]⟩ = true := by decide +kernel

/-- each of them tells the kind and the name -/
theorem fulls_tell (k : Int) (s : ByteArray) (h0 : 0 < s.size) (h1 : k = 1 → endsS s = false) : ∀ f ∈ fulls k s, toldK k f = k ∧ toldS k f = s := by
  intro f hf
  unfold fulls at hf
  by_cases h6 : k = 6
  · subst h6
    have hT : ∀ x, toldK 6 x = 6 := fun x => by unfold toldK; rw [if_neg (by simp)]
    have hA : toldS 6 (s ++ ⟨#[47]⟩) = s := by
      unfold toldS; rw [hT, if_pos ⟨rfl, app_ne s h0, ends_sl s⟩, cut_sl]
    refine ⟨hT f, ?_⟩
    rw [if_pos rfl] at hf
    split at hf
    · have e : f = s ++ ⟨#[47]⟩ := by simpa using hf
      rw [e, hA]
    · rename_i hc
      have e : f = s ∨ f = s ++ ⟨#[47]⟩ := by simpa using hf
      rcases e with rfl | rfl
      · unfold toldS
        rw [hT, if_neg]
        rintro ⟨_, h3, h4⟩
        exact hc ⟨h3, h4⟩
      · exact hA
  · rw [if_neg h6] at hf
    have e : f = s := by simpa using hf
    subst e
    have hK : toldK k f = k := by
      unfold toldK
      rw [if_neg]
      rintro ⟨h2, h3⟩
      rw [h1 h2] at h3
      cases h3
    refine ⟨hK, ?_⟩
    unfold toldS
    rw [hK, if_neg (fun h => h6 h.1)]

/-- no other does -/
theorem fulls_only (k : Int) (s o : ByteArray) (hK : toldK k o = k) (hS : toldS k o = s) : o ∈ fulls k s := by
  unfold fulls
  unfold toldS at hS
  rw [hK] at hS
  by_cases h6 : k = 6
  · subst h6
    rw [if_pos rfl]
    by_cases hc : o ≠ ⟨#[47]⟩ ∧ endsS o = true
    · rw [if_pos ⟨rfl, hc⟩] at hS
      have e : o = s ++ ⟨#[47]⟩ := by rw [← hS, sl_cut o hc.2]
      split <;> simp [e]
    · rw [if_neg (fun h => hc h.2)] at hS
      subst hS
      rw [if_neg hc]
      simp
  · rw [if_neg (fun h => h6 h.1)] at hS
    rw [if_neg h6, hS]
    simp

/-- is a text among others? -/
def memB (o : ByteArray) : List ByteArray → Bool
  | [] => false
  | f :: t => (f.toList == o.toList) || memB o t
theorem memB_iff (o : ByteArray) : ∀ l : List ByteArray, memB o l = true ↔ o ∈ l
  | [] => by simp [memB]
  | f :: t => by
    rw [memB, Bool.or_eq_true, str_beq, memB_iff o t, List.mem_cons]
    exact ⟨fun h => h.imp Eq.symm id, fun h => h.imp Eq.symm id⟩
theorem memB_app (o f : ByteArray) : ∀ l : List ByteArray, memB o (l ++ [f]) = (memB o l || (f.toList == o.toList))
  | [] => by simp [memB]
  | g :: t => by rw [List.cons_append, memB, memB, memB_app o f t, Bool.or_assoc]

theorem fulls_iff (k : Int) (s o : ByteArray) (h0 : 0 < s.size) (h1 : k = 1 → endsS s = false) : memB o (fulls k s) = ((toldK k o == k) && ((toldS k o).toList == s.toList)) := by
  rw [str_dec, Bool.eq_iff_iff, memB_iff]
  simp only [decide_eq_true_eq, Bool.and_eq_true, beq_iff_eq]
  exact ⟨fulls_tell k s h0 h1 o, fun h => fulls_only k s o h.1 h.2⟩

theorem fulls_size (k : Int) (s : ByteArray) : ∀ f ∈ fulls k s, f.size ≤ s.size + 1 := by
  intro f hf
  have hs : (s ++ ⟨#[47]⟩ : ByteArray).size = s.size + 1 := by rw [ByteArray.size_append]; rfl
  unfold fulls at hf
  split at hf
  · split at hf
    · have e : f = s ++ ⟨#[47]⟩ := by simpa using hf
      rw [e, hs]; exact Nat.le_refl _
    · have e : f = s ∨ f = s ++ ⟨#[47]⟩ := by simpa using hf
      rcases e with rfl | rfl
      · omega
      · omega
  · have e : f = s := by simpa using hf
    rw [e]; omega

theorem fulls_len (k : Int) (s : ByteArray) : 0 < (fulls k s).length ∧ (fulls k s).length ≤ 2 := by
  unfold fulls
  repeat' split
  all_goals simp

theorem wrongN_zero : ∀ (l : List Bool) (i : Int), 0 < i → wrongN l i = 0 → ∀ b ∈ l, b = true
  | [], _, _, _ => by simp
  | b :: t, i, hi, h => by
    rw [wrongN] at h
    split at h
    · rename_i hb
      intro c hc
      rcases List.mem_cons.1 hc with rfl | hc
      · exact hb
      · exact wrongN_zero t (i + 1) (by omega) h c hc
    · omega

/-- what a right head's name is -/
theorem right_name {h : Hd} {l : PL} (e : wrongH h l = 0) : 0 < h.name.size ∧ (h.kind = 1 → endsS h.name = false) := by
  have hb := wrongN_zero _ _ (by decide) e (fnameR h) (by unfold fieldsR; simp)
  unfold fnameR namR at hb
  simp only [Bool.and_eq_true, Bool.not_eq_true', beq_eq_false_iff_ne] at hb
  obtain ⟨⟨h1, _⟩, h2⟩ := hb
  constructor
  · rcases Nat.eq_zero_or_pos h.name.size with e | e
    · exact absurd (by rw [toList_data]; simp; apply Array.eq_empty_of_size_eq_zero; exact e) h1
    · exact e
  · intro hk
    rw [hk] at h2
    simpa using h2

theorem mem_tot : ∀ (l : PL), ∀ p ∈ l, p.1.size + p.2.size ≤ totN l
  | [], p, h => by cases h
  | q :: t, p, h => by
    rw [totN]
    rcases List.mem_cons.1 h with rfl | h
    · omega
    · have := mem_tot t p h
      omega

end Go.Proofs.YtlehomcodkbpmaaGreatDoor

/-
  THE DOCUMENT's Slash, Fulls AND name. Conditions: how long the texts may be.
-/
namespace Go.Proofs.YtlehomcodkbpmaaGreatDoor
open Go.ChangeShapes Go.WideShapes Go.ChangeAt Go.RowKit Go.Lib
set_option linter.unusedVariables false
set_option linter.unusedSimpArgs false
set_option maxRecDepth 20000

set_option maxHeartbeats 2000000 in
theorem rslash_ok (s : ByteArray) (hs : s.size ≤ 9000000000000000000) (w : World) : Calls Tryz.prog 14 #[.string s] w fun e w' => w' = w ∧ e = .returned (.bool (endsS s)) := by
  by_cases h0 : 0 < s.size
  · have h1 : (1 : Int) ≤ (s.size : Int) := by omega
    have e1 : ((s.size : Int) - 1).toNat = s.size - 1 := by omega
    have hne : (s.toList == []) = false := by
      rw [toList_data]; simp; intro e; have : s.size = 0 := by show s.data.size = 0; rw [← Array.length_toList, e]; rfl
      omega
    have hat := nums_at s (s.size - 1) (by omega)
    have E : endsS s = ((nums s).getD (s.size - 1) 0 == 47) := by unfold endsS; simp [h0]
    rw [E]
    replace E := hid E
    go_enter Tryz.func14, Tryz.ntmps14
    go_wp2
    all_goals go_ret
    all_goals exact ⟨rfl, ret_bool (by simp_all)⟩
  · have e0 : s.size = 0 := by omega
    have hne : (s.toList == []) = true := by
      rw [toList_data]; simp; apply Array.eq_empty_of_size_eq_zero; exact e0
    go_enter Tryz.func14, Tryz.ntmps14
    go_wp2
    all_goals go_ret
    all_goals exact ⟨rfl, ret_bool (by unfold endsS; simp_all)⟩

set_option maxHeartbeats 4000000 in
theorem rfulls_ok (h : Hd) (x : Value) (hs : h.name.size ≤ 9000000000000000) (w : World) :
    Calls Tryz.prog 7 #[.agg (h.cs x)] w fun e w' => ∃ g n, e = .returned (.slice (some ⟨g, 0, none⟩) n n) ∧ n = (fulls h.kind h.name).length ∧ Sts w' g (fulls h.kind h.name) ∧ Below w.heap.size w w' := by
  have hc := rslash_ok h.name (by omega)
  have E := str_sl h.name
  unfold Hd.cs
  unfold fulls
  by_cases h6 : h.kind = 6
  · rw [if_pos h6]
    have hk : (h.kind != 6) = false := by simp [h6]
    cases he : endsS h.name
    · rw [if_neg (by simp)]
      rw [he] at hc
      go_enter Tryz.func7, Tryz.ntmps7
      go_wp2_with (go_at_call 14; refine (hc _).mono ?_; rintro e w' ⟨hw, rfl⟩; obtain rfl := hw.symm)
      go_ret
      exact ⟨_, _, rfl, rfl, (two_new _ _ _).2, (two_new _ _ _).1⟩
    · rw [he] at hc
      by_cases hq : h.name = ⟨#[47]⟩
      · rw [if_neg (by simp [hq])]
        rw [decide_eq_true hq] at E
        have hq' := hid hq
        clear hq
        go_enter Tryz.func7, Tryz.ntmps7
        go_wp2_with (go_at_call 14; refine (hc _).mono ?_; rintro e w' ⟨hw, rfl⟩; obtain rfl := hw.symm)
        go_ret
        exact ⟨_, _, rfl, rfl, (two_new _ _ _).2, (two_new _ _ _).1⟩
      · rw [if_pos (by simp [hq])]
        rw [decide_eq_false hq] at E
        go_enter Tryz.func7, Tryz.ntmps7
        go_wp2_with (go_at_call 14; refine (hc _).mono ?_; rintro e w' ⟨hw, rfl⟩; obtain rfl := hw.symm)
        go_ret
        exact ⟨_, _, rfl, rfl, (two_new _ _ _).2, (two_new _ _ _).1⟩
  · rw [if_neg h6]
    have hk : (h.kind != 6) = true := by simp [h6]
    go_enter Tryz.func7, Tryz.ntmps7
    go_wp2
    go_ret
    exact ⟨_, _, rfl, rfl, (two_new _ _ _).2, (two_new _ _ _).1⟩

set_option maxHeartbeats 2000000 in
theorem rname_ok (s : ByteArray) (hs : s.size ≤ 1000000) (w : World) : Calls Tryz.prog 40 #[.string s] w fun e w' => e = .returned (.bool (namR s)) ∧ Below w.heap.size w w' := by
  have hc := rclean_walk s hs
  rw [clean_has] at hc
  unfold namR txtR
  generalize has 0 (bs s) = q at *
  cases h : (s.toList == [])
  · by_cases h2 : s.size ≤ 65536
    · have hI : (s.size : Int) ≤ 65536 := by omega
      rw [decide_eq_true h2]
      go_enter Tryz.func40, Tryz.ntmps40
      go_wp2_with (go_at_call 49; refine (hc _).mono ?_; rintro e w1 ⟨rfl, hb⟩)
      go_ret
      exact ⟨rfl, hb⟩
    · have hI : ¬ (s.size : Int) ≤ 65536 := by omega
      rw [decide_eq_false h2]
      go_enter Tryz.func40, Tryz.ntmps40
      go_wp2
      go_ret
      exact ⟨rfl, Below.refl _ _⟩
  · go_enter Tryz.func40, Tryz.ntmps40
    go_wp2
    go_ret
    exact ⟨rfl, Below.refl _ _⟩

end Go.Proofs.YtlehomcodkbpmaaGreatDoor
