/-
  WHAT THE DOCUMENT's size GIVES AT A PLACE OF A TEXT. No conditions but the length.
-/
import Derived.Test.YthnaanjhmehgcaaGreatDoorN23
namespace Go.Proofs.YthnaanjhmehgcaaGreatDoor
open Go.ChangeShapes Go.WideShapes Go.ChangeAt Go.RowKit
set_option linter.unusedVariables false

theorem byte_drop (s : ByteArray) (k i : Nat) (h : k + i < s.size) : (s.data.toList.drop k).getD i 0 = s[k + i]'h := by
  rw [List.getD_eq_getElem?_getD, List.getElem?_drop, List.getElem?_eq_getElem (by rw [bytes_len]; exact h)]
  rfl

set_option maxHeartbeats 8000000 in
set_option maxRecDepth 20000 in
theorem size_at_two (s : ByteArray) (k : Nat) (hs : s.size ≤ 1000000) (hk : k < s.size) (h0 : 192 ≤ ((s.data.toList.drop k).getD 0 0).toNat) (h1 : ((s.data.toList.drop k).getD 0 0).toNat < 224) (hn : k + 2 ≤ s.size) (w : World) :
    Calls Tryz.prog 113 #[.string s, .int .i64 k] w fun e w' => e = .returned (.int .i64 (sizeL (s.data.toList.drop k))) ∧ Below w.heap.size w w' := by
  have hrun := run_two (s.data.toList.drop k) ⟨h0, h1⟩ (by rw [List.length_drop, bytes_len]; omega)
  have hb0 := byte_drop s k 0 hk
  obtain ⟨c, hc⟩ : ∃ c : Int, ((s[k]'hk).toNat : Int) = c := ⟨_, rfl⟩
  have hci : (((s.data.toList.drop k).getD 0 0).toNat : Int) = c := by rw [← hc, hb0]; rfl
  have hc0 : 192 ≤ c := by omega
  have hc1 : c < 224 := by omega
  rw [hci] at hrun
  obtain ⟨q, hq⟩ : ∃ q, q = runP (s.data.toList.drop k) 2 4 1 (c - 192) := ⟨_, rfl⟩
  rw [← hq] at hrun
  rw [← hrun]
  have hq' := hid hq
  have hni : (k : Int) + 2 ≤ (s.size : Int) := by omega
  clear hrun hci hb0 h0 h1 hq
  go_enter Tryz.func113, Tryz.ntmps113
  go_wp2
  go_loopw [7, 8] (fun x y wr => ∃ (i f : Nat) (p : Int), x = .int .i64 p ∧ y = .int .i64 i ∧ 1 ≤ i ∧ i ≤ 2 ∧ i + f = 5 ∧ 0 ≤ p ∧ (i = 1 ∧ p < 64 ∨ i = 2 ∧ p < 4096 ∨ i = 3 ∧ p < 262144 ∨ i = 4 ∧ p < 16777216) ∧ Below w.heap.size w wr ∧ Hid (q = runP (s.data.toList.drop k) 2 f i p)) (fun _ y _ => 2 - (intOf y).toNat)
  case atStart => exact ⟨1, 4, c - 192, by go_num, by go_num, by omega, by omega, by omega, by omega, by omega, (Below.refl _ w).alloc (Nat.le_refl _) _, hq'⟩
  case round =>
    obtain ⟨i, f, p, rfl, rfl, hi1, hi2, hif, hp0, hpb, hb, hr⟩ := hrel
    have hsz := hb.size
    rcases Nat.lt_or_ge i 2 with hin | hin
    · have hki : k + i < s.size := by omega
      obtain ⟨f, rfl⟩ : ∃ f', f = f' + 1 := ⟨f - 1, by omega⟩
      have hbd := byte_drop s k i hki
      obtain ⟨b, hby⟩ : ∃ b : Int, ((s[k + i]'hki).toNat : Int) = b := ⟨_, rfl⟩
      have hbl : Hid ((((s.data.toList.drop k).getD i 0).toNat : Int) = b) := hid (by rw [hbd]; exact hby)
      have hb255 : 0 ≤ b ∧ b ≤ 255 := by have := (s[k + i]'hki).toNat_lt; omega
      obtain ⟨hb0, hb9⟩ := hb255
      have hr' := hr.out
      rw [runP, if_pos hin] at hr'
      clear hbd hq' hr
      have hkin : (i : Int) < 2 := by omega
      by_cases h8 : b < 128
      · have hq0 : Hid (q = none) := hid (by rw [hr', if_pos (by have := hbl.out; omega)])
        clear hr'
        go_wp2
        go_ret
        exact ⟨ret_int (by rw [hq0.out]; rfl), hb⟩
      · by_cases h9 : 192 ≤ b
        · have hq0 : Hid (q = none) := hid (by rw [hr', if_pos (by have := hbl.out; omega)])
          clear hr'
          go_wp2
          go_ret
          exact ⟨ret_int (by rw [hq0.out]; rfl), hb⟩
        · have hq0 : Hid (q = runP (s.data.toList.drop k) 2 f (i + 1) (64 * p + b - 128)) := hid (by rw [hr', if_neg (by have := hbl.out; omega), hbl.out])
          clear hr'
          have hpp : p < 262144 := by omega
          go_wp2
          go_roundw
          case rel => exact ⟨i + 1, f, 64 * p + b - 128, by go_num, by go_num, by omega, by omega, by omega, by omega, by omega, hb, hq0⟩
          case measure => simp [intOf]; omega
    · obtain rfl : i = 2 := by omega
      obtain ⟨f, rfl⟩ : ∃ f', f = f' + 1 := ⟨f - 1, by omega⟩
      have hq0 : Hid (q = some p) := hid (by rw [hr.out, runP, if_neg (by omega)])
      clear hr hq'
      go_wp2
      all_goals go_ret
      all_goals exact ⟨ret_int (by rw [hq0.out]; unfold sizeN; dsimp only; first | (rw [if_pos (by omega)]; rfl) | (rw [if_neg (by omega)]; rfl)), hb.alloc hsz _⟩

set_option maxHeartbeats 8000000 in
set_option maxRecDepth 20000 in
theorem size_at_three (s : ByteArray) (k : Nat) (hs : s.size ≤ 1000000) (hk : k < s.size) (h0 : 224 ≤ ((s.data.toList.drop k).getD 0 0).toNat) (h1 : ((s.data.toList.drop k).getD 0 0).toNat < 240) (hn : k + 3 ≤ s.size) (w : World) :
    Calls Tryz.prog 113 #[.string s, .int .i64 k] w fun e w' => e = .returned (.int .i64 (sizeL (s.data.toList.drop k))) ∧ Below w.heap.size w w' := by
  have hrun := run_three (s.data.toList.drop k) ⟨h0, h1⟩ (by rw [List.length_drop, bytes_len]; omega)
  have hb0 := byte_drop s k 0 hk
  obtain ⟨c, hc⟩ : ∃ c : Int, ((s[k]'hk).toNat : Int) = c := ⟨_, rfl⟩
  have hci : (((s.data.toList.drop k).getD 0 0).toNat : Int) = c := by rw [← hc, hb0]; rfl
  have hc0 : 224 ≤ c := by omega
  have hc1 : c < 240 := by omega
  rw [hci] at hrun
  obtain ⟨q, hq⟩ : ∃ q, q = runP (s.data.toList.drop k) 3 4 1 (c - 224) := ⟨_, rfl⟩
  rw [← hq] at hrun
  rw [← hrun]
  have hq' := hid hq
  have hni : (k : Int) + 3 ≤ (s.size : Int) := by omega
  clear hrun hci hb0 h0 h1 hq
  go_enter Tryz.func113, Tryz.ntmps113
  go_wp2
  go_loopw [7, 8] (fun x y wr => ∃ (i f : Nat) (p : Int), x = .int .i64 p ∧ y = .int .i64 i ∧ 1 ≤ i ∧ i ≤ 3 ∧ i + f = 5 ∧ 0 ≤ p ∧ (i = 1 ∧ p < 64 ∨ i = 2 ∧ p < 4096 ∨ i = 3 ∧ p < 262144 ∨ i = 4 ∧ p < 16777216) ∧ Below w.heap.size w wr ∧ Hid (q = runP (s.data.toList.drop k) 3 f i p)) (fun _ y _ => 3 - (intOf y).toNat)
  case atStart => exact ⟨1, 4, c - 224, by go_num, by go_num, by omega, by omega, by omega, by omega, by omega, (Below.refl _ w).alloc (Nat.le_refl _) _, hq'⟩
  case round =>
    obtain ⟨i, f, p, rfl, rfl, hi1, hi2, hif, hp0, hpb, hb, hr⟩ := hrel
    have hsz := hb.size
    rcases Nat.lt_or_ge i 3 with hin | hin
    · have hki : k + i < s.size := by omega
      obtain ⟨f, rfl⟩ : ∃ f', f = f' + 1 := ⟨f - 1, by omega⟩
      have hbd := byte_drop s k i hki
      obtain ⟨b, hby⟩ : ∃ b : Int, ((s[k + i]'hki).toNat : Int) = b := ⟨_, rfl⟩
      have hbl : Hid ((((s.data.toList.drop k).getD i 0).toNat : Int) = b) := hid (by rw [hbd]; exact hby)
      have hb255 : 0 ≤ b ∧ b ≤ 255 := by have := (s[k + i]'hki).toNat_lt; omega
      obtain ⟨hb0, hb9⟩ := hb255
      have hr' := hr.out
      rw [runP, if_pos hin] at hr'
      clear hbd hq' hr
      have hkin : (i : Int) < 3 := by omega
      by_cases h8 : b < 128
      · have hq0 : Hid (q = none) := hid (by rw [hr', if_pos (by have := hbl.out; omega)])
        clear hr'
        go_wp2
        go_ret
        exact ⟨ret_int (by rw [hq0.out]; rfl), hb⟩
      · by_cases h9 : 192 ≤ b
        · have hq0 : Hid (q = none) := hid (by rw [hr', if_pos (by have := hbl.out; omega)])
          clear hr'
          go_wp2
          go_ret
          exact ⟨ret_int (by rw [hq0.out]; rfl), hb⟩
        · have hq0 : Hid (q = runP (s.data.toList.drop k) 3 f (i + 1) (64 * p + b - 128)) := hid (by rw [hr', if_neg (by have := hbl.out; omega), hbl.out])
          clear hr'
          have hpp : p < 262144 := by omega
          go_wp2
          go_roundw
          case rel => exact ⟨i + 1, f, 64 * p + b - 128, by go_num, by go_num, by omega, by omega, by omega, by omega, by omega, hb, hq0⟩
          case measure => simp [intOf]; omega
    · obtain rfl : i = 3 := by omega
      obtain ⟨f, rfl⟩ : ∃ f', f = f' + 1 := ⟨f - 1, by omega⟩
      have hq0 : Hid (q = some p) := hid (by rw [hr.out, runP, if_neg (by omega)])
      clear hr hq'
      go_wp2
      all_goals go_ret
      all_goals exact ⟨ret_int (by rw [hq0.out]; unfold sizeN; dsimp only; first | (rw [if_pos (by omega)]; rfl) | (rw [if_neg (by omega)]; rfl)), hb.alloc hsz _⟩

set_option maxHeartbeats 8000000 in
set_option maxRecDepth 20000 in
theorem size_at_four (s : ByteArray) (k : Nat) (hs : s.size ≤ 1000000) (hk : k < s.size) (h0 : 240 ≤ ((s.data.toList.drop k).getD 0 0).toNat) (h1 : ((s.data.toList.drop k).getD 0 0).toNat < 248) (hn : k + 4 ≤ s.size) (w : World) :
    Calls Tryz.prog 113 #[.string s, .int .i64 k] w fun e w' => e = .returned (.int .i64 (sizeL (s.data.toList.drop k))) ∧ Below w.heap.size w w' := by
  have hrun := run_four (s.data.toList.drop k) ⟨h0, h1⟩ (by rw [List.length_drop, bytes_len]; omega)
  have hb0 := byte_drop s k 0 hk
  obtain ⟨c, hc⟩ : ∃ c : Int, ((s[k]'hk).toNat : Int) = c := ⟨_, rfl⟩
  have hci : (((s.data.toList.drop k).getD 0 0).toNat : Int) = c := by rw [← hc, hb0]; rfl
  have hc0 : 240 ≤ c := by omega
  have hc1 : c < 248 := by omega
  rw [hci] at hrun
  obtain ⟨q, hq⟩ : ∃ q, q = runP (s.data.toList.drop k) 4 4 1 (c - 240) := ⟨_, rfl⟩
  rw [← hq] at hrun
  rw [← hrun]
  have hq' := hid hq
  have hni : (k : Int) + 4 ≤ (s.size : Int) := by omega
  clear hrun hci hb0 h0 h1 hq
  go_enter Tryz.func113, Tryz.ntmps113
  go_wp2
  go_loopw [7, 8] (fun x y wr => ∃ (i f : Nat) (p : Int), x = .int .i64 p ∧ y = .int .i64 i ∧ 1 ≤ i ∧ i ≤ 4 ∧ i + f = 5 ∧ 0 ≤ p ∧ (i = 1 ∧ p < 64 ∨ i = 2 ∧ p < 4096 ∨ i = 3 ∧ p < 262144 ∨ i = 4 ∧ p < 16777216) ∧ Below w.heap.size w wr ∧ Hid (q = runP (s.data.toList.drop k) 4 f i p)) (fun _ y _ => 4 - (intOf y).toNat)
  case atStart => exact ⟨1, 4, c - 240, by go_num, by go_num, by omega, by omega, by omega, by omega, by omega, (Below.refl _ w).alloc (Nat.le_refl _) _, hq'⟩
  case round =>
    obtain ⟨i, f, p, rfl, rfl, hi1, hi2, hif, hp0, hpb, hb, hr⟩ := hrel
    have hsz := hb.size
    rcases Nat.lt_or_ge i 4 with hin | hin
    · have hki : k + i < s.size := by omega
      obtain ⟨f, rfl⟩ : ∃ f', f = f' + 1 := ⟨f - 1, by omega⟩
      have hbd := byte_drop s k i hki
      obtain ⟨b, hby⟩ : ∃ b : Int, ((s[k + i]'hki).toNat : Int) = b := ⟨_, rfl⟩
      have hbl : Hid ((((s.data.toList.drop k).getD i 0).toNat : Int) = b) := hid (by rw [hbd]; exact hby)
      have hb255 : 0 ≤ b ∧ b ≤ 255 := by have := (s[k + i]'hki).toNat_lt; omega
      obtain ⟨hb0, hb9⟩ := hb255
      have hr' := hr.out
      rw [runP, if_pos hin] at hr'
      clear hbd hq' hr
      have hkin : (i : Int) < 4 := by omega
      by_cases h8 : b < 128
      · have hq0 : Hid (q = none) := hid (by rw [hr', if_pos (by have := hbl.out; omega)])
        clear hr'
        go_wp2
        go_ret
        exact ⟨ret_int (by rw [hq0.out]; rfl), hb⟩
      · by_cases h9 : 192 ≤ b
        · have hq0 : Hid (q = none) := hid (by rw [hr', if_pos (by have := hbl.out; omega)])
          clear hr'
          go_wp2
          go_ret
          exact ⟨ret_int (by rw [hq0.out]; rfl), hb⟩
        · have hq0 : Hid (q = runP (s.data.toList.drop k) 4 f (i + 1) (64 * p + b - 128)) := hid (by rw [hr', if_neg (by have := hbl.out; omega), hbl.out])
          clear hr'
          have hpp : p < 262144 := by omega
          go_wp2
          go_roundw
          case rel => exact ⟨i + 1, f, 64 * p + b - 128, by go_num, by go_num, by omega, by omega, by omega, by omega, by omega, hb, hq0⟩
          case measure => simp [intOf]; omega
    · obtain rfl : i = 4 := by omega
      obtain ⟨f, rfl⟩ : ∃ f', f = f' + 1 := ⟨f - 1, by omega⟩
      have hq0 : Hid (q = some p) := hid (by rw [hr.out, runP, if_neg (by omega)])
      clear hr hq'
      go_wp2
      all_goals go_ret
      all_goals exact ⟨ret_int (by rw [hq0.out]; unfold sizeN; dsimp only; first | (rw [if_pos (by omega)]; rfl) | (rw [if_neg (by omega)]; rfl)), hb.alloc hsz _⟩

set_option maxHeartbeats 4000000 in
set_option maxRecDepth 20000 in
theorem size_at_low (s : ByteArray) (k : Nat) (hs : s.size ≤ 1000000) (hk : k < s.size) (h1 : ((s.data.toList.drop k).getD 0 0).toNat < 128) (w : World) :
    Calls Tryz.prog 113 #[.string s, .int .i64 k] w fun e w' => e = .returned (.int .i64 (sizeL (s.data.toList.drop k))) ∧ Below w.heap.size w w' := by
  rw [size_one _ h1]
  have hb0 := byte_drop s k 0 hk
  obtain ⟨c, hc⟩ : ∃ c : Int, ((s[k]'hk).toNat : Int) = c := ⟨_, rfl⟩
  have hci : (((s.data.toList.drop k).getD 0 0).toNat : Int) = c := by rw [← hc, hb0]; rfl
  have hc1 : c < 128 := by omega
  have hc0 : 0 ≤ c := by omega
  clear hci hb0 h1
  go_enter Tryz.func113, Tryz.ntmps113
  go_wp2
  go_ret
  exact ⟨rfl, Below.refl _ _⟩

set_option maxHeartbeats 4000000 in
set_option maxRecDepth 20000 in
theorem size_at_none (s : ByteArray) (k : Nat) (hs : s.size ≤ 1000000) (hk : k < s.size) (h0 : 128 ≤ ((s.data.toList.drop k).getD 0 0).toNat) (h1 : ((s.data.toList.drop k).getD 0 0).toNat < 192 ∨ 248 ≤ ((s.data.toList.drop k).getD 0 0).toNat) (w : World) :
    Calls Tryz.prog 113 #[.string s, .int .i64 k] w fun e w' => e = .returned (.int .i64 (sizeL (s.data.toList.drop k))) ∧ Below w.heap.size w w' := by
  rw [size_none _ h0 h1]
  have hb0 := byte_drop s k 0 hk
  obtain ⟨c, hc⟩ : ∃ c : Int, ((s[k]'hk).toNat : Int) = c := ⟨_, rfl⟩
  have hci : (((s.data.toList.drop k).getD 0 0).toNat : Int) = c := by rw [← hc, hb0]; rfl
  have hc1 : c < 192 ∨ 248 ≤ c := by omega
  have hc0 : 128 ≤ c := by omega
  have hc2 : c ≤ 255 := by have := (s[k]'hk).toNat_lt; omega
  clear hci hb0 h1 h0
  rcases hc1 with hc1 | hc1
  all_goals go_enter Tryz.func113, Tryz.ntmps113
  all_goals go_wp2
  all_goals go_ret
  all_goals exact ⟨rfl, Below.refl _ _⟩

set_option maxHeartbeats 4000000 in
set_option maxRecDepth 20000 in
theorem size_at_short (s : ByteArray) (k : Nat) (hs : s.size ≤ 1000000) (hk : k < s.size) (h0 : 192 ≤ ((s.data.toList.drop k).getD 0 0).toNat) (h9 : ((s.data.toList.drop k).getD 0 0).toNat < 248)
    (h : ((s.data.toList.drop k).getD 0 0).toNat < 224 ∧ s.size < k + 2 ∨ 224 ≤ ((s.data.toList.drop k).getD 0 0).toNat ∧ ((s.data.toList.drop k).getD 0 0).toNat < 240 ∧ s.size < k + 3 ∨ 240 ≤ ((s.data.toList.drop k).getD 0 0).toNat ∧ s.size < k + 4) (w : World) :
    Calls Tryz.prog 113 #[.string s, .int .i64 k] w fun e w' => e = .returned (.int .i64 (sizeL (s.data.toList.drop k))) ∧ Below w.heap.size w w' := by
  rw [size_short _ h0 (by rw [List.length_drop, bytes_len]; omega)]
  have hb0 := byte_drop s k 0 hk
  obtain ⟨c, hc⟩ : ∃ c : Int, ((s[k]'hk).toNat : Int) = c := ⟨_, rfl⟩
  have hci : (((s.data.toList.drop k).getD 0 0).toNat : Int) = c := by rw [← hc, hb0]; rfl
  have hh : c < 224 ∧ (s.size : Int) < k + 2 ∨ 224 ≤ c ∧ c < 240 ∧ (s.size : Int) < k + 3 ∨ 240 ≤ c ∧ (s.size : Int) < k + 4 := by omega
  have hc0 : 192 ≤ c := by omega
  have hc2 : c < 248 := by omega
  clear hci hb0 h h0 h9
  rcases hh with ⟨h1, h2⟩ | ⟨h1, h2, h3⟩ | ⟨h1, h2⟩
  all_goals go_enter Tryz.func113, Tryz.ntmps113
  all_goals go_wp2
  all_goals go_ret
  all_goals exact ⟨rfl, Below.refl _ _⟩

theorem size_walk (s : ByteArray) (k : Nat) (hs : s.size ≤ 1000000) (hk : k < s.size) (w : World) :
    Calls Tryz.prog 113 #[.string s, .int .i64 k] w fun e w' => e = .returned (.int .i64 (sizeL (s.data.toList.drop k))) ∧ Below w.heap.size w w' := by
  have h255 := ((s.data.toList.drop k).getD 0 0).toNat_lt
  by_cases h1 : ((s.data.toList.drop k).getD 0 0).toNat < 128
  · exact size_at_low s k hs hk h1 w
  · by_cases h2 : ((s.data.toList.drop k).getD 0 0).toNat < 192 ∨ 248 ≤ ((s.data.toList.drop k).getD 0 0).toNat
    · exact size_at_none s k hs hk (by omega) h2 w
    · by_cases h3 : ((s.data.toList.drop k).getD 0 0).toNat < 224
      · by_cases h6 : k + 2 ≤ s.size
        · exact size_at_two s k hs hk (by omega) h3 h6 w
        · exact size_at_short s k hs hk (by omega) (by omega) (by omega) w
      · by_cases h4 : ((s.data.toList.drop k).getD 0 0).toNat < 240
        · by_cases h6 : k + 3 ≤ s.size
          · exact size_at_three s k hs hk (by omega) h4 h6 w
          · exact size_at_short s k hs hk (by omega) (by omega) (by omega) w
        · by_cases h6 : k + 4 ≤ s.size
          · exact size_at_four s k hs hk (by omega) (by omega) h6 w
          · exact size_at_short s k hs hk (by omega) (by omega) (by omega) w

end Go.Proofs.YthnaanjhmehgcaaGreatDoor
