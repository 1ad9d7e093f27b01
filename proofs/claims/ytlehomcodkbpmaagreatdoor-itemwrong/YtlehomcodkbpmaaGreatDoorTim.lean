/-
  The program's functions of times: what they answer.
  Conditions: the package variables that the library reads hold what the program's text lays; strings of at most 2^48 bytes.
-/
import Derived.Test.YtlehomcodkbpmaaGreatDoorDec
namespace Go.Proofs.YtlehomcodkbpmaaGreatDoor
open Go.ChangeShapes Go.WideShapes Go.ChangeAt Go.RowKit Go.Lib Go.Sort

/-- billionths: none. -/
theorem billion_no (s : ByteArray) (hp : billion (bs s) = none) (w : World) (hL : Laid w) :
    Calls Tryz.prog 91 #[.string s] w fun e w' => (∃ v, e = .returned (.tuple #[.int .u64 v, .bool false])) ∧ Below w.heap.size w w' := by
  by_cases h1 : s.size < 1
  · have i1 : (s.size : Int) < 1 := by omega
    clear h1 hp
    go_enter Tryz.func91, Tryz.ntmps91
    go_wp2
    go_ret2
    exact ⟨⟨0, rfl⟩, Below.refl _ _⟩
  · by_cases h9 : 9 < s.size
    · have i1 : ¬ (s.size : Int) < 1 := by omega
      have i2 : (9 : Int) < s.size := by omega
      clear h1 hp h9
      go_enter Tryz.func91, Tryz.ntmps91
      go_wp2
      go_ret2
      exact ⟨⟨0, rfl⟩, Below.refl _ _⟩
    · have hd : ¬ allD (bs s) = true := by
        intro hd
        unfold billion at hp
        rw [if_pos ⟨hd, by rw [bs_len]; omega, by rw [bs_len]; omega⟩] at hp
        cases hp
      have hx : ({ data := #[48, 48, 48, 48, 48, 48, 48, 48, 48] } : ByteArray).extract s.size 9 = txt (List.replicate (9 - s.size) 48) := by
        have h9 : ({ data := #[48, 48, 48, 48, 48, 48, 48, 48, 48] } : ByteArray) = txt (List.replicate 9 48) := rfl
        have := ext_from (txt (List.replicate 9 48)) s.size
        rw [bs_txt, List.drop_replicate] at this
        rw [h9]
        exact this
      have hcat : s ++ txt (List.replicate (9 - s.size) 48) = txt (bs s ++ List.replicate (9 - s.size) 48) := by
        rw [← txt_app, txt_bs]
      have hln : (bs s ++ List.replicate (9 - s.size) 48).length = 9 := by rw [List.length_append, List.length_replicate, bs_len]; omega
      have hpar := parse_no (txt (bs s ++ List.replicate (9 - s.size) 48)) (by rw [txt_size, hln]; omega) (Or.inr fun h => hd (by
        have := h.1
        rw [bs_txt, allD_app, Bool.and_eq_true] at this
        exact this.1)) w hL
      generalize txt (bs s ++ List.replicate (9 - s.size) 48) = S at *
      generalize txt (List.replicate (9 - s.size) 48) = Z at *
      have i1 : ¬ (s.size : Int) < 1 := by omega
      have i2 : ¬ (9 : Int) < s.size := by omega
      have i3 : (s.size : Int) ≤ 9 := by omega
      have hzs : Z.size ≤ 9 := by rw [← hx]; rw [ByteArray.size_extract]; omega
      have hcs : ¬ 9223372036854775807 < s.size + Z.size := by omega
      clear hp hln hd hzs h1 h9
      go_enter Tryz.func91, Tryz.ntmps91
      go_wp2_with (go_at_call 88; refine hpar.mono ?_; rintro e w' ⟨v, N, rfl, hb⟩)
      go_region
      go_wp2
      go_ret2
      exact ⟨⟨v, rfl⟩, hb.drew⟩

theorem ahead_len (l : List UInt8) : (ahead l).length ≤ l.length := (List.takeWhile_prefix _).length_le
theorem size_ahead (s : ByteArray) : (txt (ahead (bs s))).size ≤ s.size := by rw [txt_size, ← bs_len]; exact ahead_len _

/-- value: seconds and billionths. -/
theorem value_yes (s : ByteArray) (hs : s.size ≤ 281474976710656) (u p : Nat) (hv : valueOf (bs s) = some (u, p)) (w : World) :
    Calls Tryz.prog 79 #[.string s] w fun e w' => e = .returned (.tuple #[.int .u64 u, .int .u64 p, .bool true]) ∧ Below w.heap.size w w' := by
  have hcut := cut_ok s hs w
  unfold valueOf at hv
  cases hn : nat63 (ahead (bs s)) with
  | none => rw [hn] at hv; cases hv
  | some u' =>
    rw [hn] at hv
    simp only at hv
    have hnat : ∀ w, _ := fun w => natural_yes (txt (ahead (bs s))) (Nat.le_trans (size_ahead s) hs) u' (by rw [bs_txt]; exact hn) w
    by_cases hpt : pointed (bs s) = true
    · rw [if_pos hpt] at hv
      cases hb : billion (behind (bs s)) with
      | none => rw [hb] at hv; cases hv
      | some p' =>
        rw [hb] at hv
        simp only [Option.map_some, Option.some.injEq, Prod.mk.injEq] at hv
        obtain ⟨rfl, rfl⟩ := hv
        have hbil : ∀ w, _ := fun w => billion_yes (txt (behind (bs s))) p' (by rw [bs_txt]; exact hb) w
        rw [hpt] at hcut
        clear hb hn hpt
        go_enter Tryz.func79, Tryz.ntmps79
        go_wp2_with (first
          | (go_at_call 90; refine hcut.mono ?_; rintro e w1 ⟨rfl, hb1⟩)
          | (go_at_call 77; refine (hnat _).mono ?_; rintro e w2 ⟨rfl, hb2⟩)
          | (go_at_call 91; refine (hbil _).mono ?_; rintro e w3 ⟨rfl, hb3⟩))
        go_ret3
        exact ⟨rfl, hb1.trans ((hb2.mono hb1.size).trans (hb3.mono (Nat.le_trans hb1.size hb2.size)))⟩
    · rw [if_neg hpt] at hv
      simp only [Option.some.injEq, Prod.mk.injEq] at hv
      obtain ⟨rfl, rfl⟩ := hv
      rw [Bool.not_eq_true] at hpt
      rw [hpt] at hcut
      clear hn hpt
      go_enter Tryz.func79, Tryz.ntmps79
      go_wp2_with (first
        | (go_at_call 90; refine hcut.mono ?_; rintro e w1 ⟨rfl, hb1⟩)
        | (go_at_call 77; refine (hnat _).mono ?_; rintro e w2 ⟨rfl, hb2⟩))
      go_ret3
      exact ⟨rfl, hb1.trans (hb2.mono hb1.size)⟩
/-- value: none. -/
theorem value_no (s : ByteArray) (hs : s.size ≤ 281474976710656) (hv : valueOf (bs s) = none) (w : World) (hL : Laid w) :
    Calls Tryz.prog 79 #[.string s] w fun e w' => (∃ a b, e = .returned (.tuple #[.int .u64 a, .int .u64 b, .bool false])) ∧ Below w.heap.size w w' := by
  have hcut := cut_ok s hs w
  unfold valueOf at hv
  cases hn : nat63 (ahead (bs s)) with
  | none =>
    have hnat : ∀ w, Laid w → _ := fun w hL => natural_no (txt (ahead (bs s))) (Nat.le_trans (size_ahead s) hs) (by rw [bs_txt]; exact hn) w hL
    clear hn hv
    generalize pointed (bs s) = pp at *
    go_enter Tryz.func79, Tryz.ntmps79
    go_wp2_with (first
      | (go_at_call 90; refine hcut.mono ?_; rintro e w1 ⟨rfl, hb1⟩; have hL1 := hL.below hb1)
      | (go_at_call 77; refine (hnat _ hL1).mono ?_; rintro e w2 ⟨rfl, hb2⟩))
    go_ret3
    exact ⟨⟨_, _, rfl⟩, hb1.trans (hb2.mono hb1.size)⟩
  | some u' =>
    rw [hn] at hv
    simp only at hv
    have hnat : ∀ w, _ := fun w => natural_yes (txt (ahead (bs s))) (Nat.le_trans (size_ahead s) hs) u' (by rw [bs_txt]; exact hn) w
    by_cases hpt : pointed (bs s) = true
    · rw [if_pos hpt] at hv
      cases hb : billion (behind (bs s)) with
      | some p' => rw [hb] at hv; cases hv
      | none =>
        have hbil : ∀ w, Laid w → _ := fun w hL => billion_no (txt (behind (bs s))) (by rw [bs_txt]; exact hb) w hL
        rw [hpt] at hcut
        clear hb hn hpt hv
        go_enter Tryz.func79, Tryz.ntmps79
        go_wp2_with (first
          | (go_at_call 90; refine hcut.mono ?_; rintro e w1 ⟨rfl, hb1⟩; have hL1 := hL.below hb1)
          | (go_at_call 77; refine (hnat _).mono ?_; rintro e w2 ⟨rfl, hb2⟩; have hL2 := hL1.below hb2)
          | (go_at_call 91; refine (hbil _ hL2).mono ?_; rintro e w3 ⟨⟨v, rfl⟩, hb3⟩))
        go_ret3
        exact ⟨⟨_, _, rfl⟩, hb1.trans ((hb2.mono hb1.size).trans (hb3.mono (Nat.le_trans hb1.size hb2.size)))⟩
    · rw [if_neg hpt] at hv
      cases hv

set_option maxHeartbeats 2000000 in
set_option maxRecDepth 20000 in
theorem under_yes (u p : Nat) (hu : u ≤ 9223372036854775808) (hp : p < 1000000000) (a b : Int) (h : underOf u p = some (a, b)) (w : World) :
    Calls Tryz.prog 80 #[.int .u64 u, .int .u64 p] w fun e w' => e = .returned (.tuple #[.agg #[.int .i64 a, .int .i64 b], .int .u8 0]) ∧ Below w.heap.size w w' := by
  unfold underOf at h
  by_cases hp0 : 0 < p
  · rw [if_pos hp0] at h
    by_cases hm : 9223372036854775808 < u + 1
    · rw [if_pos hm] at h; cases h
    · rw [if_neg hm] at h
      simp only [Option.some.injEq, Prod.mk.injEq] at h
      obtain ⟨rfl, rfl⟩ := h
      have i1 : (0 : Int) < p := by omega
      have i2 : IntKind.u64.wrap ((u : Int) + 1) = u + 1 := by rw [IntKind.wrap_u64]; omega
      have i3 : IntKind.u64.wrap (1000000000 - (p : Int)) = 1000000000 - p := by rw [IntKind.wrap_u64]; omega
      have i4 : ¬ (9223372036854775808 : Int) < u + 1 := by omega
      have i5 : wrap64 (IntKind.u64.wrap (-((u : Int) + 1))) = -((u : Int) + 1) := by unfold wrap64; rw [IntKind.wrap_u64]; omega
      have i6 : IntKind.i64.wrap (1000000000 - (p : Int)) = 1000000000 - p := by rw [IntKind.wrap_i64]; omega
      have I5 := hid i5
      clear hp0 hm hu hp i5
      go_enter Tryz.func80, Tryz.ntmps80
      go_wp2
      refine bodyPost_ret (v := .tuple #[.agg #[.int .i64 (-((u : Int) + 1)), .int .i64 (1000000000 - (p : Int))], .int .u8 0]) ?_ rfl ⟨rfl, (Below.refl _ _).alloc (Nat.le_refl _) _⟩
      rw [I5.out]
      simp [results, Tryz.results80, go_sem]
  · rw [if_neg hp0] at h
    rw [if_neg (by omega)] at h
    simp only [Option.some.injEq, Prod.mk.injEq] at h
    obtain ⟨rfl, rfl⟩ := h
    obtain rfl : p = 0 := by omega
    have i4 : ¬ (9223372036854775808 : Int) < u := by omega
    have i5 : wrap64 (IntKind.u64.wrap (-(u : Int))) = -(u : Int) := by unfold wrap64; rw [IntKind.wrap_u64]; omega
    have I5 := hid i5
    clear hp0 hu hp i5
    go_enter Tryz.func80, Tryz.ntmps80
    go_wp2
    refine bodyPost_ret (v := .tuple #[.agg #[.int .i64 (-(u : Int)), .int .i64 0], .int .u8 0]) ?_ rfl ⟨rfl, (Below.refl _ _).alloc (Nat.le_refl _) _⟩
    rw [I5.out]
    simp [results, Tryz.results80, go_sem]

set_option maxHeartbeats 2000000 in
set_option maxRecDepth 20000 in
theorem under_no (u p : Nat) (hu : u ≤ 9223372036854775808) (hp : p < 1000000000) (h : underOf u p = none) (w : World) :
    Calls Tryz.prog 80 #[.int .u64 u, .int .u64 p] w fun e w' => e = .returned (.tuple #[.agg #[.int .i64 0, .int .i64 0], .int .u8 15]) ∧ Below w.heap.size w w' := by
  unfold underOf at h
  by_cases hp0 : 0 < p
  · rw [if_pos hp0] at h
    by_cases hm : 9223372036854775808 < u + 1
    · have i1 : (0 : Int) < p := by omega
      have i2 : IntKind.u64.wrap ((u : Int) + 1) = u + 1 := by rw [IntKind.wrap_u64]; omega
      have i3 : IntKind.u64.wrap (1000000000 - (p : Int)) = 1000000000 - p := by rw [IntKind.wrap_u64]; omega
      have i4 : (9223372036854775808 : Int) < u + 1 := by omega
      clear hp0 hm hu hp h
      go_enter Tryz.func80, Tryz.ntmps80
      go_wp2
      refine bodyPost_ret (v := .tuple #[.agg #[.int .i64 0, .int .i64 0], .int .u8 15]) ?_ rfl ⟨rfl, (Below.refl _ _).alloc (Nat.le_refl _) _⟩
      simp [results, Tryz.results80, go_sem]
    · rw [if_neg hm] at h; cases h
  · rw [if_neg hp0] at h
    rw [if_neg (by omega)] at h
    cases h

theorem value_bounds {l : List UInt8} {u p : Nat} (h : valueOf l = some (u, p)) : u ≤ 9223372036854775808 ∧ p < 1000000000 := by
  unfold valueOf at h
  cases hn : nat63 (ahead l) with
  | none => rw [hn] at h; cases h
  | some u' =>
    rw [hn] at h
    simp only at h
    have hu := (nat63_some hn).2.2.2.2
    by_cases hpt : pointed l = true
    · rw [if_pos hpt] at h
      cases hb : billion (behind l) with
      | none => rw [hb] at h; cases h
      | some p' =>
        rw [hb] at h
        simp only [Option.map_some, Option.some.injEq, Prod.mk.injEq] at h
        obtain ⟨rfl, rfl⟩ := h
        refine ⟨hu, ?_⟩
        unfold billion at hb
        split at hb
        · rename_i hh
          obtain ⟨hd, h1, h9⟩ := hh
          injection hb with hb
          have := val_lt _ hd
          rw [← hb]
          have hpow : 10 ^ (behind l).length * 10 ^ (9 - (behind l).length) = 1000000000 := by
            rw [← Nat.pow_add, show (behind l).length + (9 - (behind l).length) = 9 by omega]
          rw [← hpow]
          exact Nat.mul_lt_mul_of_pos_right this (Nat.pow_pos (by omega))
        · cases hb
    · rw [if_neg hpt] at h
      simp only [Option.some.injEq, Prod.mk.injEq] at h
      obtain ⟨rfl, rfl⟩ := h
      exact ⟨hu, by omega⟩

/-- What lies in the block of the result, behind calls. -/
theorem laid_res {w w1 : World} {t : TypeId} (hb : Below (w.alloc (Obj.cells #[.int .i64 0, .int .i64 0] t)).heap.size (w.alloc (Obj.cells #[.int .i64 0, .int .i64 0] t)) w1) :
    w.heap.size < w1.heap.size ∧ w1.cell? ⟨w.heap.size, 0, none⟩ = some (.int .i64 0) ∧ w1.cell? ⟨w.heap.size, 1, none⟩ = some (.int .i64 0) ∧ w1.frozen? ⟨w.heap.size, 0, none⟩ = false ∧ w1.frozen? ⟨w.heap.size, 1, none⟩ = false ∧ Below w.heap.size w w1 := by
  have hlt : w.heap.size < w1.heap.size := by have := hb.size; simp at this; omega
  refine ⟨hlt, (hb.cell (p := ⟨w.heap.size, 0, none⟩) (by simp)).trans (by simp), (hb.cell (p := ⟨w.heap.size, 1, none⟩) (by simp)).trans (by simp), (hb.frozen (p := ⟨w.heap.size, 0, none⟩) (by simp)).trans (by simp), (hb.frozen (p := ⟨w.heap.size, 1, none⟩) (by simp)).trans (by simp), ?_⟩
  exact ((Below.refl _ w).alloc (Nat.le_refl _) _).trans (hb.mono (by simp))

theorem below_alloc (w : World) (o : Obj) : Below w.heap.size w (w.alloc o) := (Below.refl _ w).alloc (Nat.le_refl _) _

set_option maxHeartbeats 4000000 in
set_option maxRecDepth 20000 in
/-- Time: a time's text. -/
theorem time_ok (s : ByteArray) (hs : s.size ≤ 281474976710656) (w : World) (hL : Laid w) (a b c : Int)
    (h : timeOf (bs s) = some (a, b) ∧ c = 0 ∨ timeOf (bs s) = none ∧ a = 0 ∧ b = 0 ∧ c = 15) :
    Calls Tryz.prog 69 #[.string s] w fun e w' => e = .returned (.tuple #[.agg #[.int .i64 a, .int .i64 b], .int .u8 c]) ∧ Below w.heap.size w w' := by
  have hmin := minus_ok s
  obtain ⟨R, hR⟩ : ∃ R : List UInt8, R = if (bs s).head? = some 45 then (bs s).tail else bs s := ⟨_, rfl⟩
  obtain ⟨bl, hbl⟩ : ∃ bl : Bool, bl = decide ((bs s).head? = some 45) := ⟨_, rfl⟩
  have hRs : (txt R).size ≤ 281474976710656 := by
    rw [txt_size, hR]
    have : (bs s).length ≤ 281474976710656 := by rw [bs_len]; exact hs
    split
    · rw [List.length_tail]; omega
    · exact this
  have htm : timeOf (bs s) = match valueOf R with
      | none => none
      | some (u, p) => if bl = true then underOf u p else if 9223372036854775807 < u then none else some ((u : Int), (p : Int)) := by
    unfold timeOf
    rw [← hR]
    cases valueOf R with
    | none => rfl
    | some q => obtain ⟨u, p⟩ := q; rw [hbl]; simp only [decide_eq_true_eq]
  rw [← hR, ← hbl] at hmin
  clear hR hbl
  rw [htm] at h
  clear htm
  cases hv : valueOf R with
  | none =>
    rw [hv] at h
    obtain ⟨h, _⟩ | ⟨_, rfl, rfl, rfl⟩ := h
    · cases h
    have hval : ∀ w, Laid w → _ := fun w hL => value_no (txt R) hRs (by rw [bs_txt]; exact hv) w hL
    clear hv
    go_enter Tryz.func69, Tryz.ntmps69
    go_wp2_with (first
      | (go_at_call 78; refine (hmin _).mono ?_; rintro e w1 ⟨rfl, rfl⟩)
      | (go_at_call 79; refine (hval _ (hL.below (below_alloc _ _))).mono ?_; rintro e w1 ⟨⟨v1, v2, rfl⟩, hb1⟩; obtain ⟨hlt, q0, q1, z0, z1, hB⟩ := laid_res hb1; clear hb1))
    refine bodyPost_ret (v := .tuple #[.agg #[.int .i64 0, .int .i64 0], .int .u8 15]) ?_ rfl ⟨rfl, (hB.setCell (Nat.le_refl _) _).setCell (Nat.le_refl _) _⟩
    simp [results, Tryz.results69, go_sem, q0, q1]
  | some q =>
    obtain ⟨u, p⟩ := q
    rw [hv] at h
    simp only at h
    obtain ⟨hu, hp⟩ := value_bounds hv
    have hval : ∀ w, _ := fun w => value_yes (txt R) hRs u p (by rw [bs_txt]; exact hv) w
    clear hv
    cases bl with
    | true =>
      simp only [if_true] at h
      have hun : ∀ w, Calls Tryz.prog 80 #[.int .u64 u, .int .u64 p] w fun e w' => e = .returned (.tuple #[.agg #[.int .i64 a, .int .i64 b], .int .u8 c]) ∧ Below w.heap.size w w' := by
        intro w
        obtain ⟨h, rfl⟩ | ⟨h, rfl, rfl, rfl⟩ := h
        · exact under_yes u p hu hp a b h w
        · exact under_no u p hu hp h w
      clear h hu hp
      go_enter Tryz.func69, Tryz.ntmps69
      go_wp2_with (first
        | (go_at_call 78; refine (hmin _).mono ?_; rintro e w1 ⟨rfl, rfl⟩)
        | (go_at_call 79; refine (hval _).mono ?_; rintro e w1 ⟨rfl, hb1⟩)
        | (go_at_call 80; refine (hun _).mono ?_; rintro e w2 ⟨rfl, hb2⟩; obtain ⟨hlt, q0, q1, z0, z1, hB⟩ := laid_res (hb1.trans (hb2.mono hb1.size)); clear hb1 hb2))
      refine bodyPost_ret (v := .tuple #[.agg #[.int .i64 a, .int .i64 b], .int .u8 c]) ?_ rfl ⟨rfl, (hB.setCell (Nat.le_refl _) _).setCell (Nat.le_refl _) _⟩
      simp [results, Tryz.results69, go_sem, q0, q1]
    | false =>
      by_cases hm : 9223372036854775807 < u
      · simp only [if_pos hm] at h
        obtain ⟨h, _⟩ | ⟨_, rfl, rfl, rfl⟩ := h
        · cases h
        have hmi : (9223372036854775807 : Int) < u := by omega
        clear hu hp hm
        go_enter Tryz.func69, Tryz.ntmps69
        go_wp2_with (first
          | (go_at_call 78; refine (hmin _).mono ?_; rintro e w1 ⟨rfl, rfl⟩)
          | (go_at_call 79; refine (hval _).mono ?_; rintro e w1 ⟨rfl, hb1⟩; obtain ⟨hlt, q0, q1, z0, z1, hB⟩ := laid_res hb1; clear hb1))
        refine bodyPost_ret (v := .tuple #[.agg #[.int .i64 0, .int .i64 0], .int .u8 15]) ?_ rfl ⟨rfl, (hB.setCell (Nat.le_refl _) _).setCell (Nat.le_refl _) _⟩
        simp [results, Tryz.results69, go_sem, q0, q1]
      · simp only [if_neg hm] at h
        obtain ⟨h, rfl⟩ | ⟨h, _⟩ := h
        · simp only [Bool.false_eq_true, if_false, Option.some.injEq, Prod.mk.injEq] at h
          obtain ⟨rfl, rfl⟩ := h
          have hmi : ¬ (9223372036854775807 : Int) < u := by omega
          have hmi2 : (u : Int) ≤ 9223372036854775807 := by omega
          have hpi2 : (p : Int) ≤ 9223372036854775807 := by omega
          clear hu hp hm
          go_enter Tryz.func69, Tryz.ntmps69
          go_wp2_with (first
            | (go_at_call 78; refine (hmin _).mono ?_; rintro e w1 ⟨rfl, rfl⟩)
            | (go_at_call 79; refine (hval _).mono ?_; rintro e w1 ⟨rfl, hb1⟩; obtain ⟨hlt, q0, q1, z0, z1, hB⟩ := laid_res hb1; clear hb1))
          refine bodyPost_ret (v := .tuple #[.agg #[.int .i64 (u : Int), .int .i64 (p : Int)], .int .u8 0]) ?_ rfl ⟨rfl, (hB.setCell (Nat.le_refl _) _).setCell (Nat.le_refl _) _⟩
          simp [results, Tryz.results69, go_sem, q0, q1]
        · cases h
end Go.Proofs.YtlehomcodkbpmaaGreatDoor
