/-
  Numbers in fields (from stage 1): RefPut. No condition.
-/
import Derived.Test.YtgjbopbpekocpaaPad
import Derived.Test.YtgjbopbpekocpaaRowops
namespace Go.Proofs.Ytgjbopbpekocpaa
open Go.ChangeShapes Go.WideShapes Go.ChangeAt Go.RowKit
set_option linter.unusedVariables false
set_option maxRecDepth 20000

/-- one step of a row of bytes that is turned in its place, from its head on -/
theorem row_map {w : World} {B g k c j : Nat} (f : Int → Int) {d : List Int} (hd : d.length = k) (hj : j < k) (h : w.ownsRow B 5 1 (.slice (some ⟨g, 0, none⟩) k c) k (u8s ((d.take j).map f ++ d.drop j))) :
    ∃ x, x ∈ d ∧ w.cell? ⟨g, j, none⟩ = some (.int .u8 x) ∧ w.frozen? ⟨g, j, none⟩ = false ∧
    (w.setCell ⟨g, j, none⟩ (.int .u8 (f x))).ownsRow B 5 1 (.slice (some ⟨g, 0, none⟩) k c) k (u8s ((d.take (j + 1)).map f ++ d.drop (j + 1))) := by
  have hjd : j < d.length := by omega
  have hl : ((d.take j).map f).length = j := by simp; omega
  refine ⟨d[j], List.getElem_mem hjd, ?_, h.frozenAt j, ?_⟩
  · rw [h.cellAt j (by omega), u8s_get _ _ (by simp; omega), List.getD_eq_getElem?_getD, List.getElem?_append_right (by omega), hl]
    simp [hjd]
  · have e : u8s ((d.take (j + 1)).map f ++ d.drop (j + 1)) = (u8s ((d.take j).map f ++ d.drop j)).set j (.int .u8 (f d[j])) := by
      unfold u8s
      rw [← List.map_set]
      congr 1
      rw [List.set_append, if_neg (by omega), hl, Nat.sub_self, List.drop_eq_getElem_cons hjd, List.set_cons_zero, List.take_succ_eq_append_getElem hjd, List.map_append, List.append_assoc]
      rfl
    rw [e]; exact (h.stored j _).1

theorem own_shape' {w : World} {B n g c m : Nat} {xs : List Value} (h : w.ownsRow B 5 1 (.slice (some ⟨g, 0, none⟩) m c) n xs) : B ≤ g := (h.lt g rfl).1

theorem lets_eq (n : Int) (k : Nat) : (digs 8 n k).map (fun x => x + 48) = lets n k := by
  unfold lets; congr 1; funext x; omega

set_option maxRecDepth 10000 in
set_option maxHeartbeats 2000000 in
theorem refPutOct_any (w : World) (n : Int) (k : Nat) (wd : Bool) (hk1 : 2 ≤ k) (hk : k ≤ 32) (hn : 0 ≤ n) (hn2 : n ≤ 9223372036854775807) (hm : n ≤ most k) :
    Calls Try.prog 43 #[.int .i64 n, .int .i64 k, .bool wd] w fun e w' => ∃ v, e = .returned (.tuple #[v, .int .i64 0]) ∧
      w'.ownsRow w.heap.size 5 1 v k (u8s (octB n k)) ∧ Below w.heap.size w w' := by
  obtain ⟨i0, hi, hz0, hz1, hz2⟩ := info_parts Try.info5
  obtain ⟨q, hqk, hq0, hq1, hE⟩ : ∃ q : Nat, q ≤ k ∧ 0 < q ∧ k ≤ q + 1 ∧ Hid (octB n k = (if q < k then lets n q ++ [0] else lets n q) ∧ (q : Int) = if n ≤ most ((k : Int) - 1) then (k : Int) - 1 else k) := by
    by_cases h : n ≤ most ((k : Int) - 1)
    · exact ⟨k - 1, by omega, by omega, by omega, hid ⟨by unfold octB; rw [if_pos h, if_pos (by omega)], by rw [if_pos h]; omega⟩⟩
    · exact ⟨k, by omega, by omega, by omega, hid ⟨by unfold octB; rw [if_neg h, if_neg (by omega)], by rw [if_neg h]⟩⟩
  go_enter Try.func43, Try.ntmps43
  go_upto_if 33 with (go_at_call 57; refine (refMost_any _ _).mono ?_; rintro e w' ⟨hw, rfl⟩; obtain rfl := hw.symm)
  go_cut [8] (fun x w1 => w1 = w ∧ x = .int .i64 q)
  case first =>
    by_cases h : n ≤ most ((k : Int) - 1)
    · go_wp2
      go_meet
      case rel => exact ⟨rfl, by rw [hE.out.2, if_pos h]⟩
    · go_wp2
      go_meet
      case rel => exact ⟨rfl, by rw [hE.out.2, if_neg (by omega)]⟩
  case rest =>
    obtain ⟨rfl, rfl⟩ := hcut
    go_wp2_with (go_at_call 58; refine (digits8_any _ n q (by omega) hn hn2).mono ?_; rintro e w1 ⟨g, rfl, hown, hb1⟩)
    have hown1 := hid hown
    clear hown
    have hdl : Hid ((digs 8 n q).length = q) := hid (digs_length _ _ _)
    go_loopw [10] (fun i wr => ∃ (j : Nat), j ≤ q ∧ i = .int .i64 j ∧ wr.ownsRow wc.heap.size 5 1 (.slice (some ⟨g, 0, none⟩) q q) q (u8s (((digs 8 n q).take j).map (fun x => x + 48) ++ (digs 8 n q).drop j)) ∧ Below wc.heap.size wc wr) (fun i _ => q - (intOf i).toNat)
    case atStart => exact ⟨0, by omega, rfl, by simpa using hown1.out, hb1⟩
    case round =>
      obtain ⟨j, hj, rfl, hown, hbe⟩ := hrel
      by_cases hlt : j < q
      · obtain ⟨x, hx, hc, hf, hst⟩ := row_map (fun x => x + 48) hdl.out hlt hown
        obtain ⟨hx0, hx1⟩ := digs_range 8 n q (by omega) x hx
        have hst' := hid hst
        have hgb := (own_shape' hown)
        clear hst hown hx
        go_wp2
        go_roundw
        case rel => exact ⟨j + 1, by omega, by go_num, hst'.out, hbe.setCell hgb _⟩
        case measure => simp [intOf]; omega
      · obtain rfl : j = q := by omega
        have hown2 : Hid (wr.ownsRow wc.heap.size 5 1 (.slice (some ⟨g, 0, none⟩) j j) j (u8s (lets n j))) := hid (by
          rw [List.take_of_length_le (by rw [hdl.out]; omega), List.drop_of_length_le (by rw [hdl.out]; omega), List.append_nil, lets_eq] at hown; exact hown)
        clear hown hown1 hdl
        have hsz := hbe.size
        by_cases hjk : j < k
        · go_wp2_with (at_builtin; refine wpList_append_own _ rfl (.tmp 55) (.tmp 56) 22 rfl wc.heap.size 5 i0 (.int .u8 0) 1 1 Try.underlying22 hi hz0 hz1 hz2 rfl (by decide) _ _ _ rfl (hown2.out.alloc _) ⟨wr.heap.size, 0, none⟩ 1 1 [_] rfl rfl (cell_one_new _ _ _) (by intro u hu; simp at hu; subst hu; rfl) (by unfold maxLen; omega) (by omega) (by simp; omega) ?_; intro v3 w4 hown4 hgrow4 _)
          have hbf2 := (hbe.alloc hsz (.cells #[.int .u8 0] 5)).grown hgrow4 (by simp; omega) (fun b hk => (hown2.out.lt b hk).1)
          go_ret2
          refine ⟨_, rfl, ?_, hbf2⟩
          rw [hE.out.1, if_pos hjk, ← u8s_app, show k = j + 1 by omega]
          exact hown4
        · go_wp2
          all_goals go_ret2
          all_goals exact ⟨_, rfl, by rw [hE.out.1, if_neg hjk, show k = j by omega]; exact hown2.out, hbe⟩

theorem fit_small (n : Int) (q : Nat) (hq : q + 1 < 9) : fit n (q + 1) = (decide (-256 ^ q ≤ n) && decide (n < 256 ^ q)) := by
  simp only [fit, Nat.add_sub_cancel]
  rw [Nat.min_eq_left (by omega), show (2 : Int) ^ (8 * q) = 256 ^ q by rw [Int.pow_mul]; rfl]

theorem fit_large (n : Int) (q : Nat) (hq : 9 ≤ q + 1) (h3 : -9223372036854775808 ≤ n) (h4 : n ≤ 9223372036854775807) : fit n (q + 1) = true := by
  simp only [fit, Nat.add_sub_cancel]
  rw [Nat.min_eq_right (by omega)]
  simp; omega

theorem pow256_le (q : Nat) (hq : q ≤ 7) : (256 : Int) ^ q ≤ 72057594037927936 := by
  have := pow_le_of (B := 256) (by omega) hq
  have e : ((256 : Nat) : Int) = 256 := rfl
  rw [e] at this
  have : (256 : Int) ^ 7 = 72057594037927936 := by decide
  omega

/-- what the document's way looks at: the number, or its other side -/
def sizeOf' (n : Int) : Int := if n < 0 then -(n + 1) else n

theorem sizeOf_range (n : Int) (h3 : -9223372036854775808 ≤ n) (h4 : n ≤ 9223372036854775807) : 0 ≤ sizeOf' n ∧ sizeOf' n ≤ 9223372036854775807 := by
  unfold sizeOf'; split <;> omega

theorem fit_size (n : Int) (q : Nat) (hq : q + 1 < 9) : fit n (q + 1) = !decide (256 ^ q ≤ sizeOf' n) := by
  rw [fit_small n q hq, Bool.eq_iff_iff]
  unfold sizeOf'
  simp only [Bool.and_eq_true, decide_eq_true_eq, Bool.not_eq_true', decide_eq_false_iff_not]
  split <;> omega

theorem flip_list (n : Int) (q : Nat) (h : n < 0) : (digs 256 (sizeOf' n) q).map (fun x => 255 - x) = digs 256 n q := by
  rw [sizeOf', if_pos h, digs_flip, List.map_map]
  conv => rhs; rw [← List.map_id (digs 256 n q)]
  congr 1
  funext x
  show 255 - (255 - x) = x
  omega

set_option maxRecDepth 10000 in
set_option maxHeartbeats 2000000 in
theorem refPutNo_any (w : World) (n : Int) (q : Nat) (wd : Bool) (hk1 : 1 ≤ q) (hk : q ≤ 31) (hn : -9223372036854775808 ≤ n) (hn2 : n ≤ 9223372036854775807) (hm : n < 0 ∨ most ((q : Int) + 1) < n) (hf : (wd && fit n (q + 1)) = false) :
    Calls Try.prog 43 #[.int .i64 n, .int .i64 ((q : Int) + 1), .bool wd] w fun e w' => w' = w ∧ e = .returned (.tuple #[.slice none 0 0, .int .i64 5]) := by
  obtain ⟨hs0, hs1⟩ := sizeOf_range n hn hn2
  have hcase : wd = false ∨ (wd = true ∧ q + 1 < 9 ∧ 256 ^ q ≤ sizeOf' n) := by
    cases wd
    · exact .inl rfl
    · right
      have hf' : fit n (q + 1) = false := by simpa using hf
      by_cases h9 : q + 1 < 9
      · rw [fit_size n q h9] at hf'
        exact ⟨rfl, h9, by simpa using hf'⟩
      · rw [fit_large n q (by omega) hn hn2] at hf'; cases hf'
  clear hf
  go_enter Try.func43, Try.ntmps43
  by_cases hneg : n < 0
  · have hsz : Hid (sizeOf' n = -(n + 1)) := hid (by rw [sizeOf', if_pos hneg])
    clear hm
    rcases hcase with rfl | ⟨rfl, h9, hge⟩
    · go_wp2_with (go_at_call 57; refine (refMost_any _ _).mono ?_; rintro e w' ⟨hw, rfl⟩; obtain rfl := hw.symm)
      all_goals go_ret2
      all_goals exact ⟨rfl, rfl⟩
    · have hp := pow256_le q (by omega)
      have hge' : (256 : Int) ^ q ≤ -(n + 1) := by rw [← hsz.out]; exact hge
      clear hge
      go_wp2_with (first | (go_at_call 57; refine (refMost_any _ _).mono ?_; rintro e w' ⟨hw, rfl⟩; obtain rfl := hw.symm) | (go_at_call 59; refine (power256_any _ q (by omega) (by omega)).mono ?_; rintro e w' ⟨hw, rfl⟩; obtain rfl := hw.symm))
      all_goals go_ret2
      all_goals exact ⟨rfl, rfl⟩
  · have hsz : Hid (sizeOf' n = n) := hid (by rw [sizeOf', if_neg hneg])
    have hm' : most ((q : Int) + 1) < n := by omega
    clear hm
    rcases hcase with rfl | ⟨rfl, h9, hge⟩
    · go_wp2_with (go_at_call 57; refine (refMost_any _ _).mono ?_; rintro e w' ⟨hw, rfl⟩; obtain rfl := hw.symm)
      all_goals go_ret2
      all_goals exact ⟨rfl, rfl⟩
    · have hp := pow256_le q (by omega)
      have hge' : (256 : Int) ^ q ≤ n := by rw [← hsz.out]; exact hge
      clear hge
      go_wp2_with (first | (go_at_call 57; refine (refMost_any _ _).mono ?_; rintro e w' ⟨hw, rfl⟩; obtain rfl := hw.symm) | (go_at_call 59; refine (power256_any _ q (by omega) (by omega)).mono ?_; rintro e w' ⟨hw, rfl⟩; obtain rfl := hw.symm))
      all_goals go_ret2
      all_goals exact ⟨rfl, rfl⟩

theorem flips {n : Int} {q : Nat} (h : n < 0) : (128 :: digs 256 (sizeOf' n) q).map (fun x => 255 - x) = 127 :: digs 256 n q := by
  rw [List.map_cons, flip_list n q h]; rfl

theorem row_first' {w : World} {B g k cap : Nat} {c v : Int} {d : List Int} (h : w.ownsRow B 5 1 (.slice (some ⟨g, 0, none⟩) k cap) k (u8s (c :: d))) :
    w.cell? ⟨g, 0, none⟩ = some (.int .u8 c) ∧ w.frozen? ⟨g, 0, none⟩ = false ∧
    (w.setCell ⟨g, 0, none⟩ (.int .u8 v)).ownsRow B 5 1 (.slice (some ⟨g, 0, none⟩) k cap) k (u8s (v :: d)) := by
  have hl : k = 1 + d.length := by have := h.1; simp [u8s] at this; omega
  refine ⟨?_, h.frozenAt 0, (h.stored 0 _).1⟩
  rw [h.cellAt 0 (by omega), u8s_get _ _ (by simp)]; rfl

theorem bytes_range (n : Int) (q : Nat) : ∀ x ∈ (128 :: digs 256 n q), 0 ≤ x ∧ x ≤ 255 := by
  intro x hx
  simp only [List.mem_cons] at hx
  rcases hx with rfl | hx
  · omega
  · have := digs_range 256 _ _ (by omega) x hx; omega

theorem own_lit1 (w : World) : (w.alloc (.cells #[.int .u8 128] 5)).ownsRow w.heap.size 5 1 (.slice (some ⟨w.heap.size, 0, none⟩) 1 1) 1 (u8s [128]) :=
  World.ownsRow_lit w #[.int .u8 128] 1 (Nat.le_refl _) (by unfold maxLen; omega) rfl

set_option maxRecDepth 10000 in
set_option maxHeartbeats 4000000 in
theorem refPutWide_any (w : World) (n : Int) (q : Nat) (hk1 : 1 ≤ q) (hk : q ≤ 31) (hn : -9223372036854775808 ≤ n) (hn2 : n ≤ 9223372036854775807) (hm : n < 0 ∨ most ((q : Int) + 1) < n) (hf : fit n (q + 1) = true) :
    Calls Try.prog 43 #[.int .i64 n, .int .i64 ((q : Int) + 1), .bool true] w fun e w' => ∃ v, e = .returned (.tuple #[v, .int .i64 0]) ∧
      w'.ownsRow w.heap.size 5 1 v (q + 1) (u8s (wideB n (q + 1))) ∧ Below w.heap.size w w' := by
  obtain ⟨hs0, hs1⟩ := sizeOf_range n hn hn2
  obtain ⟨i0, hi, hz0, hz1, hz2⟩ := info_parts Try.info5
  have hlt : q + 1 < 9 → sizeOf' n < 256 ^ q := fun h9 => by
    rw [fit_size n q h9] at hf; simpa using hf
  have hb0 : Below w.heap.size w (w.alloc (.cells #[.int .u8 128] 5)) := (Below.refl _ _).alloc (Nat.le_refl _) _
  have ho1 := hid (own_lit1 w)
  clear hf
  have hcs : (q + 1 < 9 ∧ sizeOf' n < 256 ^ q) ∨ 9 ≤ q + 1 := by
    by_cases h9 : q + 1 < 9
    · exact .inl ⟨h9, hlt h9⟩
    · exact .inr (by omega)
  clear hlt
  go_enter Try.func43, Try.ntmps43
  by_cases hneg : n < 0
  · have hsz : sizeOf' n = -(n + 1) := by rw [sizeOf', if_pos hneg]
    have hW : Hid (wideB n (q + 1) = 255 :: digs 256 n q) := hid (by rw [wideB, if_pos hneg]; rfl)
    have hfl := hid (flips (q := q) hneg)
    rw [hsz] at hcs hs0 hs1 hfl
    clear hm hsz
    rcases hcs with ⟨h9, hlt⟩ | h9
    all_goals
      go_wp2_with (first | (go_at_call 57; refine (refMost_any _ _).mono ?_; rintro e w' ⟨hw, rfl⟩; obtain rfl := hw.symm) | (go_at_call 59; refine (power256_any _ q (by have := pow256_le q (by omega); omega) (by omega)).mono ?_; rintro e w' ⟨hw, rfl⟩; obtain rfl := hw.symm) | (go_at_call 58; refine (digits256_any _ (-(n + 1)) q (by omega) hs0 hs1).mono ?_; rintro e w1 ⟨g, rfl, hown, hb1⟩; have hob := own_below hb1 ho1.out) | (at_builtin; refine wpList_append_own _ rfl (.tmp 78) (.tmp 82) 22 rfl w.heap.size 5 i0 (.int .u8 0) 1 1 Try.underlying22 hi hz0 hz1 hz2 rfl (by decide) _ _ _ rfl hob ⟨g, 0, none⟩ q q (u8s (digs 256 (-(n + 1)) q)) rfl (by rw [u8s_len, digs_length]) (fun j u hj => hown.cells rfl j u hj) (u8s_one _) (by unfold maxLen; omega) (by omega) (Nat.le_trans hb0.size hb1.size) ?_; intro v3 w4 hown4 hgrow4 hnn; clear hnn))
      have hsh := hown4
      rw [u8s_app] at hsh
      obtain ⟨g3, c3, rfl, hg3⟩ := own_shape hsh (by omega)
      have hbw : Below w.heap.size w w4 := (hb0.trans (hb1.mono hb0.size)).grown hgrow4 (Nat.le_trans hb0.size hb1.size) (fun b hk => (hob.lt b hk).1)
      have hH := hid hsh
      have hdl : Hid ((128 :: digs 256 (-(n + 1)) q).length = 1 + q) := hid (by simp [digs_length]; omega)
      clear hsh hown4 hgrow4 hob hown
      go_loopw [13] (fun i wr => ∃ (j : Nat), j ≤ q + 1 ∧ i = .int .i64 j ∧ wr.ownsRow w.heap.size 5 1 (.slice (some ⟨g3, 0, none⟩) (1 + q) c3) (1 + q) (u8s (((128 :: digs 256 (-(n + 1)) q).take j).map (fun x => 255 - x) ++ (128 :: digs 256 (-(n + 1)) q).drop j)) ∧ Below w.heap.size w wr) (fun i _ => q + 1 - (intOf i).toNat)
      case atStart => exact ⟨0, by omega, rfl, by simpa using hH.out, hbw⟩
      case round =>
        obtain ⟨j, hj, rfl, hownr, hbe⟩ := hrel
        clear hH hbw
        by_cases hjq : j < q + 1
        · obtain ⟨x, hx, hc, hf, hst⟩ := row_map (fun x => 255 - x) hdl.out (by omega) hownr
          obtain ⟨hx0, hx1⟩ := bytes_range _ _ x hx
          have hst' := hid hst
          have hjq2 : j < 1 + q := by omega
          clear hst hownr hx
          go_wp2
          go_roundw
          case rel => exact ⟨j + 1, by omega, by go_num, hst'.out, hbe.setCell hg3 _⟩
          case measure => simp [intOf]; omega
        · obtain rfl : j = q + 1 := by omega
          have hown2 : wr.ownsRow w.heap.size 5 1 (.slice (some ⟨g3, 0, none⟩) (1 + q) c3) (1 + q) (u8s (127 :: digs 256 n q)) := by
            rw [List.take_of_length_le (by rw [hdl.out]; omega), List.drop_of_length_le (by rw [hdl.out]; omega), List.append_nil, hfl.out] at hownr; exact hownr
          obtain ⟨hc, hf, hst⟩ := row_first' (v := 255) hown2
          have hst' := hid hst
          have hpos : 0 < 1 + q := by omega
          clear hst hownr hown2
          go_wp2
          all_goals go_ret2
          all_goals exact ⟨_, rfl, by rw [hW.out, show q + 1 = 1 + q by omega]; exact hst'.out, hbe.setCell hg3 _⟩
  · have hsz : sizeOf' n = n := by rw [sizeOf', if_neg hneg]
    have hm' : most ((q : Int) + 1) < n := by omega
    have hW : Hid (wideB n (q + 1) = 128 :: digs 256 n q) := hid (by rw [wideB, if_neg hneg]; rfl)
    rw [hsz] at hcs
    clear hm hs0 hs1 hsz
    have hn0 : 0 ≤ n := by omega
    rcases hcs with ⟨h9, hlt⟩ | h9
    all_goals
      go_wp2_with (first | (go_at_call 57; refine (refMost_any _ _).mono ?_; rintro e w' ⟨hw, rfl⟩; obtain rfl := hw.symm) | (go_at_call 59; refine (power256_any _ q (by have := pow256_le q (by omega); omega) (by omega)).mono ?_; rintro e w' ⟨hw, rfl⟩; obtain rfl := hw.symm) | (go_at_call 58; refine (digits256_any _ n q (by omega) hn0 hn2).mono ?_; rintro e w1 ⟨g, rfl, hown, hb1⟩; have hob := own_below hb1 ho1.out) | (at_builtin; refine wpList_append_own _ rfl (.tmp 78) (.tmp 82) 22 rfl w.heap.size 5 i0 (.int .u8 0) 1 1 Try.underlying22 hi hz0 hz1 hz2 rfl (by decide) _ _ _ rfl hob ⟨g, 0, none⟩ q q (u8s (digs 256 n q)) rfl (by rw [u8s_len, digs_length]) (fun j u hj => hown.cells rfl j u hj) (u8s_one _) (by unfold maxLen; omega) (by omega) (Nat.le_trans hb0.size hb1.size) ?_; intro v3 w4 hown4 hgrow4 hnn; clear hnn))
      have hbw : Below w.heap.size w w4 := (hb0.trans (hb1.mono hb0.size)).grown hgrow4 (Nat.le_trans hb0.size hb1.size) (fun b hk => (hob.lt b hk).1)
      have hH := hid hown4
      clear hown4 hgrow4 hob hown
      refine wp_loop_rounds 1 ?_
      rw [rounds_succ]
      go_wp2
      all_goals go_ret2
      all_goals exact ⟨_, rfl, by rw [hW.out, show q + 1 = 1 + q by omega]; exact hH.out, hbw⟩

theorem refPut_any (w : World) (n k : Int) (wd : Bool) (hn : -9223372036854775808 ≤ n) (hn2 : n ≤ 9223372036854775807) :
    Calls Try.prog 43 #[.int .i64 n, .int .i64 k, .bool wd] w fun e w' => ∃ v, e = .returned (.tuple #[v, .int .i64 (putC n k wd)]) ∧
      w'.ownsRow w.heap.size 5 1 v (putL n k wd).length (u8s (putL n k wd)) ∧ Below w.heap.size w w' := by
  by_cases h1 : k < 2 ∨ 32 < k
  · have EL : Hid (putL n k wd = []) := hid (by rw [putL, if_pos h1])
    have EC : Hid (putC n k wd = 2) := hid (by rw [putC, if_pos h1])
    by_cases h2 : k < 2
    · clear h1
      go_enter Try.func43, Try.ntmps43
      go_wp2
      all_goals go_ret2
      all_goals exact ⟨_, ret_vc EC.out.symm, by rw [EL.out]; exact World.ownsRow_nil _ _ _ _, Below.refl _ _⟩
    · have h3 : 32 < k := by omega
      clear h1
      go_enter Try.func43, Try.ntmps43
      go_wp2
      all_goals go_ret2
      all_goals exact ⟨_, ret_vc EC.out.symm, by rw [EL.out]; exact World.ownsRow_nil _ _ _ _, Below.refl _ _⟩
  · obtain ⟨q, rfl⟩ : ∃ q : Nat, k = (q : Int) + 1 := ⟨(k - 1).toNat, by omega⟩
    have hq : ((q : Int) + 1).toNat = q + 1 := by omega
    by_cases h2 : 0 ≤ n ∧ n ≤ most ((q : Int) + 1)
    · have EL : putL n ((q : Int) + 1) wd = octB n (q + 1) := by rw [putL, if_neg h1, if_pos h2, hq]
      have EC : putC n ((q : Int) + 1) wd = 0 := by rw [putC, if_neg h1, if_pos h2]
      rw [EL, EC, octB_length _ _ (by omega)]
      exact refPutOct_any w n (q + 1) wd (by omega) (by omega) h2.1 hn2 h2.2
    · cases hf : (wd && fit n (q + 1))
      · have EL : putL n ((q : Int) + 1) wd = [] := by rw [putL, if_neg h1, if_neg h2, hq, hf]; rfl
        have EC : putC n ((q : Int) + 1) wd = 5 := by rw [putC, if_neg h1, if_neg h2, hq, hf]; rfl
        rw [EL, EC]
        refine (refPutNo_any w n q wd (by omega) (by omega) hn hn2 (by omega) hf).mono ?_
        rintro e w' ⟨rfl, rfl⟩
        exact ⟨_, rfl, World.ownsRow_nil _ _ _ _, Below.refl _ _⟩
      · have EL : putL n ((q : Int) + 1) wd = wideB n (q + 1) := by rw [putL, if_neg h1, if_neg h2, hq, hf]; rfl
        have EC : putC n ((q : Int) + 1) wd = 0 := by rw [putC, if_neg h1, if_neg h2, hq, hf]; rfl
        obtain ⟨rfl, hf'⟩ : wd = true ∧ fit n (q + 1) = true := by simpa using hf
        rw [EL, EC, wideB_length _ _ (by omega)]
        exact refPutWide_any w n q (by omega) (by omega) hn hn2 (by omega) hf'

end Go.Proofs.Ytgjbopbpekocpaa
