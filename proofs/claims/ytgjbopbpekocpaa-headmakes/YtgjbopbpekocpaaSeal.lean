/-
  What seals a header, for 512 bytes.
-/
import Derived.Test.YtgjbopbpekocpaaSum
import Derived.Test.YtgjbopbpekocpaaRowcopy
namespace Go.Proofs.Ytgjbopbpekocpaa
open Go.ChangeShapes Go.WideShapes Go.ChangeAt Go.RowKit
set_option linter.unusedVariables false
set_option maxRecDepth 20000

/-- a header with the bytes of its sum in the field -/
def sealL (l : List Int) : List Int := l.take 148 ++ lets (pl 0 l) 6 ++ 0 :: 32 :: l.drop 156

theorem drop_cons (l : List Int) (k : Nat) (h : k < l.length) : ∃ x, l.drop k = x :: l.drop (k + 1) := ⟨_, List.drop_eq_getElem_cons h⟩

theorem seal_length (l : List Int) (h : l.length = 512) : (sealL l).length = 512 := by
  simp only [sealL, List.length_append, List.length_take, lets_length, List.length_cons, List.length_drop, h]
  decide

theorem seal_range (l : List Int) (h : ∀ x ∈ l, 0 ≤ x ∧ x ≤ 255) : ∀ x ∈ sealL l, 0 ≤ x ∧ x ≤ 255 := by
  intro x hx
  simp only [sealL, List.mem_append, List.mem_cons] at hx
  rcases hx with (hx | hx) | rfl | rfl | hx
  · exact h x (List.mem_of_mem_take hx)
  · have := lets_range _ _ x hx; omega
  · omega
  · omega
  · exact h x (List.mem_of_mem_drop hx)

theorem putL7 (n : Int) (h0 : 0 ≤ n) (h1 : n ≤ 130560) : putL n 7 false = lets n 6 ++ [0] := by
  have e7 : most 7 = 2097151 := by decide
  have e6 : most 6 = 262143 := by decide
  unfold putL
  rw [if_neg (by omega), if_pos ⟨h0, by rw [e7]; omega⟩]
  show octB n 7 = _
  unfold octB
  rw [if_pos (by show n ≤ most 6; rw [e6]; omega)]

/-- what Seal lays over a copy -/
theorem seal_laid (l : List Int) (h : l.length = 512) (n : Int) : (l.take 148 ++ (lets n 6 ++ [0]) ++ l.drop 155).set 155 32 = l.take 148 ++ lets n 6 ++ 0 :: 32 :: l.drop 156 := by
  obtain ⟨x, hx⟩ := drop_cons l 155 (by omega)
  rw [hx, set_mid _ _ _ _ _ (by simp [lets_length]; omega)]
  simp

/-- what the document's own lays over a copy -/
theorem rseal_laid (l : List Int) (h : l.length = 512) (n : Int) : ((l.take 148 ++ lets n 6 ++ l.drop 154).set 154 0).set 155 32 = l.take 148 ++ lets n 6 ++ 0 :: 32 :: l.drop 156 := by
  obtain ⟨x, hx⟩ := drop_cons l 154 (by omega)
  obtain ⟨y, hy⟩ := drop_cons l 155 (by omega)
  have hA : (l.take 148 ++ lets n 6).length = 154 := by simp only [List.length_append, List.length_take, lets_length, h]; decide
  rw [hx, hy, set_mid _ _ _ _ _ hA, show l.take 148 ++ lets n 6 ++ 0 :: y :: l.drop 156 = (l.take 148 ++ lets n 6 ++ [0]) ++ y :: l.drop 156 by simp, set_mid _ _ _ _ _ (by rw [List.length_append, hA]; rfl)]
  simp

/-- one round of the document's own -/
theorem rseal_step (l d : List Int) (j : Nat) (v : Int) (h : l.length = 512) (hj : j < 6) : (l.take (148 + (j + 1)) ++ d ++ l.drop 154).set (148 + j) v = l.take (148 + j) ++ v :: d ++ l.drop 154 := by
  have e : l.take (148 + (j + 1)) = l.take (148 + j) ++ [l[148 + j]'(by omega)] := by
    rw [← Nat.add_assoc, List.take_succ_eq_append_getElem (by omega)]
  rw [e, List.append_assoc, List.append_assoc, List.cons_append, List.nil_append, set_mid _ _ _ _ _ (by rw [List.length_take, h]; omega)]
  simp

theorem size5 : (Try.prog.info? 5).map (·.size) = some 1 := by kernel_rfl

theorem clone_ok {w : World} {a : Option Addr} {len cap : Nat} {l : List Int} (h : Bys w a len cap l) (hlen : 0 < len) (hle : len ≤ 100000) :
    Calls Try.prog 54 #[.slice a len cap] w fun e w' => ∃ g c, e = .returned (.slice (some ⟨g, 0, none⟩) len c) ∧
      w'.ownsRow w.heap.size 5 1 (.slice (some ⟨g, 0, none⟩) len c) len (u8s l) ∧ Below w.heap.size w w' := by
  obtain ⟨i0, hi, hz0, hz1, hz2⟩ := info_parts Try.info5
  obtain ⟨b, off, rfl⟩ := h.some_of hlen
  have hll := hid h.1
  have hnews := bys_news (h.alloc (.cells #[] 5))
  have hlit := World.ownsRow_lit (base := w.heap.size) (e := 5) (size := 1) w #[] 0 (Nat.le_refl _) (by unfold maxLen; omega) rfl
  have hlc := h.2.1
  have hm := h.2.2.1
  have hnil : (binOp .eql 22 (.slice (some ⟨b, off, none⟩) len cap) (.slice none 0 0)).run Try.prog w = .ok (.bool false) w := Lib.run_eql_slice_nil w 22 5 _ _ _ _ _ Try.underlying22
  clear h
  go_enter Try.func54, Try.ntmps54
  go_wp2_with (at_builtin; refine wpList_append_own _ rfl (.tmp 5) (.tmp 6) 22 rfl w.heap.size 5 i0 (.int .u8 0) 1 1 Try.underlying22 hi hz0 hz1 hz2 rfl (by decide) _ _ _ rfl hlit ⟨b, off, none⟩ len cap (u8s l) rfl (by rw [u8s_len, hll.out]) hnews (u8s_one l) (by unfold maxLen; omega) (by omega) (by simp) ?_; intro v' w2 hown' hgrow' _)
  all_goals go_ret
  all_goals
    rw [Nat.zero_add, List.nil_append] at hown'
    obtain ⟨g, c, rfl, -⟩ := own_shape hown' hlen
    exact ⟨g, c, rfl, hown', ((Below.refl _ _).alloc (Nat.le_refl _) _).grown hgrow' (by simp) (fun k hk => (hlit.lt k hk).1)⟩

theorem seal_bad {w : World} {a : Option Addr} {len cap : Nat} {l : List Int} (h : Bys w a len cap l) (hne : len ≠ 512) :
    Calls Try.prog 41 #[.slice a len cap] w fun e w' => w' = w ∧ e = .returned (.tuple #[.slice none 0 0, .int .u8 2]) := by
  go_enter Try.func41, Try.ntmps41
  go_wp2_with (go_at_call 45; refine (sum_bad h hne).mono ?_; rintro e w' ⟨hw, rfl⟩; obtain rfl := hw.symm)
  all_goals go_ret2
  all_goals exact ⟨rfl, rfl⟩

set_option maxHeartbeats 4000000 in
set_option maxRecDepth 20000 in
theorem seal_ok {w : World} {a : Option Addr} {len cap : Nat} {l : List Int} (h : Bys w a len cap l) (hlen : len = 512) :
    Calls Try.prog 41 #[.slice a len cap] w fun e w' => ∃ g c, e = .returned (.tuple #[.slice (some ⟨g, 0, none⟩) len c, .int .u8 0]) ∧
      w'.ownsRow w.heap.size 5 1 (.slice (some ⟨g, 0, none⟩) len c) len (u8s (sealL l)) ∧ Below w.heap.size w w' := by
  have hll : l.length = 512 := h.1.trans hlen
  have hpr := pl_range l h.2.2.2.1 0
  have hp0 : 0 ≤ pl 0 l := hpr.1
  have hp1 : pl 0 l ≤ 130560 := by rw [hll] at hpr; omega
  have hsum := sum_ok h hlen
  have E : Hid (sealL l = (l.take 148 ++ (lets (pl 0 l) 6 ++ [0]) ++ l.drop 155).set 155 32) := hid (seal_laid l hll _).symm
  have h7 : Hid (putL (pl 0 l) 7 false = lets (pl 0 l) 6 ++ [0]) := hid (putL7 _ hp0 hp1)
  clear hpr
  generalize pl 0 l = p at *
  have h512 : (len : Int) = 512 := by omega
  have hl6 : (lets p 6 ++ [0]).length = 7 := by simp [lets_length]
  have hL := hid hll
  have hl6' := hid hl6
  have hlen' := hid hlen
  have hlen0 : 0 < len := by omega
  have hlenk : len ≤ 100000 := by omega
  have hfit : 148 + 7 ≤ len := by omega
  have h155 : 155 < len := by omega
  have hmin : 7 = Nat.min 7 (len - 148) := (Nat.min_eq_left (by omega)).symm
  have hmin' := hid hmin
  clear hll hl6 hlen hmin
  go_enter Try.func41, Try.ntmps41
  go_wp2_with (first
    | (go_at_call 45; refine hsum.mono ?_; rintro e w' ⟨hw, rfl⟩; obtain rfl := hw.symm)
    | (go_at_call 53; refine (put_any _ p 7 false (by omega) (by omega)).mono ?_; rintro e w1 ⟨v, rfl, hown1, hb1⟩; obtain ⟨a1, c1, rfl, hby1⟩ := put_bys hown1; rw [h7.out, hl6'.out] at hby1; rw [h7.out, hl6'.out]; obtain ⟨bb, oo, rfl⟩ := hby1.some_of (by omega); clear hown1)
    | (go_at_call 54; refine (clone_ok (h.below hb1) hlen0 hlenk).mono ?_; rintro e w2 ⟨g, c, rfl, hown2, hb2⟩; replace hby1 := hby1.below hb2; obtain ⟨-, hc1, hc2⟩ := own_cap hown2))
  obtain ⟨w3, hcopy, hown3, hgrow3⟩ := run_copy_at (P := Try.prog) w2 (dT := 22) (sT := 22) (ty := 3) (dCap := c - 148) Try.underlying22 size5 hown2 (hL.out.trans hlen'.out.symm) hby1 7 hmin'.out hfit
  rw [hcopy]
  simp only [Result.andThen]
  rw [Oper.upon_value]
  rw [List.take_of_length_le (Nat.le_of_eq hl6'.out)] at hown3
  obtain ⟨hcell, hfrz, hst⟩ := row_store (j := 155) 32 (by simp only [List.length_append, List.length_take, List.length_drop, hL.out, hl6'.out, hlen'.out]; omega) h155 hown3
  have hst' := hid hst
  have hown2' := hid hown2
  clear hown3 hcopy hst hown2 hby1
  go_wp2
  all_goals go_ret2
  all_goals exact ⟨g, c, rfl, by rw [E.out]; exact own_mono hb1.size hst'.out, ((hb1.trans (hb2.mono hb1.size)).grown hgrow3 (Nat.le_trans hb1.size hb2.size) (by intro k hk; cases hk; exact Nat.le_trans hb1.size (own_ge hown2'.out))).setCell (Nat.le_trans hb1.size (own_ge hown2'.out)) _⟩

set_option maxHeartbeats 4000000 in
set_option maxRecDepth 20000 in
theorem rseal_ok {w : World} {a : Option Addr} {len cap : Nat} {l : List Int} (h : Bys w a len cap l) (hlen : len = 512) :
    Calls Try.prog 21 #[.slice a len cap] w fun e w' => ∃ g c, e = .returned (.slice (some ⟨g, 0, none⟩) len c) ∧
      w'.ownsRow w.heap.size 5 1 (.slice (some ⟨g, 0, none⟩) len c) len (u8s (sealL l)) ∧ Below w.heap.size w w' := by
  obtain ⟨i0, hi, hz0, hz1, hz2⟩ := info_parts Try.info5
  obtain ⟨b, off, rfl⟩ := h.some_of (by omega)
  have hll : l.length = 512 := h.1.trans hlen
  have hpr := pl_range l h.2.2.2.1 0
  have hp0 : 0 ≤ pl 0 l := hpr.1
  have hp1 : pl 0 l ≤ 130560 := by rw [hll] at hpr; omega
  have hsum := fun w1 (hb : Below w.heap.size w w1) => rsums_ok (h.below hb) hlen
  have E : Hid (sealL l = ((l.take 148 ++ lets (pl 0 l) 6 ++ l.drop 154).set 154 0).set 155 32) := hid (rseal_laid l hll _).symm
  have hnews := bys_news (h.alloc (.cells #[] 5))
  have hlit := World.ownsRow_lit (base := w.heap.size) (e := 5) (size := 1) w #[] 0 (Nat.le_refl _) (by unfold maxLen; omega) rfl
  have hlc := h.2.1
  have hm := h.2.2.1
  clear hpr
  generalize pl 0 l = p at *
  have h512 : (len : Int) = 512 := by omega
  have hL := hid hll
  have hlen' := hid hlen
  have hlen0 : 0 < len := by omega
  have hlenk : len ≤ 100000 := by omega
  have hll2 : Hid (l.length = len) := hid h.1
  clear hll hlen h
  go_enter Try.func21, Try.ntmps21
  go_wp2_with (first
    | (go_at_call 44; refine (hsum _ hb1).mono ?_; rintro e w' ⟨hw, rfl⟩; obtain rfl := hw.symm)
    | (at_builtin; refine wpList_append_own _ rfl (.tmp 7) (.tmp 8) 22 rfl w.heap.size 5 i0 (.int .u8 0) 1 1 Try.underlying22 hi hz0 hz1 hz2 rfl (by decide) _ _ _ rfl hlit ⟨b, off, none⟩ len cap (u8s l) rfl (by rw [u8s_len, hll2.out]) hnews (u8s_one l) (by unfold maxLen; omega) (by omega) (by simp) ?_; intro v' w2 hown' hgrow' _; have hb1 := ((Below.refl w.heap.size w).alloc (Nat.le_refl _) (.cells #[] 5)).grown hgrow' (by simp) (fun k hk => (hlit.lt k hk).1); rw [Nat.zero_add, List.nil_append] at hown'; obtain ⟨g, c, rfl, hg0⟩ := own_shape hown' hlen0; obtain ⟨-, hc1, hc2⟩ := own_cap hown'; clear hgrow'))
  clear hnews hlit hsum
  have hown1 := hid hown'
  clear hown'
  go_loopw [4, 6] (fun x i wr => ∃ (j : Nat) (m : Int) (d : List Int), j ≤ 6 ∧ 0 ≤ m ∧ m ≤ 130560 ∧ i = .int .i64 ((j : Int) - 1) ∧ x = .int .i64 m ∧
     wr.ownsRow w.heap.size 5 1 (.slice (some ⟨g, 0, none⟩) len c) len (u8s (l.take (148 + j) ++ d ++ l.drop 154)) ∧ Below w.heap.size w wr ∧ Hid (lets p 6 = lets m j ++ d)) (fun _ i _ => (intOf i + 1).toNat)
  case atStart =>
    refine ⟨6, p, [], by omega, hp0, hp1, rfl, rfl, ?_, hb1, hid (by simp)⟩
    rw [List.append_nil, List.take_append_drop]; exact hown1.out
  case round =>
    obtain ⟨j, m, d, hjq, hm0, hm1, rfl, rfl, hown, hbe, hdg⟩ := hrel
    clear hown1 hb1
    have hdl : d.length = 6 - j := by have := congrArg List.length hdg.out; simp [lets_length] at this; omega
    by_cases hlt : j = 0
    · subst hlt
      have hown0 : wr.ownsRow w.heap.size 5 1 (.slice (some ⟨g, 0, none⟩) len c) len (u8s (l.take 148 ++ lets p 6 ++ l.drop 154)) := by rw [hdg.out]; exact hown
      have hlen1 : (l.take 148 ++ lets p 6 ++ l.drop 154).length = len := by simp only [List.length_append, List.length_take, List.length_drop, lets_length, hL.out, hlen'.out]; decide
      obtain ⟨hcell1, hfrz1, hst1⟩ := row_store (j := 154) 0 hlen1 (by omega) hown0
      obtain ⟨hcell2, hfrz2, hst2⟩ := row_store (j := 155) 32 (by rw [List.length_set]; exact hlen1) (by omega) hst1
      have hst := hid hst2
      clear hown hown0 hst1 hst2 hdg hdl hlen1
      go_wp2
      all_goals go_ret
      all_goals exact ⟨g, c, rfl, by rw [E.out]; exact hst.out, (hbe.setCell hg0 _).setCell hg0 _⟩
    · obtain ⟨j, rfl⟩ : ∃ j', j = j' + 1 := ⟨j - 1, by omega⟩
      have hidx : ((j + 1 : Nat) : Int) - 1 = (j : Int) := by omega
      rw [hidx]
      obtain ⟨hcell, hfrz, hst⟩ := row_store (j := 148 + j) (48 + m % 8) (by simp only [List.length_append, List.length_take, List.length_drop, hL.out, hdl, hlen'.out]; omega) (by omega) hown
      rw [rseal_step l d j _ hL.out (by omega)] at hst
      have hst' := hid hst
      clear hst hown hdl
      go_wp2
      go_roundw
      case rel => exact ⟨j, m / 8, (48 + m % 8) :: d, by omega, by omega, by omega, by go_num, by go_num, hst'.out, hbe.setCell hg0 _, hid (by rw [hdg.out, lets_succ]; simp)⟩
      case measure => simp [intOf]

end Go.Proofs.Ytgjbopbpekocpaa
