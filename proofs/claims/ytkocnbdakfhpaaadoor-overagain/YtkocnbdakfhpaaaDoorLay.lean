/-
  A PAIR, AND PAIRS, LAID OVER AN OVERLAY THAT THE CALL OWNS; Lay. Conditions: how many pairs there are.
-/
import Derived.Test.YtkocnbdakfhpaaaDoorBsf
import Derived.Test.YtkocnbdakfhpaaaDoorIns
import Derived.Test.YtkocnbdakfhpaaaDoorFgo
namespace Go.Proofs.YtkocnbdakfhpaaaDoor
open Go.ChangeShapes Go.WideShapes Go.ChangeAt Go.RowKit Go.Lib
set_option linter.unusedVariables false
set_option linter.unusedSimpArgs false
set_option maxRecDepth 20000

theorem ins_ok {w : World} {B n vb : Nat} {o : Value} {l : PL} {k v : ByteArray} (h : w.ownsRow B 37 2 o n (pcs2 l)) (hl : l.length = n) (i : Nat) (hi : i ≤ n) (hn : n ≤ 1000000) (hB : B ≤ w.heap.size) (hv : Blk w vb #[.string k, .string v] 37) (hne : ∀ g, o.ownBlock = some g → vb ≠ g) :
    Calls Tryd.prog 57 #[o, .int .i64 i, .slice (some ⟨vb, 0, none⟩) 1 1] w fun e w' =>
      ∃ o', e = .returned o' ∧ w'.ownsRow B 37 2 o' (n + 1) (pcs2 (l.take i ++ (k, v) :: l.drop i)) ∧ Below B w w' := by
  by_cases he : i = n
  · subst he
    have := ins_end h hn hB hv
    rw [List.take_of_length_le (by omega), List.drop_eq_nil_iff.2 (by omega)]
    exact this
  · rcases h.2 with ⟨rfl, rfl⟩ | ⟨g, cap, cur, rfl, -⟩
    · omega
    · by_cases hr : n + 1 ≤ cap
      · exact ins_shift h i (by omega) hr hv (hne g rfl)
      · exact ins_grow h i (by omega) hn hr hB hv

theorem pcs2_set : ∀ (l : PL) (i : Nat) (k v : ByteArray), i < l.length → ((pcs2 l).set (i * 2) (.string k)).set (i * 2 + 1) (.string v) = pcs2 (l.take i ++ (k, v) :: l.drop (i + 1))
  | p :: t, 0, k, v, _ => rfl
  | p :: t, i + 1, k, v, h => by
    have ih := pcs2_set t i k v (by simpa using h)
    have e : ∀ x, pcs2 (p :: x) = .string p.1 :: .string p.2 :: pcs2 x := fun _ => rfl
    rw [e, show (i + 1) * 2 = i * 2 + 1 + 1 by omega, List.set_cons_succ, List.set_cons_succ, List.set_cons_succ, List.set_cons_succ, ih, List.take_succ_cons, List.drop_succ_cons, List.cons_append, e]

theorem size_nil (v : ByteArray) : v.size = 0 ↔ bs v = [] := by rw [← bs_len, List.length_eq_zero_iff]

theorem set_facts {w : World} {B g n cap : Nat} {l : PL} {cur : Array Value} (R : PRow w B g n cap l cur) (i : Nat) (hi : i < n) (k v : ByteArray) :
    w.frozen? ⟨g, i * 2, none⟩ = false ∧ w.frozen? ⟨g, i * 2 + 1, none⟩ = false ∧ (w.setCell ⟨g, i * 2, none⟩ (.string k)).frozen? ⟨g, i * 2 + 1, none⟩ = false ∧ (∃ u, w.cell? ⟨g, i * 2, none⟩ = some u) ∧ (∃ u, w.cell? ⟨g, i * 2 + 1, none⟩ = some u) ∧ (∃ u, (w.setCell ⟨g, i * 2, none⟩ (.string k)).cell? ⟨g, i * 2 + 1, none⟩ = some u) ∧
    ((w.setCell ⟨g, i * 2, none⟩ (.string k)).setCell ⟨g, i * 2 + 1, none⟩ (.string v)).ownsRow B 37 2 (.slice (some ⟨g, 0, none⟩) n cap) n (pcs2 (l.take i ++ (k, v) :: l.drop (i + 1))) ∧
    Below B w ((w.setCell ⟨g, i * 2, none⟩ (.string k)).setCell ⟨g, i * 2 + 1, none⟩ (.string v)) := by
  have hs := R.size
  have hnc := R.nc
  have hb : Blk w g cur 37 := R.blk
  have hb1 := hb.set (i := i * 2) (.string k)
  have hb2 := hb1.set (i := i * 2 + 1) (.string v)
  refine ⟨hb.free _, hb.free _, hb1.free _, ⟨_, (hb.cell _).trans (Array.getElem?_eq_getElem (by omega))⟩, ⟨_, (hb.cell _).trans (Array.getElem?_eq_getElem (by omega))⟩, ⟨_, (hb1.cell _).trans (Array.getElem?_eq_getElem (by simp; omega))⟩, ?_, ?_⟩
  · have R2 : PRow ((w.setCell ⟨g, i * 2, none⟩ (.string k)).setCell ⟨g, i * 2 + 1, none⟩ (.string v)) B g n cap (l.take i ++ (k, v) :: l.drop (i + 1)) ((cur.setIfInBounds (i * 2) (.string k)).setIfInBounds (i * 2 + 1) (.string v)) := by
      refine ⟨?_, R.base, hb2, hnc, R.cm, by simp [hs], ?_⟩
      · rw [List.length_append, List.length_cons, List.length_take, List.length_drop, R.len]; omega
      · rw [Array.toList_setIfInBounds, Array.toList_setIfInBounds, List.take_set, List.take_set, R.take, pcs2_set l i k v (by rw [R.len]; exact hi)]
    exact R2.own
  · exact ((Below.refl B w).setCell R.base _).setCell R.base _

set_option maxHeartbeats 4000000 in
theorem lay_ok {w : World} {B : Nat} {o : Value} {l : PL} (h : w.ownsRow B 37 2 o l.length (pcs2 l)) (hs : Srt l) (hn : l.length ≤ 100000) (hB : B ≤ w.heap.size) (k v : ByteArray) :
    Calls Tryd.prog 40 #[o, .agg #[.string k, .string v]] w fun e w' => ∃ o', e = .returned o' ∧ w'.ownsRow B 37 2 o' (layP l (k, v)).length (pcs2 (layP l (k, v))) ∧ Below B w w' := by
  have hb0 := (Below.refl w.heap.size w).alloc (Nat.le_refl _) (.cells #[.string k, .string v] 37)
  have hbB := (Below.refl B w).alloc hB (.cells #[.string k, .string v] 37)
  obtain ⟨n, hln⟩ : ∃ n, n = l.length := ⟨_, rfl⟩
  have hl : l.length = n := hln.symm
  rw [hl] at h hn
  have h1 := own_below hb0 h
  obtain ⟨a, c, rfl, hpy⟩ := own_pys h1 hl
  have hbs := bsf_ok hpy hs k (by omega)
  have hix := idx_le l k
  have hli := lay_idx l (k, v)
  simp only at hli
  obtain ⟨i, hi⟩ : ∃ i, i = idxK l k := ⟨_, rfl⟩
  rw [← hi] at hbs hix hli
  rw [hl] at hix
  cases hH : hitK l k
  · rw [hH] at hbs hli
    by_cases hv : v.size = 0
    · rw [if_neg (by simp), if_pos hv] at hli
      rw [hli, hl]
      have hvz : v.toList.isEmpty = true := by rw [is_nil v, decide_eq_true ((size_nil v).1 hv)]
      have hl' := hid hl
      clear hli hH hv hi hl hln
      go_enter Tryd.func40, Tryd.ntmps40
      go_wp2_with (go_at_call 54; refine hbs.mono ?_; rintro e w1 ⟨rfl, hb1⟩; obtain ⟨c0, c1⟩ := two_cells hb1; have hacc := hbB.trans (hb1.mono (by have := hbB.size; omega)); have h2 := own_below hb1 h1)
      all_goals go_ret
      all_goals exact ⟨_, rfl, h2, hacc⟩
    · rw [if_neg (by simp), if_neg hv] at hli
      rw [hli]
      have hvz : v.toList.isEmpty = false := by rw [is_nil v, decide_eq_false (fun e => hv ((size_nil v).2 e))]
      have hlen : (l.take i ++ (k, v) :: l.drop i).length = n + 1 := by rw [List.length_append, List.length_cons, List.length_take, List.length_drop, hl]; omega
      rw [hlen]
      have hl' := hid hl
      clear hli hH hv hi hlen hl hln
      go_enter Tryd.func40, Tryd.ntmps40
      go_wp2_with (first
        | (go_at_call 54; refine hbs.mono ?_; rintro e w1 ⟨rfl, hb1⟩; obtain ⟨c0, c1⟩ := two_cells hb1; have hacc := hbB.trans (hb1.mono (by have := hbB.size; omega)); have h2 := own_below hb1 h1; have hin := ins_ok (h2.alloc (.cells #[.string k, .string v] 37)) hl'.out i hix (by omega) (by have := hacc.size; simp; omega) (Blk.new w1 #[.string k, .string v] 37) (fun g hg => by have := (h2.lt g hg).2; omega); have hacc2 := hacc.alloc (by have := hacc.size; omega) (.cells #[.string k, .string v] 37))
        | (go_at_call 57; refine hin.mono ?_; rintro e w2 ⟨o', rfl, hown, hb2⟩))
      all_goals go_ret
      all_goals exact ⟨_, rfl, hown, hacc2.trans hb2⟩
  · rw [hH] at hbs hli
    rw [if_pos rfl] at hli
    have hilt : i < n := by
      rcases Nat.lt_or_ge i n with e | e
      · exact e
      · rw [hit_end (by rw [hl, ← hi]; omega)] at hH; cases hH
    obtain ⟨g, cap, hag⟩ : ∃ g cap, (Value.slice a n c) = .slice (some ⟨g, 0, none⟩) n cap := by
      rcases h1.2 with ⟨e, e0⟩ | ⟨g, cap, cur, e, -⟩
      · omega
      · exact ⟨g, cap, e⟩
    simp only [Value.slice.injEq, true_and] at hag
    obtain ⟨rfl, rfl⟩ := hag
    by_cases hv : v.size = 0
    · rw [if_pos hv] at hli
      rw [hli]
      have hvz : v.toList.isEmpty = true := by rw [is_nil v, decide_eq_true ((size_nil v).1 hv)]
      have hlen : (l.take i ++ l.drop (i + 1)).length = n - 1 := by rw [List.length_append, List.length_take, List.length_drop, hl]; omega
      rw [hlen]
      have hl' := hid hl
      clear hli hH hv hi hlen hl hln
      go_enter Tryd.func40, Tryd.ntmps40
      go_wp2_with (first
        | (go_at_call 54; refine hbs.mono ?_; rintro e w1 ⟨rfl, hb1⟩; obtain ⟨c0, c1⟩ := two_cells hb1; have hacc := hbB.trans (hb1.mono (by have := hbB.size; omega)); have h2 := own_below hb1 h1; have hin := del_ok h2 i hilt)
        | (go_at_call 56; refine hin.mono ?_; rintro e w2 ⟨rfl, hown, hb2⟩))
      all_goals go_ret
      all_goals exact ⟨_, rfl, hown, hacc.trans hb2⟩
    · rw [if_neg hv] at hli
      rw [hli]
      have hvz : v.toList.isEmpty = false := by rw [is_nil v, decide_eq_false (fun e => hv ((size_nil v).2 e))]
      have hlen : (l.take i ++ (k, v) :: l.drop (i + 1)).length = n := by rw [List.length_append, List.length_cons, List.length_take, List.length_drop, hl]; omega
      rw [hlen]
      have hl' := hid hl
      clear hli hH hv hi hlen hl hln
      have hiI : (i : Int) < (n : Int) := by omega
      go_enter Tryd.func40, Tryd.ntmps40
      go_wp2_with (go_at_call 54; refine hbs.mono ?_; rintro e w1 ⟨rfl, hb1⟩; obtain ⟨c0, c1⟩ := two_cells hb1; have hacc := hbB.trans (hb1.mono (by have := hbB.size; omega)); have h2 := own_below hb1 h1; obtain ⟨cur, R⟩ := PRow.of h2; have hq := set_facts R i hilt k v; obtain ⟨y0, y1, z1, ⟨u0, x0⟩, ⟨u1, x1⟩, ⟨u2, x2⟩, hown, hbl⟩ := hq)
      all_goals go_ret
      all_goals exact ⟨_, rfl, hown, hacc.trans hbl⟩

end Go.Proofs.YtkocnbdakfhpaaaDoor
