/-
  WHAT split.Cuts GIVES. Conditions: the length.
-/
import Derived.Test.YtbkgbnjiibhmhaaSpd
import Derived.Test.YtbkgbnjiibhmhaaShelf
import Derived.Lib.OwnBridge
namespace Go.Proofs.Ytbkgbnjiibhmhaa
open Go.ChangeShapes Go.WideShapes Go.ChangeAt Go.RowKit Go.Lib
set_option linter.unusedVariables false
set_option linter.unusedSimpArgs false
set_option maxRecDepth 20000

/-- a row of numbers, turned round -/
theorem rev_ok {w : World} {B : Nat} {v : Value} {l : List Int} (hl : l.length ≤ 9223372036854775807) (h : w.ownsRow B 3 1 v l.length (i64s l)) :
    Calls Try.prog 30 #[v] w fun e w' => e = .returned (.tuple #[]) ∧ w'.ownsRow B 3 1 v l.length (i64s l.reverse) ∧ Below B w w' := by
  by_cases hv : v = .slice none 0 0
  · subst hv
    have hz : l = [] := by
      rcases h.2 with ⟨_, h0⟩ | ⟨g, cap, cur, e, _⟩
      · simpa using h0
      · cases e
    subst hz
    refine (Try.slices_Reverse_int_empty none 0 w).mono ?_
    rintro e w' ⟨rfl, rfl⟩
    exact ⟨rfl, h, Below.refl _ _⟩
  · obtain ⟨g, cap, rfl, hB, hlt, hn, hm, hlen, hH⟩ := holds_of_ownsRow (enc := Value.int .i64) (zs := l) h hv
    refine (Try.slices_Reverse_int g 0 cap l w hH hl).mono ?_
    rintro e w' ⟨rfl, q, rfl⟩
    refine ⟨rfl, ?_, below_putRow (Below.refl _ _) hB⟩
    have := ownsRow_putRow (enc := Value.int .i64) (q := q) (k := l.length) (ys := l.reverse) h (by simp) (Nat.le_refl _)
    rwa [List.take_of_length_le (by simp)] at this

theorem cuts_sum (l : List Int) (e : Nat) : natI (cutsTo l e) = natI (cutsTo l (lastC l e)) ++ natI (oneC (lastC l e)) := by rw [← natI_app, ← cutsTo_last]

set_option maxHeartbeats 8000000 in
theorem cuts_ok (s : ByteArray) (hs : s.size ≤ 1000000) (w : World) : Calls Try.prog 19 #[.string s] w fun e w' => (∃ v, e = .returned v ∧ w'.ownsRow w.heap.size 3 1 v (natI (cutsTo (nums s) s.size)).length (i64s (natI (cutsTo (nums s) s.size)))) ∧ Below w.heap.size w w' := by
  obtain ⟨i0, hi, hz0, hz1, hz2⟩ := info_parts Try.info3
  have hc := fun w e he => cutAhead_ok s (by omega) e he w
  have hlt0 := lastC_lt (nums s)
  have hsum := cuts_sum (nums s)
  generalize nums s = l at *
  obtain ⟨q, hq⟩ : ∃ q, q = natI (cutsTo l s.size) := ⟨_, rfl⟩
  have hql : q.length ≤ s.size := by rw [hq, natI_len]; exact cutsTo_len _ _
  rw [← hq]
  have hnil : w.ownsRow w.heap.size 3 1 (.slice none 0 0) 0 [] := ⟨rfl, .inl ⟨rfl, rfl⟩⟩
  have hst := hid (hq.trans (hsum s.size))
  have hcs := hc w s.size (Nat.le_refl _)
  have hks : lastC l s.size ≤ s.size := by have := hlt0 s.size; omega
  clear hq
  generalize lastC l s.size = k0 at *
  go_enter Try.func19, Try.ntmps19
  go_wp2_with (go_at_call 29; refine hcs.mono ?_; rintro e w' ⟨hw, rfl⟩; obtain rfl := hw.symm)
  go_loopw [3, 4] (fun x y wr => ∃ (v : Value) (k : Nat) (acc : List Int), x = v ∧ y = .int .i64 k ∧ k ≤ s.size ∧ wr.ownsRow w.heap.size 3 1 v acc.length (i64s acc) ∧ Below w.heap.size w wr ∧ Hid (q = natI (cutsTo l k) ++ natI (oneC k) ++ acc.reverse)) (fun _ y _ => (RowKit.intOf y).toNat)
  case atStart => exact ⟨_, k0, [], rfl, rfl, hks, hnil, Below.refl _ _, hid (by rw [hst.out]; simp)⟩
  case round =>
    obtain ⟨v, k, acc, rfl, rfl, hk, hown, hb, hp⟩ := hrel
    have hsz := hb.size
    have hal : acc.length ≤ s.size := by
      have := congrArg List.length hp.out
      simp at this; omega
    by_cases hpos : 0 < k
    · have hck := fun w => hc w k hk
      have hlk := hlt0 k
      have hp' : Hid (q = natI (cutsTo l (lastC l k)) ++ natI (oneC (lastC l k)) ++ (acc ++ [(k : Int)]).reverse) := hid (by
        rw [← hsum k, hp.out]
        have : natI (oneC k) = [(k : Int)] := by unfold oneC; rw [if_neg (by omega)]; rfl
        rw [this]; simp)
      generalize lastC l k = k' at *
      clear hp hcs hst hlt0 hsum hc
      go_wp2_with (first | (go_at_call 29; refine (hck _).mono ?_; rintro e w' ⟨hw, rfl⟩; obtain rfl := hw.symm) | (at_builtin; refine wpList_append_own _ rfl _ _ 42 rfl w.heap.size 3 i0 (.int .i64 0) 1 8 Try.underlying42 hi hz0 hz1 hz2 rfl (by decide) _ _ _ rfl (hown.alloc _) ⟨wr.heap.size, 0, none⟩ 1 1 [.int .i64 (k : Int)] rfl rfl (cell_one_new _ _ _) (one_i64 _) (by unfold maxLen; omega) (by omega) (by simp; omega) ?_; intro v' w2 hown' hgrow' _))
      go_roundw
      case rel => exact ⟨_, k', _, rfl, rfl, by omega, by have := i64s_more hown'; simpa using this, (hb.alloc hsz _).grown hgrow' (by simp; omega) (fun k hk => (hown.lt k hk).1), hp'⟩
      case measure => simp [RowKit.intOf]; omega
    · obtain rfl : k = 0 := by omega
      have hqa : q = acc.reverse := by rw [hp.out]; rfl
      have hqal : q.length = acc.length := by rw [hqa]; simp
      have hrv := rev_ok (by omega) hown
      replace hqa := hid hqa
      replace hqal := hid hqal
      clear hp hcs hst hlt0 hsum hc hql
      go_wp2_with (go_at_call 30; refine hrv.mono ?_; rintro e w2 ⟨rfl, ho2, hb2⟩)
      go_ret
      exact ⟨⟨_, rfl, by rw [hqal.out, hqa.out]; exact ho2⟩, ⟨hb2.os.trans hb.os, hb2.tape.trans hb.tape, hb2.output.trans hb.output, Nat.le_trans hb.size hb2.size, fun k hk => (hb2.block k hk).trans (hb.block k hk)⟩⟩

end Go.Proofs.Ytbkgbnjiibhmhaa
