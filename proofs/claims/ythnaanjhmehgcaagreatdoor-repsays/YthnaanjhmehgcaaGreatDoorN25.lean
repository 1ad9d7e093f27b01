/-
  WHAT THE DOCUMENT's Ends, First AND Cut GIVE, AS FUNCTIONS OF THE TEXT's BYTES. No conditions but the length.
-/
import Derived.Test.YthnaanjhmehgcaaGreatDoorN24
namespace Go.Proofs.YthnaanjhmehgcaaGreatDoor
open Go.ChangeShapes Go.WideShapes Go.ChangeAt Go.RowKit
set_option linter.unusedVariables false

theorem Tryz.info3e : (Tryz.prog.info? 3).map (fun i => (i.zero, i.size, i.bytes)) = some (some (.int .i64 0), 1, 8) := by kernel_rfl

def i64e (l : List Int) : List Value := l.map (Value.int .i64)
theorem i64e_get (l : List Int) (j : Nat) (h : j < l.length) : (i64e l)[j]? = some (.int .i64 (l.getD j 0)) := by unfold i64e; simp [h]
theorem i64e_more {w : World} {B n : Nat} {v : Value} {l : List Int} {x : Int} (h : w.ownsRow B 3 1 v n (i64e l ++ [.int .i64 x])) : w.ownsRow B 3 1 v n (i64e (l ++ [x])) := by
  rw [show i64e (l ++ [x]) = i64e l ++ [.int .i64 x] by simp [i64e]]; exact h
theorem one_i64e (v : Int) : ∀ u ∈ [Value.int .i64 v], u.oneCell' = true := by intro u hu; simp at hu; subst hu; rfl

theorem size_ok {l : List UInt8} (h : ok l = true) : sizeL l = wd l := by unfold sizeL; rw [h]; rfl
theorem size_bad {l : List UInt8} (h : ok l = false) : sizeL l = 0 := by unfold sizeL; rw [h]; rfl

set_option maxHeartbeats 4000000 in
set_option maxRecDepth 20000 in
theorem ends_walk (s : ByteArray) (hs : s.size ≤ 1000000) (w : World) :
    Calls Tryz.prog 82 #[.string s] w fun e w' => (∃ v, e = .returned v ∧ w'.ownsRow w.heap.size 3 1 v (endsP (pcs s.data.toList) 0).length (i64e (endsP (pcs s.data.toList) 0))) ∧ Below w.heap.size w w' := by
  obtain ⟨i0, hi, hz0, hz1, hz2⟩ := info_parts Tryz.info3e
  obtain ⟨q, hq⟩ : ∃ q, q = endsP (pcs s.data.toList) 0 := ⟨_, rfl⟩
  rw [← hq]
  have hnil : w.ownsRow w.heap.size 3 1 (.slice none 0 0) 0 [] := ⟨rfl, .inl ⟨rfl, rfl⟩⟩
  go_enter Tryz.func82, Tryz.ntmps82
  go_wp2
  go_loopw [3, 4] (fun x y wr => ∃ (v : Value) (k : Nat) (acc : List Int), x = v ∧ y = .int .i64 k ∧ k ≤ s.size ∧ acc.length ≤ k ∧ wr.ownsRow w.heap.size 3 1 v acc.length (i64e acc) ∧ Below w.heap.size w wr ∧ Hid (acc ++ endsP (pcs (s.data.toList.drop k)) k = q)) (fun _ y _ => s.size - (intOf y).toNat)
  case atStart => exact ⟨_, 0, [], rfl, by go_num, Nat.zero_le _, by simp, hnil, Below.refl _ _, hid (by rw [hq]; rfl)⟩
  case round =>
    obtain ⟨v, k, acc, rfl, rfl, hks, hak, hown, hb, hp⟩ := hrel
    have hsz := hb.size
    by_cases hlt : k < s.size
    · have hne := drop_ne s k hlt
      have hst := pcs_step _ hne
      have hle := wd_le _ hne
      have hwp := wd_pos (s.data.toList.drop k)
      rw [List.length_drop, bytes_len] at hle
      have hsw := fun w => size_walk s k hs hlt w
      cases hok : ok (s.data.toList.drop k) with
      | false =>
        rw [size_bad hok] at hsw
        have hp' : Hid ((acc ++ [-((k + 1 : Nat) : Int)]) ++ endsP (pcs (s.data.toList.drop (k + 1))) (k + 1) = q) := hid (by rw [← hp.out, hst, endsP, hok, bad_wd hok, List.drop_drop]; simp)
        clear hst hq hp hne hok hle hwp
        go_wp2_with (first | (go_at_call 113; refine (hsw _).mono ?_; rintro e w1 ⟨rfl, hb1⟩; have hown1 := own_below hb1 hown; have hbb := hb.trans (hb1.mono hsz); have hsz1 := hbb.size) | (at_builtin; refine wpList_append_own _ rfl _ _ 72 rfl w.heap.size 3 i0 (.int .i64 0) 1 8 Tryz.underlying72 hi hz0 hz1 hz2 rfl (by decide) _ _ _ rfl (hown1.alloc _) ⟨w1.heap.size, 0, none⟩ 1 1 [.int .i64 (-((k : Int) + 1))] rfl rfl (cell_one_new _ _ _) (one_i64e _) (by unfold maxLen; omega) (by omega) (by simp; omega) ?_; intro v' w2 hown' hgrow' _))
        go_roundw
        case rel => exact ⟨_, k + 1, _, rfl, by go_num, by omega, by simp; omega, by have := i64e_more hown'; simpa using this, (hbb.alloc hsz1 _).grown hgrow' (by simp; omega) (fun k hk => (hown1.lt k hk).1), hp'⟩
        case measure => simp [intOf]; omega
      | true =>
        rw [size_ok hok] at hsw
        generalize hdw : wd (s.data.toList.drop k) = d at *
        have hp' : Hid ((acc ++ [((k + d : Nat) : Int)]) ++ endsP (pcs (s.data.toList.drop (k + d))) (k + d) = q) := hid (by rw [← hp.out, hst, endsP, hok, List.drop_drop]; simp)
        have hd0 : ((d : Int) == 0) = false := by simp; omega
        have hdd : (d : Int) ≤ 1000000 := by omega
        clear hst hq hp hne hok hdw
        go_wp2_with (first | (go_at_call 113; refine (hsw _).mono ?_; rintro e w1 ⟨rfl, hb1⟩; have hown1 := own_below hb1 hown; have hbb := hb.trans (hb1.mono hsz); have hsz1 := hbb.size) | (at_builtin; refine wpList_append_own _ rfl _ _ 72 rfl w.heap.size 3 i0 (.int .i64 0) 1 8 Tryz.underlying72 hi hz0 hz1 hz2 rfl (by decide) _ _ _ rfl (hown1.alloc _) ⟨w1.heap.size, 0, none⟩ 1 1 [.int .i64 ((k : Int) + d)] rfl rfl (cell_one_new _ _ _) (one_i64e _) (by unfold maxLen; omega) (by omega) (by simp; omega) ?_; intro v' w2 hown' hgrow' _))
        go_roundw
        case rel => exact ⟨_, k + d, _, rfl, by go_num, by omega, by simp; omega, by have := i64e_more hown'; simpa using this, (hbb.alloc hsz1 _).grown hgrow' (by simp; omega) (fun k hk => (hown1.lt k hk).1), hp'⟩
        case measure => simp [intOf]; omega
    · have hq' : q = acc := by rw [← hp.out, List.drop_eq_nil_iff.2 (by rw [bytes_len]; omega)]; simp [pcs_nil, endsP]
      subst hq'
      clear hq hp
      go_wp2
      go_ret
      exact ⟨⟨_, rfl, hown⟩, hb⟩

/-- a row of numbers, as a reader meets it -/
theorem ints_cases_e {w : World} {B : Nat} {v : Value} {l : List Int} (h : w.ownsRow B 3 1 v l.length (i64e l)) :
    (l = [] ∧ ∃ a c, v = .slice a 0 c) ∨ (0 < l.length ∧ ∃ g c, v = .slice (some ⟨g, 0, none⟩) l.length c ∧ ∀ i, i < l.length → w.cell? ⟨g, i, none⟩ = some (.int .i64 (l.getD i 0))) := by
  rcases Nat.eq_zero_or_pos l.length with h0 | h0
  · have hl : l = [] := by simpa using h0
    subst hl
    refine .inl ⟨rfl, ?_⟩
    rcases h.2 with ⟨hv, _⟩ | ⟨g, cap, cur, hv, _⟩
    · exact ⟨_, _, hv⟩
    · exact ⟨_, _, hv⟩
  · obtain ⟨g, c, rfl, -⟩ := own_shape h h0
    refine .inr ⟨h0, g, c, rfl, fun i hi => ?_⟩
    rw [h.cellAt i (by omega), i64e_get _ _ hi]

theorem drop_get_e (l : List Int) (i : Nat) (h : i < l.length) : l.drop i = l.getD i 0 :: l.drop (i + 1) := by
  rw [List.drop_eq_getElem_cons h]; simp [h]

/-- where a text's pieces end -/
def endsL (l : List UInt8) : List Int := endsP (pcs l) 0
theorem ends_bound : ∀ (p : List (Nat × Bool)) (k m : Nat), k + (p.map (·.1)).sum ≤ m → ∀ x ∈ endsP p k, -(m : Int) ≤ x ∧ x ≤ m
  | [], _, _, _ => by intro x hx; simp [endsP] at hx
  | p :: r, k, m, h => by
    intro x hx
    rw [List.map_cons, List.sum_cons] at h
    rw [endsP] at hx
    rcases List.mem_cons.1 hx with rfl | hx
    · split <;> omega
    · exact ends_bound r (k + p.1) m (by omega) x hx
theorem pcs_sum (l : List UInt8) : ((pcs l).map (·.1)).sum = l.length := by
  refine pcs_ind (P := fun l => ((pcs l).map (·.1)).sum = l.length) rfl ?_ l.length l (Nat.le_refl _)
  intro l hne ih
  have hle := wd_le l hne
  rw [pcs_step l hne, List.map_cons, List.sum_cons, ih, List.length_drop]
  show wd l + _ = _
  omega
theorem endsL_bound (l : List UInt8) : ∀ x ∈ endsL l, -(l.length : Int) ≤ x ∧ x ≤ l.length := ends_bound _ 0 _ (by rw [pcs_sum]; omega)
theorem endsL_at (l : List UInt8) (i : Nat) : -(l.length : Int) ≤ (endsL l).getD i 0 ∧ (endsL l).getD i 0 ≤ l.length := by
  rw [List.getD_eq_getElem?_getD]
  cases h : (endsL l)[i]? with
  | none => simp
  | some x => exact endsL_bound l x (List.mem_of_getElem? h)
theorem endsL_len (l : List UInt8) : (endsL l).length = countL l := ends_len _ _

set_option maxHeartbeats 4000000 in
set_option maxRecDepth 20000 in
theorem rfirst_walk (s : ByteArray) (hs : s.size ≤ 1000000) (w : World) :
    Calls Tryz.prog 39 #[.string s] w fun e w' => e = .returned (.int .i64 (firstL s.data.toList)) ∧ Below w.heap.size w w' := by
  have hew := ends_walk s hs w
  have hf : firstE (endsL s.data.toList) = firstL s.data.toList := firstE_ends _ _ (pcs_fit _)
  have hat := endsL_at s.data.toList
  have hln : (endsL s.data.toList).length ≤ 1000000 := by rw [endsL_len]; have := count_le s.data.toList; rw [bytes_len] at this; omega
  rw [bytes_len] at hat
  change Calls Tryz.prog 82 #[.string s] w fun e w' => (∃ v, e = .returned v ∧ w'.ownsRow w.heap.size 3 1 v (endsL s.data.toList).length (i64e (endsL s.data.toList))) ∧ Below w.heap.size w w' at hew
  rw [← hf]
  clear hf
  generalize endsL s.data.toList = q at *
  obtain ⟨r, hr⟩ : ∃ r, r = firstE q := ⟨_, rfl⟩
  rw [← hr]
  have hr' := hid hr
  clear hr
  go_enter Tryz.func39, Tryz.ntmps39
  go_wp2_with (go_at_call 82; refine hew.mono ?_)
  rintro e w1 ⟨⟨v, rfl, hown⟩, hb⟩
  rcases ints_cases_e hown with ⟨rfl, a, c, rfl⟩ | ⟨hn, g, c, rfl, hcell⟩
  · have hr1 : Hid (r = -1) := hid hr'.out
    go_wp2
    refine wp_loop_rounds 1 ?_
    rw [rounds_succ]
    go_wp2
    go_ret
    exact ⟨ret_int hr1.out.symm, hb⟩
  · go_wp2
    go_loop [4] (fun y => ∃ i : Nat, y = .int .i64 i ∧ i ≤ q.length ∧ Hid (r = firstE (q.drop i))) (fun y => q.length - (intOf y).toNat)
    case atStart => exact ⟨0, by go_num, Nat.zero_le _, hr'⟩
    case round =>
      obtain ⟨i, rfl, hiq, hp⟩ := hrel
      rcases Nat.lt_or_ge i q.length with hi2 | hi2
      · have hc := hcell i hi2
        have hx := hat i
        have hdg := drop_get_e q i hi2
        obtain ⟨x, hxe⟩ : ∃ x, x = q.getD i 0 := ⟨_, rfl⟩
        rw [← hxe] at hc hx hdg
        obtain ⟨hx0, hx1⟩ := hx
        clear hxe hcell hat
        by_cases hneg : x < 0
        · have hr1 : Hid (r = -x - 1) := hid (by rw [hp.out, hdg, firstE, if_pos hneg])
          clear hp hr' hdg
          go_wp2
          go_ret
          exact ⟨ret_int hr1.out.symm, hb⟩
        · have hp' : Hid (r = firstE (q.drop (i + 1))) := hid (by rw [hp.out, hdg, firstE, if_neg hneg])
          clear hp hr' hdg
          go_wp2
          go_round
          case rel => exact ⟨i + 1, by go_num, by omega, hp'⟩
          case measure => simp [intOf]; omega
      · have hr1 : Hid (r = -1) := hid (by rw [hp.out, List.drop_eq_nil_iff.2 hi2]; rfl)
        clear hp hr' hcell hat
        go_wp2
        go_ret
        exact ⟨ret_int hr1.out.symm, hb⟩

end Go.Proofs.YthnaanjhmehgcaaGreatDoor
