/-
  WHAT THE DOCUMENT's Mend GIVES, AS A FUNCTION OF THE TEXT's BYTES. No conditions but the length.
-/
import Derived.Test.YtlepgfkhgmgobaaEnds
namespace Go.Proofs.Ytlepgfkhgmgobaa
open Go.ChangeShapes Go.WideShapes Go.ChangeAt Go.RowKit
set_option linter.unusedVariables false

theorem lit_string (w : World) : (convert 22 9 (.slice (some ⟨w.heap.size, 0, none⟩) 3 3)).run Try.prog (w.alloc (.cells #[.int .u8 239, .int .u8 191, .int .u8 189] 5)) = .ok (.string ⟨#[239, 191, 189]⟩) (w.alloc (.cells #[.int .u8 239, .int .u8 191, .int .u8 189] 5)) :=
  bys_string (P := Try.prog) Try.underlying22 Try.underlying5 Try.underlying9 (bys_lit (w := w) 5 [239, 191, 189] (by decide) (by intro x hx; simp at hx; omega))

theorem str_more (acc l : List UInt8) : (⟨acc.toArray⟩ : ByteArray) ++ ⟨l.toArray⟩ = ⟨(acc ++ l).toArray⟩ := by
  apply ByteArray.ext
  simp

theorem mid_str (s : ByteArray) (k d : Nat) : s.extract k (k + d) = ⟨((s.data.toList.drop k).take d).toArray⟩ := by
  apply ByteArray.ext
  apply Array.toList_inj.1
  rw [Lib.extract_data, Nat.add_sub_cancel_left]

theorem str_len (l : List UInt8) : (⟨l.toArray⟩ : ByteArray).size = l.length := by rw [← bytes_len]

theorem ints_shape {w : World} {B : Nat} {v : Value} {l : List Int} (h : w.ownsRow B 3 1 v l.length (i64s l)) :
    ∃ a c, v = .slice a l.length c ∧ (l = [] ∨ (0 < l.length ∧ ∃ g, a = some ⟨g, 0, none⟩ ∧ ∀ i, i < l.length → w.cell? ⟨g, i, none⟩ = some (.int .i64 (l.getD i 0)))) := by
  rcases ints_cases h with ⟨rfl, a, c, rfl⟩ | ⟨hn, g, c, rfl, hcell⟩
  · exact ⟨a, c, rfl, .inl rfl⟩
  · exact ⟨_, c, rfl, .inr ⟨hn, g, rfl, hcell⟩⟩

set_option maxHeartbeats 4000000 in
set_option maxRecDepth 20000 in
theorem rmend_walk (s : ByteArray) (hs : s.size ≤ 1000000) (w : World) :
    Calls Try.prog 13 #[.string s] w fun e w' => e = .returned (.string ⟨(mendL s.data.toList).toArray⟩) ∧ Below w.heap.size w w' := by
  have hew := ends_walk s hs w
  have hat := endsL_at s.data.toList
  have hln : (endsL s.data.toList).length ≤ 1000000 := by rw [endsL_len]; have := count_le s.data.toList; rw [bytes_len] at this; omega
  rw [bytes_len] at hat
  change Calls Try.prog 11 #[.string s] w fun e w' => (∃ v, e = .returned v ∧ w'.ownsRow w.heap.size 3 1 v (endsL s.data.toList).length (i64s (endsL s.data.toList))) ∧ Below w.heap.size w w' at hew
  obtain ⟨q, hq⟩ : ∃ q, q = endsL s.data.toList := ⟨_, rfl⟩
  rw [← hq] at hew hat hln
  obtain ⟨r, hr⟩ : ∃ r, r = mendL s.data.toList := ⟨_, rfl⟩
  rw [← hr]
  have hq' : Hid (q = endsP (pcs (s.data.toList.drop 0)) 0) := hid hq
  have hr' : Hid ([] ++ mendL (s.data.toList.drop 0) = r) := hid hr.symm
  clear hq hr
  go_enter Try.func13, Try.ntmps13
  go_wp2_with (go_at_call 11; refine hew.mono ?_; rintro e w1 ⟨⟨v, rfl, hown⟩, hb⟩; obtain ⟨a, c, rfl, hcs⟩ := ints_shape hown; clear hown)
  rcases hcs with rfl | ⟨hn, g, rfl, hcell⟩
  · have hr1 : Hid (r = []) := hid (by
      have h0 := hq'.out
      have h1 := hr'.out
      rw [List.drop_zero] at h0 h1
      have : pcs s.data.toList = [] := by
        cases hh : pcs s.data.toList with
        | nil => rfl
        | cons x y => rw [hh, endsP] at h0; cases h0
      rw [← h1]; unfold mendL; rw [this]; rfl)
    clear hq' hr'
    refine wp_loop_rounds 1 ?_
    rw [rounds_succ]
    go_wp2
    go_ret
    exact ⟨ret_string (by rw [hr1.out]), hb⟩
  · skip
    go_loopw [3, 4, 6] (fun x f y wr => ∃ (i k : Nat) (acc : List UInt8), x = .string ⟨acc.toArray⟩ ∧ f = .int .i64 k ∧ y = .int .i64 i ∧ i ≤ q.length ∧ k ≤ s.size ∧ acc.length ≤ 1000003 * i ∧ Below w1.heap.size w1 wr ∧ Hid (q.drop i = endsP (pcs (s.data.toList.drop k)) k) ∧ Hid (acc ++ mendL (s.data.toList.drop k) = r)) (fun _ _ y _ => q.length - (intOf y).toNat)
    case atStart => exact ⟨0, 0, [], rfl, by go_num, by go_num, Nat.zero_le _, Nat.zero_le _, by simp, Below.refl _ _, hq', hr'⟩
    case round =>
      obtain ⟨i, k, acc, rfl, rfl, rfl, hiq, hks, hal, hb1, hqe, hp⟩ := hrel
      have hbb := hb.trans (hb1.mono hb.size)
      have hsz := hbb.size
      have hsz1 := hb1.size
      by_cases hlt : k < s.size
      · have hne := drop_ne s k hlt
        have hst := pcs_step _ hne
        have hms := mend_step _ hne
        have hle := wd_le _ hne
        have hwp := wd_pos (s.data.toList.drop k)
        rw [List.length_drop, bytes_len] at hle
        have hqd := hqe.out
        rw [hst, endsP] at hqd
        have hi2 : i < q.length := by
          rcases Nat.lt_or_ge i q.length with h | h
          · exact h
          · rw [List.drop_eq_nil_iff.2 h] at hqd; cases hqd
        have hdg := drop_get q i hi2
        rw [hqd] at hdg
        have hc := cell_later hb1 (hcell i hi2)
        have hx := hat i
        injection hdg with hx' hrest
        rw [← hx'] at hc hx
        cases hok : ok (s.data.toList.drop k) with
        | true =>
          rw [hok, if_pos rfl] at hc hx
          dsimp only at hc
          generalize hdw : wd (s.data.toList.drop k) = d at *
          have hqn : Hid (q.drop (i + 1) = endsP (pcs (s.data.toList.drop (k + d))) (k + d)) := hid (by rw [← hrest, List.drop_drop])
          have hp' : Hid ((acc ++ (s.data.toList.drop k).take d) ++ mendL (s.data.toList.drop (k + d)) = r) := hid (by rw [← hp.out, hms, hok, if_pos rfl, List.drop_drop, List.append_assoc])
          have hstr : Hid ((⟨acc.toArray⟩ : ByteArray) ++ s.extract k (k + d) = ⟨(acc ++ (s.data.toList.drop k).take d).toArray⟩) := hid (by rw [mid_str, str_more])
          have hadd : ¬ 9223372036854775807 < (⟨acc.toArray⟩ : ByteArray).size + (s.extract k (k + d)).size := by
            rw [mid_str, str_len, str_len, List.length_take]; omega
          have hlen' : (acc ++ (s.data.toList.drop k).take d).length ≤ 1000003 * (i + 1) := by rw [List.length_append, List.length_take]; omega
          clear hst hms hqd hrest hx' hqe hp hq' hr' hdw hok hne hcell hat hx hew
          have hkd : (k : Int) + (d : Int) ≤ (s.size : Int) := by omega
          rw [Int.natCast_add] at hc
          go_wp2
          go_roundw
          case rel => exact ⟨i + 1, k + d, _, by rw [hstr.out], by go_num, by go_num, by omega, by omega, hlen', hb1, hqn, hp'⟩
          case measure => simp [intOf]; omega
        | false =>
          rw [hok, if_neg (fun h => by cases h), bad_wd hok] at hc hx
          have hwd := bad_wd hok
          have hqn : Hid (q.drop (i + 1) = endsP (pcs (s.data.toList.drop (k + 1))) (k + 1)) := hid (by rw [← hrest, hwd, List.drop_drop])
          have hp' : Hid ((acc ++ [239, 191, 189]) ++ mendL (s.data.toList.drop (k + 1)) = r) := hid (by rw [← hp.out, hms, hok, if_neg (by decide), hwd, List.drop_drop, List.append_assoc])
          have hstr : Hid ((⟨acc.toArray⟩ : ByteArray) ++ ⟨#[239, 191, 189]⟩ = ⟨(acc ++ [239, 191, 189]).toArray⟩) := hid (str_more acc [239, 191, 189])
          have hadd : ¬ 9223372036854775807 < (⟨acc.toArray⟩ : ByteArray).size + (⟨#[239, 191, 189]⟩ : ByteArray).size := by
            rw [str_len, show (⟨#[239, 191, 189]⟩ : ByteArray).size = 3 from rfl]; omega
          have hlit := lit_string wr
          have hca := cell_later ((Below.refl wr.heap.size wr).alloc (Nat.le_refl _) (.cells #[.int .u8 239, .int .u8 191, .int .u8 189] 5)) hc
          have hlen' : (acc ++ [239, 191, 189]).length ≤ 1000003 * (i + 1) := by rw [List.length_append]; simp only [List.length_cons, List.length_nil]; omega
          clear hst hms hqd hrest hx' hqe hp hq' hr' hok hne hcell hat hx hew hwd
          rw [Int.natCast_add] at hc hca
          go_wp2
          go_roundw
          case rel => exact ⟨i + 1, k + 1, _, by rw [hstr.out], by go_num, by go_num, by omega, by omega, hlen', hb1.alloc hsz1 _, hqn, hp'⟩
          case measure => simp [intOf]; omega
      · have hqd := hqe.out
        have hdn : s.data.toList.drop k = [] := List.drop_eq_nil_iff.2 (by rw [bytes_len]; omega)
        rw [hdn, pcs_nil, endsP] at hqd
        have hiq2 : q.length ≤ i := List.drop_eq_nil_iff.1 hqd
        have hr1 : Hid (r = acc) := hid (by rw [← hp.out, hdn, mend_nil, List.append_nil])
        clear hqe hp hq' hr' hcell hat hew hqd hdn
        go_wp2
        go_ret
        exact ⟨ret_string (by rw [hr1.out]), hbb⟩

end Go.Proofs.Ytlepgfkhgmgobaa
