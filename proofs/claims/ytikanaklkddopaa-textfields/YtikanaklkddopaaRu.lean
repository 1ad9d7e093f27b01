/-
  WHAT THE DOCUMENT's OWN Unquote GIVES, AS A FUNCTION OF THE TEXT's BYTES. No conditions but the length.
-/
import Derived.Test.YtikanaklkddopaaRq
import Derived.BigQuiet
namespace Go.Proofs.Ytikanaklkddopaa
open Go.Shelf Go.ChangeShapes Go.WideShapes Go.ChangeAt Go.RowKit
set_option linter.unusedVariables false

/-- A world that a call may leave: the old blocks stand. -/
structure After (w : World) where
  out : World
  bel : Below w.heap.size w out

/-- A region that draws its order, and whose callees may make memory of their own: one walk, in the order of the text. -/
theorem wp_region_after {P : Program} {id : Nat} {Q : Exit → Act → World → Prop} {a : Act} {w : World} {l : List Oper} (hm : P.follows .mixedOrders = true) (hB : Region.lexB .any l.toArray = true)
    (h : wpQuiet P l.toArray (fun w' => ∃ p : After w, w' = p.out) (fun a' => ∀ w', (∃ p : After w, w' = p.out) → Q .normal a' w') l a) : (Code.region id l.toArray true).wp P Q a w :=
  wp_region_quiet (C := fun w' => ∃ p : After w, w' = p.out) hm hB ⟨⟨_, (Below.refl _ w).drew⟩, rfl⟩ (by simpa using h)

theorem after_same {P : Program} {f : FuncId} {args : Array Value} {w : World} {v : Value} (p : After w) (h : Calls P f args p.out fun e w' => w' = p.out ∧ e = .returned v) :
    Calls P f args p.out fun e w'' => e = .returned v ∧ ∃ p : After w, w'' = p.out :=
  h.mono fun _ _ ⟨hw, he⟩ => ⟨he, p, hw⟩
theorem after_below {P : Program} {f : FuncId} {args : Array Value} {w : World} {v : Value} (p : After w) (h : Calls P f args p.out fun e w' => e = .returned v ∧ Below p.out.heap.size p.out w') :
    Calls P f args p.out fun e w'' => e = .returned v ∧ ∃ p : After w, w'' = p.out :=
  h.mono fun _ w' ⟨he, hb⟩ => ⟨he, ⟨w', p.bel.trans (hb.mono p.bel.size)⟩, rfl⟩

theorem str_beq {a b : ByteArray} : (a.toList == b.toList) = true ↔ a = b := by
  rw [Lib.toList_data, Lib.toList_data]
  constructor
  · intro h
    have := eq_of_beq h
    apply ByteArray.ext
    exact Array.toList_inj.1 this
  · rintro rfl
    simp

theorem first_hit (L : List Int) (hm : mayB (L.getD 0 0) = false) (c : Int) (h0 : 0 ≤ c) (h1 : c ≤ 255) (hc : mayB c = false) (he : L.take 4 = codeL c) : firstL L = (c, 4) := by
  have hL : L = codeL c ++ L.drop 4 := by rw [← he, List.take_append_drop]
  have hcd := codedL_code c h0 h1 (L.drop 4)
  rw [← hL] at hcd
  unfold firstL
  rw [hm, hcd]
  simp [hc]

theorem first_miss (L : List Int) (hm : mayB (L.getD 0 0) = false) (hno : ∀ c : Int, 0 ≤ c → c < 256 → mayB c = false → L.take 4 ≠ codeL c) : (firstL L).2 = 0 := by
  have hr := codedL_range L
  unfold firstL
  rw [hm]
  simp only [Bool.false_eq_true, if_false]
  split
  · rename_i h
    exfalso
    refine hno _ hr.1 (by omega) h.2 ?_
    have h2 := h.1
    clear hno hm hr h
    unfold codedL at h2 ⊢
    split at h2
    · rename_i h a b c r
      split at h2
      · rename_i hh
        simp only [hh, and_self, if_true]
        simp only [digB, Bool.and_eq_true, decide_eq_true_eq] at hh
        have e1 : valL a b c / 64 = a - 48 := by unfold valL; omega
        have e2 : valL a b c / 8 % 8 = b - 48 := by unfold valL; omega
        have e3 : valL a b c % 8 = c - 48 := by unfold valL; omega
        simp only [codeL, e1, e2, e3, List.take_succ_cons, List.take_zero, List.cons.injEq, and_true]
        exact ⟨trivial, by omega, by omega, by omega⟩
      · simp at h2
    · simp at h2
  · rfl

set_option maxHeartbeats 8000000 in
set_option maxRecDepth 20000 in
theorem runquote_walk (s : ByteArray) (hs : s.size ≤ 1000000) (w : World) :
    Calls Try.prog 24 #[.string s] w fun e w' => e = .returned (.tuple #[.string (unqS (unquoteL (nums s))), .bool (unquoteL (nums s)).isSome]) ∧ Below w.heap.size w w' := by
  obtain ⟨i0, hi, hz0, hz1, hz2⟩ := info_parts Try.info5
  have hlen := nums_length s
  have hr := nums_range s
  obtain ⟨q, hq⟩ : ∃ q, q = unquoteL (nums s) := ⟨_, rfl⟩
  have hq' : Hid (unquoteL (nums s) = q) := hid hq.symm
  rw [← hq]
  clear hq
  have hlit := World.ownsRow_lit (base := w.heap.size) (e := 5) (size := 1) w #[] 0 (Nat.le_refl _) (by unfold maxLen; omega) rfl
  go_enter Try.func24, Try.ntmps24
  go_wp2
  go_loopw [4, 5] (fun x y wr => ∃ (v : Value) (i : Nat) (acc : List Int), x = v ∧ y = .int .i64 i ∧ i ≤ s.size ∧ acc.length ≤ i ∧ wr.ownsRow w.heap.size 5 1 v acc.length (u8s acc) ∧ Below w.heap.size w wr ∧ Hid (q = (unquoteL ((nums s).drop i)).map (acc ++ ·)) ∧ (∀ y ∈ acc, 0 ≤ y ∧ y ≤ 255)) (fun _ y _ => s.size - (intOf y).toNat)
  case atStart => exact ⟨_, 0, [], rfl, by go_num, by omega, by simp, hlit, (Below.refl _ w).alloc (Nat.le_refl _) _, hid (by rw [List.drop_zero, show unquoteL (nums s) = q from hq']; cases q <;> rfl), by simp⟩
  case round =>
    obtain ⟨v, i, acc, rfl, rfl, hik, hai, hown, hb, hrel, har⟩ := hrel
    have hBsz := hb.size
    rcases Nat.lt_or_ge i s.size with hk2 | hk2
    · obtain ⟨c, hc⟩ : ∃ c : Int, c = ((s[i]'hk2).toNat : Int) := ⟨_, rfl⟩
      have hcl : Hid (c = (nums s).getD i 0) := hid (by rw [hc, nums_at])
      have hcr : 0 ≤ c ∧ c ≤ 255 := by rw [show c = (nums s).getD i 0 from hcl]; exact nums_at_range s i
      obtain ⟨hc0, hc1⟩ := hcr
      have hd0 : Hid (((nums s).drop i).getD 0 0 = c) := hid (by rw [show c = (nums s).getD i 0 from hcl, List.getD_eq_getElem?_getD, List.getD_eq_getElem?_getD, List.getElem?_drop, Nat.add_zero])
      have hdn : (nums s).drop i ≠ [] := by intro e; have := congrArg List.length e; simp at this; omega
      have hnone := @unquoteL_none _ hdn
      have hsome := @unquoteL_some _ hdn
      replace hc := hc.symm
      clear hcl
      cases hm : mayB c with
      | true =>
        have hf : firstL ((nums s).drop i) = (c, 1) := by unfold firstL; rw [show _ = _ from hd0, hm]; rfl
        rw [hf] at hsome
        have hrel2 : Hid (q = (unquoteL ((nums s).drop (i + 1))).map ((acc ++ [c]) ++ ·)) := hid (by
          rw [show q = _ from hrel, hsome (by simp), Option.map_map, List.drop_drop]; congr 1; funext y; simp)
        clear hrel hnone hsome hf
        go_wp2_with (first | (go_at_call 35; refine (open_walk _ hc0 hc1 _).mono ?_; rintro e w' ⟨hw, rfl⟩; obtain rfl := hw.symm) | (at_builtin; refine wpList_append_own _ rfl (.tmp 17) (.tmp 21) 22 rfl w.heap.size 5 i0 (.int .u8 0) 1 1 Try.underlying22 hi hz0 hz1 hz2 rfl (by decide) _ _ _ rfl (hown.alloc _) ⟨wr.heap.size, 0, none⟩ 1 1 [.int .u8 c] rfl rfl (cell_one_new _ _ _) (one_one _) (by unfold maxLen; omega) (by omega) (by simp; omega) ?_; intro v' w2 hown' hgrow' _))
        go_roundw
        case rel => exact ⟨_, i + 1, acc ++ [c], rfl, by go_num, by omega, by simp; omega, by have := own_more hown'; simpa using this, (hb.alloc hBsz _).grown hgrow' (by simp; omega) (fun k hk => (hown.lt k hk).1), hrel2, by
          intro y hy; simp at hy; rcases hy with hy | rfl
          · exact har y hy
          · exact ⟨hc0, hc1⟩⟩
        case measure => simp [intOf]; omega
      | false =>
        have hd0' : mayB (((nums s).drop i).getD 0 0) = false := by rw [show _ = _ from hd0, hm]
        by_cases hi4 : i + 4 ≤ s.size
        · have hhit := fun c => first_hit ((nums s).drop i) hd0' c
          have hmiss := first_miss ((nums s).drop i) hd0'
          have ht4 : nums (s.extract i (i + 4)) = ((nums s).drop i).take 4 := by rw [nums_extract]; congr 1; omega
          have hi4' : ((i : Int) + 4 ≤ (s.size : Int)) := by omega
          go_upto_block 2 with (go_at_call 35; refine (open_walk _ hc0 hc1 _).mono ?_; rintro e w' ⟨hw, rfl⟩; obtain rfl := hw.symm)
          go_cut [4, 6] (fun x f w1 => Below w.heap.size w w1 ∧ ((∃ d : Int, f = .bool true ∧ 0 ≤ d ∧ d ≤ 255 ∧ w1.ownsRow w.heap.size 5 1 x (acc.length + 1) (u8s (acc ++ [d])) ∧ Hid (firstL ((nums s).drop i) = (d, 4))) ∨ (f = .bool false ∧ Hid ((firstL ((nums s).drop i)).2 = 0))))
          case first =>
            go_wp2
            go_loopw [4, 6, 7] (fun x f y w1 => ∃ j : Nat, y = .int .i64 j ∧ j ≤ 256 ∧ Below w.heap.size w w1 ∧ ((∃ d : Int, f = .bool true ∧ 0 ≤ d ∧ d ≤ 255 ∧ w1.ownsRow w.heap.size 5 1 x (acc.length + 1) (u8s (acc ++ [d])) ∧ Hid (firstL ((nums s).drop i) = (d, 4))) ∨ (f = .bool false ∧ w1.ownsRow w.heap.size 5 1 x acc.length (u8s acc) ∧ ∀ c : Int, 0 ≤ c → c < j → mayB c = false → ((nums s).drop i).take 4 ≠ codeL c))) (fun _ _ y _ => 256 - (intOf y).toNat)
            case atStart => exact ⟨0, by go_num, by omega, hb, .inr ⟨rfl, hown, by intro c h h'; omega⟩⟩
            case round =>
              obtain ⟨j, rfl, hj, hb1, ⟨d, rfl, hd0, hd1, hown1, hf⟩ | ⟨rfl, hown1, hno⟩⟩ := hrel
              · go_wp2
                all_goals go_meet
                all_goals (case rel => exact ⟨hb1, .inl ⟨d, rfl, hd0, hd1, hown1, hf⟩⟩)
              · rcases Nat.lt_or_ge j 256 with hj2 | hj2
                · have hj0 : (0 : Int) ≤ (j : Int) := by omega
                  have hj1 : (j : Int) ≤ 255 := by omega
                  have hopen := fun w => open_walk (j : Int) hj0 hj1 w
                  have hcode := fun w => code_walk (j : Int) hj0 hj1 w
                  clear hown hb hBsz hnone hsome hc hm hd0 hd0' hdn hlit hrel hr hq' hmiss hc0 hc1 hk2 hik
                  have hno' := hid hno
                  have hhit' := hid hhit
                  clear hno hhit
                  cases hmj : mayB (j : Int) with
                  | true =>
                    rw [hmj] at hopen
                    go_upto_block 3 with fail
                    go_cut [4, 6] (fun x f w1 => Below w.heap.size w w1 ∧ ((f = .bool true ∧ w1.ownsRow w.heap.size 5 1 x (acc.length + 1) (u8s (acc ++ [(j : Int)])) ∧ Hid (mayB (j : Int) = false ∧ ((nums s).drop i).take 4 = codeL j)) ∨ (f = .bool false ∧ w1.ownsRow w.heap.size 5 1 x acc.length (u8s acc) ∧ Hid (¬ (mayB (j : Int) = false ∧ ((nums s).drop i).take 4 = codeL j)))))
                    case first =>
                      go_wp2_with fail
                      have hne : Nonempty (After wr) := ⟨⟨wr, Below.refl _ _⟩⟩
                      refine wp_region_after (by kernel_rfl) (by kernel_rfl) ?_
                      repeat (go_big_quiet_step ((go_at_call 35; exact after_same _ (hopen _))))
                      refine wpQuiet_nil ?_
                      intro wq hw'
                      obtain ⟨⟨x, hwq⟩, hx⟩ := hw'
                      simp only at hx
                      subst hx
                      go_wp2
                      go_meet
                      case rel => exact ⟨hb1.trans (hwq.mono hb1.size), .inr ⟨rfl, own_below hwq hown1, hid (by simp [hmj])⟩⟩
                    case rest =>
                      obtain ⟨hb2, ⟨rfl, -, hh⟩ | ⟨rfl, hown2, hh⟩⟩ := hcut
                      · exact absurd (show _ from hh).1 (by simp [hmj])
                      · go_wp2
                        go_roundw
                        case rel => exact ⟨j + 1, by go_num, by omega, hb2, .inr ⟨rfl, hown2, by
                          intro c h h' h''
                          rcases Int.lt_or_le c j with hcj | hcj
                          · exact (show ∀ c : Int, 0 ≤ c → c < j → mayB c = false → ((nums s).drop i).take 4 ≠ codeL c from hno') c h hcj h''
                          · obtain rfl : c = j := by omega
                            intro e
                            exact (show ¬ _ from hh) ⟨h'', e⟩⟩⟩
                        case measure => simp [intOf]; omega
                  | false =>
                    rw [hmj] at hopen
                    go_upto_block 3 with fail
                    go_cut [4, 6] (fun x f w1 => Below w.heap.size w w1 ∧ ((f = .bool true ∧ w1.ownsRow w.heap.size 5 1 x (acc.length + 1) (u8s (acc ++ [(j : Int)])) ∧ Hid (mayB (j : Int) = false ∧ ((nums s).drop i).take 4 = codeL j)) ∨ (f = .bool false ∧ w1.ownsRow w.heap.size 5 1 x acc.length (u8s acc) ∧ Hid (¬ (mayB (j : Int) = false ∧ ((nums s).drop i).take 4 = codeL j)))))
                    case first =>
                      go_wp2_with fail
                      have hne : Nonempty (After wr) := ⟨⟨wr, Below.refl _ _⟩⟩
                      refine wp_region_after (by kernel_rfl) (by kernel_rfl) ?_
                      repeat (go_big_quiet_step ((first | (go_at_call 35; exact after_same _ (hopen _)) | (go_at_call 36; exact after_below _ (hcode _)))))
                      refine wpQuiet_nil ?_
                      intro wq hw'
                      obtain ⟨⟨x, hwq⟩, hx⟩ := hw'
                      simp only at hx
                      subst hx
                      have hown2 := own_below hwq hown1
                      have hb2 := hb1.trans (hwq.mono hb1.size)
                      have hs2 := hb2.size
                      clear hown1 hwq
                      cases he : ((s.extract i (i + 4)).toList == (strOfNums (codeL j)).toList) with
                      | true =>
                        have he' : Hid (((nums s).drop i).take 4 = codeL j) := hid (by rw [← ht4, str_beq.1 he, nums_str _ (codeL_range _ hj0 hj1)])
                        go_wp2_with (at_builtin; refine wpList_append_own _ rfl (.tmp 55) (.tmp 58) 22 rfl w.heap.size 5 i0 (.int .u8 0) 1 1 Try.underlying22 hi hz0 hz1 hz2 rfl (by decide) _ _ _ rfl (hown2.alloc _) ⟨wq.heap.size, 0, none⟩ 1 1 [.int .u8 j] rfl rfl (cell_one_new _ _ _) (one_one _) (by unfold maxLen; omega) (by omega) (by simp; omega) ?_; intro v' w3 hown' hgrow' _)
                        go_meet
                        case rel => exact ⟨(hb2.alloc hs2 _).grown hgrow' (by simp; omega) (fun k hk => (hown2.lt k hk).1), .inl ⟨rfl, own_more hown', hid ⟨hmj, he'⟩⟩⟩
                      | false =>
                        go_wp2
                        go_meet
                        case rel => exact ⟨hb2, .inr ⟨rfl, hown2, hid (by
                          rintro ⟨-, h⟩
                          have : ((s.extract i (i + 4)).toList == (strOfNums (codeL j)).toList) = true := str_beq.2 (nums_inj (by rw [ht4, h, nums_str _ (codeL_range _ hj0 hj1)]))
                          rw [he] at this
                          cases this)⟩⟩
                    case rest =>
                      obtain ⟨hb2, ⟨rfl, hown2, hh⟩ | ⟨rfl, hown2, hh⟩⟩ := hcut
                      · go_wp2
                        go_roundw
                        case rel => exact ⟨j + 1, by go_num, by omega, hb2, .inl ⟨j, rfl, hj0, hj1, hown2, hid ((show ∀ c : Int, 0 ≤ c → c ≤ 255 → mayB c = false → ((nums s).drop i).take 4 = codeL c → firstL ((nums s).drop i) = (c, 4) from hhit') j hj0 hj1 (show _ ∧ _ from hh).1 (show _ ∧ _ from hh).2)⟩⟩
                        case measure => simp [intOf]; omega
                      · go_wp2
                        go_roundw
                        case rel => exact ⟨j + 1, by go_num, by omega, hb2, .inr ⟨rfl, hown2, by
                          intro c h h' h''
                          rcases Int.lt_or_le c j with hcj | hcj
                          · exact (show ∀ c : Int, 0 ≤ c → c < j → mayB c = false → ((nums s).drop i).take 4 ≠ codeL c from hno') c h hcj h''
                          · obtain rfl : c = j := by omega
                            intro e
                            exact (show ¬ _ from hh) ⟨h'', e⟩⟩⟩
                        case measure => simp [intOf]; omega
                · go_wp2
                  go_meet
                  case rel => exact ⟨hb1, .inr ⟨rfl, hid (hmiss (by intro c h h'; exact hno c h (by omega)))⟩⟩
          case rest =>
            obtain ⟨hb1, ⟨d, rfl, hd0, hd1, hown1, hf⟩ | ⟨rfl, hf⟩⟩ := hcut
            · have hf' : firstL ((nums s).drop i) = (d, 4) := hf
              rw [hf'] at hsome
              have hrel2 : Hid (q = (unquoteL ((nums s).drop (i + 4))).map ((acc ++ [d]) ++ ·)) := hid (by
                rw [show q = _ from hrel, hsome (by simp), Option.map_map, List.drop_drop]; congr 1; funext y; simp)
              clear hrel hnone hsome hf' hf hhit hmiss
              go_wp2
              go_roundw
              case rel => exact ⟨_, i + 4, acc ++ [d], rfl, by go_num, by omega, by simp; omega, by simpa using hown1, hb1, hrel2, by
                intro y hy; simp at hy; rcases hy with hy | rfl
                · exact har y hy
                · exact ⟨hd0, hd1⟩⟩
              case measure => simp [intOf]; omega
            · have hqa : q = none := by rw [show q = _ from hrel, hnone hf]; rfl
              subst hqa
              clear hrel hnone hsome hf hhit hmiss hq'
              go_wp2
              go_ret2
              exact ⟨rfl, hb1⟩
        · have hnone' := hnone (first_miss _ hd0' (by
            intro c _ _ _ e
            have := congrArg List.length e
            simp [codeL] at this
            omega))
          have hqa : q = none := by rw [show q = _ from hrel, hnone']; rfl
          subst hqa
          clear hrel hnone hsome hnone' hq'
          go_wp2_with (go_at_call 35; refine (open_walk _ hc0 hc1 _).mono ?_; rintro e w' ⟨hw, rfl⟩; obtain rfl := hw.symm)
          refine wp_loop_rounds 1 ?_
          rw [rounds_succ]
          go_wp2
          go_ret2
          exact ⟨rfl, hb⟩
    · obtain rfl : i = s.size := by omega
      have hqa : q = some acc := by rw [show q = _ from hrel, List.drop_eq_nil_iff.2 (by omega), unquoteL_nil]; simp
      subst hqa
      obtain ⟨a, cc, rfl, hby⟩ := own_bys hown rfl har
      have hcv := bys_string (P := Try.prog) Try.underlying22 Try.underlying5 Try.underlying9 hby
      clear hrel hq'
      go_wp2
      go_ret2
      exact ⟨rfl, hb⟩

end Go.Proofs.Ytikanaklkddopaa
