/-
  THE DOCUMENT's PAIRS WHOSE RECORDS BYTES ARE. Conditions: how many bytes there are.
-/
import Derived.Test.YtkocnbdakfhpaaaDoorRfp
import Derived.Test.YtkocnbdakfhpaaaDoorRrg
import Derived.Deep.CutBlock
import Derived.Deep.DeepCutAuto
namespace Go.Proofs.YtkocnbdakfhpaaaDoor
open Go.ChangeShapes Go.WideShapes Go.ChangeAt Go.RowKit Go.Lib
set_option linter.unusedVariables false
set_option linter.unusedSimpArgs false
set_option maxRecDepth 20000

theorem drop_at {l : List Int} {k n : Nat} (hl : l.length = n) (h : k < n) : ∃ c, l.drop k = c :: l.drop (k + 1) ∧ c = l.getD k 0 := by
  refine ⟨l[k]'(by omega), List.drop_eq_getElem_cons (by omega), ?_⟩
  rw [List.getD_eq_getElem?_getD, List.getElem?_eq_getElem (by omega)]; rfl

theorem Bys.mid {w : World} {b off n c : Nat} {l : List Int} (h : Bys w (some ⟨b, off, none⟩) n c l) (i m : Nat) (him : i + m ≤ n) (hic : c ≠ i) : Bys w (some ⟨b, off + i, none⟩) m (c - i) ((l.drop i).take m) := by
  obtain ⟨a', hv, hb'⟩ := h.from i (by omega)
  unfold Lib.fromV at hv
  rw [if_neg hic] at hv
  simp only [Value.slice.injEq, and_true] at hv
  have e : (some (⟨b, off + i, none⟩ : Addr)) = a' := by rw [← hv]; simp [Addr.add]
  rw [e]
  exact hb'.take m (by omega)

theorem mid_at {l X : List Int} {s m j : Nat} {ch : Int} (hX : X = (l.drop s).take m) (h1 : s ≤ j) (h2 : j < s + m) (hl : l.drop j = ch :: l.drop (j + 1)) : X.drop (j - s) = ch :: X.drop (j - s + 1) := by
  rw [hX, List.drop_take, List.drop_take, List.drop_drop, List.drop_drop, show s + (j - s) = j by omega, show s + (j - s + 1) = j + 1 by omega, hl, show m - (j - s) = (m - (j - s + 1)) + 1 by omega, List.take_succ_cons]
theorem ah_full (x : Int) (l : List Int) (h : l.length ≤ (ahI x l).length) : inI x l = false := by
  unfold inI
  refine decide_eq_false fun hm => ?_
  have := congrArg List.length (cut_app x l hm)
  rw [List.length_append, List.length_cons] at this
  omega
theorem ah_part (x : Int) (l : List Int) (h : (ahI x l).length < l.length) : inI x l = true ∧ ahI x l = l.take (ahI x l).length ∧ beI x l = l.drop ((ahI x l).length + 1) := by
  have hm := in_of_ah x l h
  refine ⟨decide_eq_true hm, ?_, ah_drop x l h⟩
  have c := cut_app x l hm
  have : l.take (ahI x l).length = (ahI x l ++ x :: beI x l).take (ahI x l).length := by rw [← c]
  rw [this, List.take_left]
theorem ah_take (x : Int) (l : List Int) : l.take (ahI x l).length = ahI x l := by
  by_cases h : (ahI x l).length < l.length
  · exact (ah_part x l h).2.1.symm
  · have hn : x ∉ l := of_decide_eq_false (ah_full x l (by omega))
    rw [ah_none x l hn, List.take_length]

set_option maxHeartbeats 8000000 in
theorem rparse_ok {w : World} {a : Option Addr} {n c : Nat} {l : List Int} (h : Bys w a n c l) (hn : n ≤ 3000) :
    Calls Tryd.prog 8 #[.slice a n c] w fun e w' => ∃ a' m c', e = .returned (.tuple #[.slice a' m c', .bool (prs l).isSome]) ∧ Pys w' a' m c' (prsP (prs l)) ∧ Below w.heap.size w w' := by
  obtain ⟨i0, hi, hz0, hz1, hz2⟩ := info_parts infoPair
  have hB := h
  obtain ⟨hl, hlc, hm, hr, ⟨rfl, rfl⟩ | ⟨h0, b, off, rfl, hc⟩⟩ := h
  · have E : prs [] = some [] := rfl
    rw [E]
    go_enter Tryd.func8, Tryd.ntmps8
    go_wp2
    go_rounds 1
    all_goals go_ret2
    all_goals exact ⟨none, 0, 0, rfl, ⟨rfl, Nat.le_refl _, by omega, .inl ⟨rfl, rfl⟩⟩, Below.refl _ _⟩
  · obtain ⟨q, hq⟩ : ∃ q, q = prs l := ⟨_, rfl⟩
    rw [← hq]
    have hq' := hid hq
    have hl' := hid hl
    have hr' := hid hr
    have hown0 := World.ownsRow_nil w w.heap.size 37 2
    clear hq hl hr
    go_enter Tryd.func8, Tryd.ntmps8
    go_wp2
    go_loopw [4, 5] (fun y x wr => ∃ (v : Value) (k : Nat) (acc : List (ByteArray × ByteArray)), y = v ∧ x = .int .i64 k ∧ k ≤ n ∧ acc.length ≤ k ∧ wr.ownsRow w.heap.size 37 2 v acc.length (pcs2 acc) ∧ Below w.heap.size w wr ∧ Hid (q = prsF ((l.drop k).length + 1) (l.drop k) acc)) (fun _ x _ => n - (RowKit.intOf x).toNat)
    case atStart => exact ⟨_, 0, [], rfl, rfl, by omega, by simp, hown0, Below.refl _ _, hid hq'.out⟩
    case round =>
      obtain ⟨v, k, acc, rfl, rfl, hk, hac, hown, hb, hrl⟩ := hrel
      have hBsz := hb.size
      by_cases hlt : k < n
      · have hne : l.drop k ≠ [] := by intro e; have := congrArg List.length e; rw [List.length_drop, hl'.out] at this; simp at this; omega
        have hst := hid (prs_step hne acc)
        have hkI : (k : Int) < (n : Int) := by omega
        have hcb : Cells wr b off l := hc.below hb
        go_upto_block 2 with fail
        go_cut [6] (fun x wc => wc = wr ∧ ∃ d : Nat, x = .int .i64 (k + d : Nat) ∧ k + d ≤ n ∧ Hid (d = (ahI 32 (l.drop k)).length))
        case first =>
          go_wp2
          go_loopw [6] (fun x w1 => ∃ j : Nat, x = .int .i64 j ∧ w1 = wr ∧ k ≤ j ∧ j ≤ n ∧ Hid ((ahI 32 (l.drop k)).length + k = j + (ahI 32 (l.drop j)).length)) (fun x _ => n - (RowKit.intOf x).toNat)
          case atStart => exact ⟨k, rfl, rfl, by omega, by omega, hid (by omega)⟩
          case round =>
            obtain ⟨j, rfl, rfl, hkj, hjn, hj⟩ := hrel
            by_cases hlt2 : j < n
            · obtain ⟨ch, hd, hc0, hc1, hck⟩ := hcb.at (k := j) (by rw [hl'.out]; exact hlt2)
              have hjI : (j : Int) < (n : Int) := by omega
              by_cases h32 : ch = 32
              · subst h32
                have E := hid (by have := hj.out; rw [ah_hit 32 l j hd.out] at this; simp at this; omega : j = k + (ahI 32 (l.drop k)).length)
                clear hj hd
                go_wp2
                go_meet
                case rel => exact ⟨rfl, j - k, by rw [show k + (j - k) = j by omega], by omega, hid (by have := E.out; omega)⟩
              · have h32' : (ch == 32) = false := by simpa using h32
                have E := hid (by have := hj.out; rw [ah_miss 32 ch l j h32 hd.out, List.length_cons] at this; omega : (ahI 32 (l.drop k)).length + k = j + 1 + (ahI 32 (l.drop (j + 1))).length)
                clear hj hd
                go_wp2
                go_roundw
                case rel => exact ⟨j + 1, by go_num, by first | rfl | trivial, by omega, by omega, E⟩
                case measure => simp [RowKit.intOf]; omega
            · obtain rfl : j = n := by omega
              have E := hid (by have := hj.out; rw [show l.drop j = [] from List.drop_eq_nil_iff.mpr (by rw [hl'.out]; exact Nat.le_refl _)] at this; simp [ahI] at this ⊢; omega : j = k + (ahI 32 (l.drop k)).length)
              have hjI : ¬ (j : Int) < (j : Int) := by omega
              clear hj
              go_wp2
              go_meet
              case rel => exact ⟨rfl, j - k, by rw [show k + (j - k) = j by omega], by omega, hid (by have := E.out; omega)⟩
        case rest =>
          obtain ⟨rfl, d, rfl, hdn, hd⟩ := hcut
          by_cases h8 : 8 < d
          · have hfr := frst_long (l.drop k) (by rw [List.length_drop, hl'.out]; omega) (by rw [← hd.out]; exact h8)
            have E := hid (by rw [hrl.out, hst.out, hfr] : q = none)
            have h8I : (8 : Int) < (d : Int) := by omega
            clear hrl hst hfr hd hne
            go_wp2
            all_goals go_ret2
            all_goals exact ⟨none, 0, 0, by rw [E.out]; rfl, by rw [E.out]; exact ⟨rfl, Nat.le_refl _, by omega, .inl ⟨rfl, rfl⟩⟩, hb⟩
          · have h8I : ¬ (8 : Int) < (d : Int) := by omega
            have hBc := hB.below hb
            obtain ⟨A, hA⟩ : ∃ A, A = ahI 32 (l.drop k) := ⟨_, rfl⟩
            have hdA : d = A.length := by rw [hd.out, hA]
            have hmid := hBc.mid k d (by omega) (by omega)
            have hmA : (l.drop k).take d = A := by rw [hdA, hA]; exact ah_take 32 _
            rw [hmA] at hmid
            have hcv := bys_string (P := Tryd.prog) Tryd.underlying22 Tryd.underlying5 Tryd.underlying9 hmid
            have hrlen : (l.drop k).length = n - k := by rw [List.length_drop, hl'.out]
            have hb9 : bs (strOfNums A) = bytesOf A := bs_str A
            cases hN : nat63 (bytesOf A) with
            | none =>
              have hnum := fun w => rnumber_ok (strOfNums A) (by rw [strN_size]; omega) w 0 false (by rw [hb9, hN]) (by rw [hb9, hN])
              have E := hid (by rw [hrl.out, hst.out, frst_nonum (by rw [← hA]; exact hN)] : q = none)
              generalize strOfNums A = SA at *
              clear hrl hst hd hne hmid hmA hA hdA hN hb9 hrlen
              go_wp2_with (go_at_call 20; refine (hnum _).mono ?_; rintro e w1 ⟨rfl, hw1⟩; obtain rfl := hw1.symm)
              all_goals go_ret2
              all_goals exact ⟨none, 0, 0, by rw [E.out]; rfl, by rw [E.out]; exact ⟨rfl, Nat.le_refl _, by omega, .inl ⟨rfl, rfl⟩⟩, hb⟩
            | some u =>
              have hu8 := nat63_small (r := l.drop k) (by rw [← hA]; exact hN) (by rw [← hA]; omega)
              have hnum := fun w => rnumber_ok (strOfNums A) (by rw [strN_size]; omega) w (u : Int) true (by rw [hb9, hN]; simp only; rw [if_pos (by omega)]) (by rw [hb9, hN]; simp only; rw [decide_eq_true (by omega)])
              have hN2 : nat63 (bytesOf (ahI 32 (l.drop k))) = some u := by rw [← hA]; exact hN
              by_cases hu : k + u ≤ n
              · obtain ⟨s1, s2, s3⟩ := frst_split hN2 (by rw [hrlen]; omega)
                have hgd : (l.drop k).getD (u - 1) 0 = l.getD (k + (u - 1)) 0 := by rw [List.getD_eq_getElem?_getD, List.getElem?_drop, ← List.getD_eq_getElem?_getD]
                rw [← hA, ← hdA] at s1 s2 s3
                rw [hgd] at s2 s3
                have huI : (k : Int) + (u : Int) ≤ (n : Int) := by omega
                by_cases h2 : d + 2 ≤ u
                · have h2I : ¬ (k : Int) + (u : Int) < (k : Int) + (d : Int) + 2 := by omega
                  obtain ⟨ch, hdc, hc0, hc1, hck⟩ := hcb.at (k := k + (u - 1)) (by rw [hl'.out]; omega)
                  have hch : ch = l.getD (k + (u - 1)) 0 := by
                    have := congrArg (fun x => x.head?.getD 0) hdc.out
                    simp only [List.head?_drop, List.head?_cons, Option.getD_some] at this
                    rw [List.getD_eq_getElem?_getD]; exact this.symm
                  rw [← hch] at s2 s3
                  have hjj : k + (u - 1) = k + u - 1 := by omega
                  rw [hjj] at hck
                  generalize strOfNums A = SA at *
                  clear hmid hmA hA hdA hN hN2 hb9 hd hgd hch hdc s1
                  by_cases h10 : ch = 10
                  · subst h10
                    have s4 := hid (s3 h2 rfl)
                    clear s2 s3
                    go_upto_block 4 with (go_at_call 20; refine (hnum _).mono ?_; rintro e w1 ⟨rfl, hw1⟩; obtain rfl := hw1.symm)
                    obtain ⟨X, hX⟩ : ∃ X, X = (l.drop (k + d + 1)).take (u - d - 2) := ⟨_, rfl⟩
                    have hXl : X.length = u - d - 2 := by rw [hX, List.length_take, List.length_drop, hl'.out]; omega
                    have s5 := hid (s4.out X (by rw [hX, List.drop_drop, Nat.add_assoc]))
                    have hX' := hid hX
                    have hXl' := hid hXl
                    clear s4 hX hXl
                    go_cut [10] (fun x wd => wd = wc ∧ ∃ j : Nat, x = .int .i64 j ∧ k + d + 1 ≤ j ∧ j ≤ k + u - 1 ∧ Hid (j = k + d + 1 + (ahI 61 X).length))
                    case first =>
                      go_wp2
                      go_loopw [10] (fun x w1 => ∃ j : Nat, x = .int .i64 j ∧ w1 = wc ∧ k + d + 1 ≤ j ∧ j ≤ k + u - 1 ∧ Hid ((ahI 61 X).length + (k + d + 1) = j + (ahI 61 (X.drop (j - (k + d + 1)))).length)) (fun x _ => n - (RowKit.intOf x).toNat)
                      case atStart => exact ⟨k + d + 1, by go_num, rfl, by omega, by omega, hid (by rw [Nat.sub_self, List.drop_zero]; omega)⟩
                      case round =>
                        obtain ⟨j, rfl, hw0, hkj, hjn, hj⟩ := hrel
                        obtain rfl := hw0.symm
                        by_cases hlt2 : j < k + u - 1
                        · obtain ⟨ch, hd2, hc2, hc3, hck2⟩ := hcb.at (k := j) (by rw [hl'.out]; omega)
                          have hjI : (j : Int) < (k : Int) + (u : Int) - 1 := by omega
                          have hjI2 : (j : Int) < (n : Int) := by omega
                          have hma := mid_at hX'.out hkj (by omega) hd2.out
                          by_cases h61 : ch = 61
                          · subst h61
                            have E := hid (by have := hj.out; rw [ah_hit 61 X (j - (k + d + 1)) hma] at this; simp at this; omega : j = k + d + 1 + (ahI 61 X).length)
                            clear hj hd2 hma
                            go_wp2
                            go_meet
                            case rel => exact ⟨rfl, j, rfl, by omega, by omega, E⟩
                          · have h61' : (ch != 61) = true := by simpa using h61
                            have E := hid (by have := hj.out; rw [ah_miss 61 ch X (j - (k + d + 1)) h61 hma, List.length_cons] at this; rw [show j + 1 - (k + d + 1) = j - (k + d + 1) + 1 by omega]; omega : (ahI 61 X).length + (k + d + 1) = j + 1 + (ahI 61 (X.drop (j + 1 - (k + d + 1)))).length)
                            clear hj hd2 hma
                            go_wp2
                            go_roundw
                            case rel => exact ⟨j + 1, by go_num, by first | rfl | trivial, by omega, by omega, E⟩
                            case measure => simp [RowKit.intOf]; omega
                        · have hje : j = k + u - 1 := by omega
                          have E := hid (by have := hj.out; rw [show X.drop (j - (k + d + 1)) = [] from List.drop_eq_nil_iff.mpr (by rw [hXl'.out]; omega)] at this; simp [ahI] at this ⊢; omega : j = k + d + 1 + (ahI 61 X).length)
                          have hjI : ¬ (j : Int) < (k : Int) + (u : Int) - 1 := by omega
                          clear hj hje
                          go_wp2
                          go_meet
                          case rel => exact ⟨rfl, j, rfl, by omega, by omega, E⟩
                    case rest =>
                      obtain ⟨hw2, j, rfl, hkj, hjn, hj⟩ := hcut
                      obtain rfl := hw2.symm
                      by_cases hje : j < k + u - 1
                      · have hjI : ¬ (k : Int) + (u : Int) - 1 ≤ (j : Int) := by omega
                        obtain ⟨g1, g2, g3⟩ := ah_part 61 X (by rw [hXl'.out]; have := hj.out; omega)
                        have hK : ahI 61 X = (l.drop (k + d + 1)).take (j - (k + d + 1)) := by
                          rw [g2, hX'.out, List.take_take, ← hX'.out]; congr 1; have := hj.out; omega
                        have hV : beI 61 X = (l.drop (j + 1)).take (k + u - 1 - (j + 1)) := by
                          rw [g3, hX'.out, List.drop_take, List.drop_drop, ← hX'.out]; have := hj.out; congr 1; omega; congr 1; omega
                        have m1 := hBc.mid (k + d + 1) (j - (k + d + 1)) (by omega) (by omega)
                        have m2 := hBc.mid (j + 1) (k + u - 1 - (j + 1)) (by omega) (by omega)
                        rw [← hK] at m1
                        rw [← hV] at m2
                        have hcK := fun W (hW : Below wc.heap.size wc W) => bys_string (P := Tryd.prog) Tryd.underlying22 Tryd.underlying5 Tryd.underlying9 (m1.below hW)
                        have hcV := fun W (hW : Below wc.heap.size wc W) => bys_string (P := Tryd.prog) Tryd.underlying22 Tryd.underlying5 Tryd.underlying9 (m2.below hW)
                        have cK0 := hcK _ (Below.refl _ wc).drew
                        have cV0 := hcV _ (Below.refl _ wc).drew
                        have hbn := ((Below.refl wc.heap.size wc).alloc (Nat.le_refl _) (.cells #[.string ⟨#[]⟩, .string ⟨#[]⟩] 37)).drew
                        have cK1 := hcK _ hbn
                        have cV1 := hcV _ hbn
                        clear hcK hcV
                        have z1 : (strOfNums (ahI 61 X)).size ≤ 1000000 := by rw [strN_size]; have := ahI_len 61 X; have := hXl'.out; omega
                        have z2 : (strOfNums (beI 61 X)).size ≤ 1000000 := by rw [strN_size]; have := beI_len 61 X; have := hXl'.out; omega
                        have hri := fun W => rr_ok (strOfNums (ahI 61 X)) (strOfNums (beI 61 X)) z1 z2 W
                        rw [bs_str, bs_str] at hri
                        cases hRt : rightP (bytesOf (ahI 61 X)) (bytesOf (beI 61 X))
                        · have E := hid (by rw [hrl.out, hst.out, s5.out, g1, hRt]; rfl : q = none)
                          rw [hRt] at hri
                          clear hrl hst hne s5 hj hRt g1 z1 z2
                          generalize strOfNums (ahI 61 X) = K at *
                          generalize strOfNums (beI 61 X) = V at *
                          clear m1 m2 hX' hXl' hBc
                          go_wp2
                          go_region
                          all_goals
                            have hb1 := (hb.alloc hBsz (.cells #[.string K, .string V] 37)).drew
                            go_wp2_with (go_at_call 16; refine (hri _).mono ?_; rintro e w3 ⟨rfl, hb3⟩; have hfin := hb1.trans (hb3.mono hb1.size))
                            all_goals go_ret2
                            all_goals exact ⟨none, 0, 0, by rw [E.out]; rfl, by rw [E.out]; exact ⟨rfl, Nat.le_refl _, by omega, .inl ⟨rfl, rfl⟩⟩, hfin⟩
                        · have E := hid (by rw [hrl.out, hst.out, s5.out, g1, hRt]; simp only [Bool.and_self, if_true]; rw [List.drop_drop] : q = prsF ((l.drop (k + u)).length + 1) (l.drop (k + u)) (acc ++ [(strOfNums (ahI 61 X), strOfNums (beI 61 X))]))
                          rw [hRt] at hri
                          clear hrl hst hne s5 hj hRt g1 z1 z2
                          generalize strOfNums (ahI 61 X) = K at *
                          generalize strOfNums (beI 61 X) = V at *
                          clear m1 m2 hX' hXl' hBc
                          go_wp2
                          go_region
                          all_goals
                            have hb1 := (hb.alloc hBsz (.cells #[.string K, .string V] 37)).drew
                            have hb1n := ((Below.refl wc.heap.size wc).alloc (Nat.le_refl _) (.cells #[.string K, .string V] 37)).drew
                            obtain ⟨e0, e1⟩ := new_two wc (.string K) (.string V) 37
                            go_wp2_with (first
                              | (go_at_call 16; refine (hri _).mono ?_; rintro e w3 ⟨rfl, hb3⟩; have hfin := hb1.trans (hb3.mono hb1.size); have f0 := cell_later (w := (wc.alloc (.cells #[.string K, .string V] 37)).drew) hb3 e0; have f1 := cell_later (w := (wc.alloc (.cells #[.string K, .string V] 37)).drew) hb3 e1; have how := own_below hb3 (own_below hb1n hown))
                              | (at_builtin; refine wpList_append_own (P := Tryd.prog) _ rfl (.tmp 104) (.tmp 106) 24 rfl w.heap.size 37 i0 (.agg #[.string ⟨#[]⟩, .string ⟨#[]⟩]) 2 32 Tryd.underlying24 hi hz0 hz1 hz2 rfl (by decide) _ _ _ rfl (how.alloc _) ⟨w3.heap.size, 0, none⟩ 1 1 [.string K, .string V] rfl rfl (pair_new w3 K V) (by intro z hz; simp at hz; rcases hz with rfl | rfl <;> rfl) (by unfold maxLen; omega) (by omega) (by have := hfin.size; simp at this ⊢; omega) ?_; intro v' w4 hown' hgrow' _))
                            go_roundw
                            case rel =>
                              refine ⟨_, k + u, acc ++ [(K, V)], rfl, by go_num, by omega, by rw [List.length_append, List.length_cons, List.length_nil]; omega, ?_, ?_, E⟩
                              · rw [pcs2_app, List.length_append]; exact hown'
                              · exact (hfin.alloc hfin.size _).grown hgrow' (by have := hfin.size; simp at this ⊢; omega) (fun g hg => (how.lt g hg).1)
                            case measure => simp [RowKit.intOf]; omega
                      · have hjI : (k : Int) + (u : Int) - 1 ≤ (j : Int) := by omega
                        have hin := ah_full 61 X (by rw [hXl'.out]; have := hj.out; omega)
                        have E := hid (by rw [hrl.out, hst.out, s5.out, hin]; rfl : q = none)
                        clear hrl hst hne s5 hin hj
                        go_wp2
                        all_goals go_ret2
                        all_goals exact ⟨none, 0, 0, by rw [E.out]; rfl, by rw [E.out]; exact ⟨rfl, Nat.le_refl _, by omega, .inl ⟨rfl, rfl⟩⟩, hb⟩
                  · have E := hid (by rw [hrl.out, hst.out, s2 h2 h10] : q = none)
                    have h10' : (ch != 10) = true := by simpa using h10
                    clear s2 s3 hrl hst hne
                    go_wp2_with (go_at_call 20; refine (hnum _).mono ?_; rintro e w1 ⟨rfl, hw1⟩; obtain rfl := hw1.symm)
                    all_goals go_ret2
                    all_goals exact ⟨none, 0, 0, by rw [E.out]; rfl, by rw [E.out]; exact ⟨rfl, Nat.le_refl _, by omega, .inl ⟨rfl, rfl⟩⟩, hb⟩
                · have h2I : (k : Int) + (u : Int) < (k : Int) + (d : Int) + 2 := by omega
                  have E := hid (by rw [hrl.out, hst.out, s1 (by omega)] : q = none)
                  generalize strOfNums A = SA at *
                  clear hmid hmA hA hdA hN hN2 hb9 hd hgd s1 s2 s3 hrl hst hne
                  go_wp2_with (go_at_call 20; refine (hnum _).mono ?_; rintro e w1 ⟨rfl, hw1⟩; obtain rfl := hw1.symm)
                  all_goals go_ret2
                  all_goals exact ⟨none, 0, 0, by rw [E.out]; rfl, by rw [E.out]; exact ⟨rfl, Nat.le_refl _, by omega, .inl ⟨rfl, rfl⟩⟩, hb⟩
              · have huI : (n : Int) < (k : Int) + (u : Int) := by omega
                have E := hid (by rw [hrl.out, hst.out, frst_over hN2 (by rw [hrlen]; omega)] : q = none)
                generalize strOfNums A = SA at *
                clear hmid hmA hA hdA hN hN2 hb9 hd hrl hst hne
                go_wp2_with (go_at_call 20; refine (hnum _).mono ?_; rintro e w1 ⟨rfl, hw1⟩; obtain rfl := hw1.symm)
                all_goals go_ret2
                all_goals exact ⟨none, 0, 0, by rw [E.out]; rfl, by rw [E.out]; exact ⟨rfl, Nat.le_refl _, by omega, .inl ⟨rfl, rfl⟩⟩, hb⟩
      · obtain rfl : k = n := by omega
        have hd0 : l.drop k = [] := List.drop_eq_nil_iff.mpr (by rw [hl'.out]; exact Nat.le_refl _)
        have E := hid (by rw [hrl.out, hd0, prs_end] : q = some acc)
        obtain ⟨aa, cc, rfl, hpy⟩ := own_pys hown rfl
        have hkI : ¬ (k : Int) < (k : Int) := by omega
        clear hrl hd0
        go_wp2
        all_goals go_ret2
        all_goals exact ⟨aa, _, cc, by rw [E.out]; rfl, by rw [E.out]; exact hpy, hb⟩

end Go.Proofs.YtkocnbdakfhpaaaDoor
