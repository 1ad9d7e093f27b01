/-
  The document's own reading of times: what it answers.
  Conditions: strings of at most 2^48 bytes.
-/
import Derived.Test.YthnaanjhmehgcaaGreatDoorN35
namespace Go.Proofs.YthnaanjhmehgcaaGreatDoor
open Go.ChangeShapes Go.WideShapes Go.ChangeAt Go.RowKit Go.Lib Go.Sort

set_option maxHeartbeats 16000000 in
set_option maxRecDepth 20000 in
theorem rtime_m (s : ByteArray) (hs : s.size ≤ 281474976710656) (hm : (bs s).head? = some 45) (w : World) (a b : Int) (ok : Bool)
    (hres : Hid (resOf true (valueOf ((bs s).tail)) = some (a, b) ∧ ok = true ∨ resOf true (valueOf ((bs s).tail)) = none ∧ a = 0 ∧ b = 0 ∧ ok = false)) :
    Calls Tryz.prog 130 #[.string s] w fun e w' => e = .returned (.tuple #[.agg #[.int .i64 a, .int .i64 b], .bool ok]) ∧ Below w.heap.size w w' := by
  have hp : 0 < s.size := size_pos (by intro e; rw [e] at hm; cases hm)
  have hc0 : ((s[0]'hp).toNat : Int) = 45 := by
    rw [bs_head s hp] at hm
    injection hm with hm
    rw [hm]; rfl
  obtain ⟨T, hT⟩ : ∃ T, s.extract 1 s.size = T := ⟨_, rfl⟩
  have hbt : bs T = (bs s).tail := by rw [← hT, ext_from, bs_txt, List.drop_one]
  have hTs : T.size ≤ 281474976710656 := by rw [← bs_len, hbt, List.length_tail, bs_len]; omega
  rw [← hbt] at hres
  have hp' : (0 : Int) < s.size := by omega
  have hp1 : (1 : Int) ≤ s.size := by omega
  clear hm hbt
  obtain ⟨A, hA⟩ : ∃ A, txt (ahead (bs T)) = A := ⟨_, rfl⟩
  have hAb : Hid (bs A = ahead (bs T)) := hid (by rw [← hA, bs_txt])
  have hAs : A.size ≤ 281474976710656 := by rw [← hA]; exact Nat.le_trans (size_ahead T) hTs
  have hpt : Hid (pointed (bs T) = decide ((ahead (bs T)).length < T.size)) := hid (by rw [pointed_iff, bs_len])
  have hlen : Hid ((ahead (bs T)).length ≤ T.size) := hid (by rw [← bs_len]; exact ahead_len _)
  have hA' := hid hA
  clear hA
  cases hn0 : nat63 (bs A) with
  | none =>
    have hbel := fun w => below_ok A hAs w 0 false (Or.inr ⟨hn0, rfl, rfl⟩)
    have hn := hid hn0
    clear hn0
    go_enter Tryz.func130, Tryz.ntmps130
    go_wp2
    go_loop [5, 6] (fun p i => ∃ (x : Int) (q : Nat), -1 ≤ x ∧ x < T.size ∧ i = .int .i64 x ∧ p = .int .i64 q ∧ q ≤ T.size ∧ Hid (q = (x + 1).toNat + (ahead ((bs T).drop (x + 1).toNat)).length)) (fun _ i => (RowKit.intOf i + 1).toNat)
    case atStart => exact ⟨(T.size : Int) - 1, T.size, by omega, by omega, by go_num, rfl, Nat.le_refl _, hid (by rw [show ((T.size : Int) - 1 + 1).toNat = T.size by omega, bs_drop_end T T.size (by omega)]; rfl)⟩
    case round =>
      obtain ⟨x, q, hx0, hx1, rfl, rfl, hq, hR⟩ := hrel
      by_cases h0 : 0 ≤ x
      · obtain ⟨j, rfl⟩ : ∃ j : Nat, x = j := ⟨x.toNat, by omega⟩
        have hjl : j < T.size := by omega
        obtain ⟨c, hc⟩ : ∃ c : Int, c = ((T[j]'hjl).toNat : Int) := ⟨_, rfl⟩
        have hdr := bs_drop T j hjl
        rw [show ((j : Int) + 1).toNat = j + 1 by omega] at hR
        have hji : (j : Int) < T.size := by omega
        have hc' := hid hc
        replace hc := hc.symm
        by_cases h46 : c = 46
        · have hN : Hid (j = ((j : Int) - 1 + 1).toNat + (ahead ((bs T).drop ((j : Int) - 1 + 1).toNat)).length) := hid (by
            rw [show ((j : Int) - 1 + 1).toNat = j by omega, hdr, ahead_hit (UInt8.toNat_inj.1 (by rw [show ((46 : UInt8).toNat) = 46 from rfl]; have := hc'.out; omega))]; rfl)
          clear hdr hR hc'
          go_wp2
          go_round
          case rel => exact ⟨(j : Int) - 1, j, by omega, by omega, by go_num, rfl, by omega, hN⟩
          case measure => simp [RowKit.intOf]; try omega
        · have hN : Hid (q = ((j : Int) - 1 + 1).toNat + (ahead ((bs T).drop ((j : Int) - 1 + 1).toNat)).length) := hid (by
            rw [show ((j : Int) - 1 + 1).toNat = j by omega, hdr, ahead_miss (fun e => h46 (by have := hc'.out; rw [e] at this; exact this)), List.length_cons]; have := hR.out; omega)
          clear hdr hR hc'
          go_wp2
          go_round
          case rel => exact ⟨(j : Int) - 1, q, by omega, by omega, by go_num, rfl, hq, hN⟩
          case measure => simp [RowKit.intOf]; try omega
      · obtain rfl : x = -1 := by omega
        have E : Hid (q = (ahead (bs T)).length) := hid (by have := hR.out; simpa using this)
        clear hR h0 hx0 hx1
        have hx : T.extract 0 q = A := by rw [ext_upto, E.out, ahead_take]; exact hA'.out
        have hq0 : (0 : Int) ≤ q := by omega
        have hq1 : (q : Int) ≤ T.size := by omega
        by_cases hpq : q < T.size
        · have hPT : Hid (pointed (bs T) = true) := hid (by rw [hpt.out, ← E.out, decide_eq_true hpq])
          obtain ⟨M, hM⟩ : ∃ M, T.extract (q + 1) T.size = M := ⟨_, rfl⟩
          have hMb : Hid (bs M = behind (bs T)) := hid (by rw [← hM, ext_from, bs_txt, behind_drop, E.out])
          have hMs : M.size ≤ 281474976710656 := by rw [← bs_len, hMb.out, behind_drop, List.length_drop, bs_len]; omega
          have hqi : (q : Int) < T.size := by omega
          have hqi1 : (q : Int) + 1 ≤ T.size := by omega
          have hqi2 : (0 : Int) ≤ (q : Int) + 1 := by omega
          have hon := fun w => only_ok M hMs w
          by_cases hon1 : onlyOf (bs M) = true
          · have hd := hon1
            unfold onlyOf at hd
            rw [Bool.and_eq_true, decide_eq_true_eq] at hd
            obtain ⟨hd, hne⟩ := hd
            have hMp := size_pos hne
            rw [hon1] at hon
            by_cases h9 : M.size ≤ 9
            · have h9i : ¬ (9 : Int) < M.size := by omega
              have hB : Hid (billion (behind (bs T)) = some (pz (bs M) 9)) := hid (by rw [← hMb.out]; exact pz_nine _ hd (by rw [bs_len]; omega) (by rw [bs_len]; exact h9))
              have HD := hid hd
              have hV : Hid (valueOf (bs T) = none) := hid (by unfold valueOf; rw [← hAb.out, hn.out, hPT.out, hB.out]; try rfl)
              have hpl : Hid (pz (bs M) 9 < 1000000000) := hid (pz_lt _ hd 9)
              clear hd hne hon1 hB hPT
              go_wp2_with (first | (go_at_call 159; refine (hbel _).mono ?_; rintro e w' ⟨rfl, hw⟩; obtain rfl := hw.symm) | (go_at_call 160; refine (hon _).mono ?_; rintro e w' ⟨rfl, hw⟩; obtain rfl := hw.symm))
              go_loop [9, 11] (fun n i => ∃ (j : Nat) (v : Int), j ≤ 9 ∧ i = .int .i64 j ∧ n = .int .i64 v ∧ 0 ≤ v ∧ v ≤ 1000000000 ∧ Hid (v = (pz (bs M) j : Nat))) (fun _ i => 9 - (RowKit.intOf i).toNat)
              case atStart => exact ⟨0, 0, by omega, rfl, rfl, by omega, by omega, hid (by rw [pz_zero]; rfl)⟩
              case round =>
                obtain ⟨j, v, hj, rfl, rfl, hv0, hv1, hPZ⟩ := hrel
                by_cases hj9 : j < 9
                · have hji : (j : Int) < 9 := by omega
                  have m1 : IntKind.i64.wrap (10 * v) = 10 * v := by rw [IntKind.wrap_i64]; omega
                  by_cases hjl : j < M.size
                  · obtain ⟨c, hc⟩ : ∃ c : Int, c = ((M[j]'hjl).toNat : Int) := ⟨_, rfl⟩
                    have hcr := allD_at HD.out j hjl
                    have hc48 : 48 ≤ c := by omega
                    have hc57 : c ≤ 57 := by omega
                    have hN : Hid (10 * v + c - 48 = (pz (bs M) (j + 1) : Nat)) := hid (by rw [pz_in M j hjl]; have := hPZ.out; omega)
                    have hNl : 10 * v + c - 48 ≤ 1000000000 := by rw [hN.out]; have := pz_le _ HD.out (j + 1) (by omega); omega
                    have m2 : IntKind.i64.wrap (10 * v + c) = 10 * v + c := by rw [IntKind.wrap_i64]; omega
                    have m3 : IntKind.i64.wrap (10 * v + c - 48) = 10 * v + c - 48 := by rw [IntKind.wrap_i64]; omega
                    have hjm : (j : Int) < M.size := by omega
                    replace hc := hc.symm
                    clear hcr hPZ
                    go_wp2
                    go_round
                    case rel => exact ⟨j + 1, 10 * v + c - 48, by omega, by go_num, by go_num, by omega, hNl, hN⟩
                    case measure => simp [RowKit.intOf]; omega
                  · have hN : Hid (10 * v = (pz (bs M) (j + 1) : Nat)) := hid (by rw [pz_out M j hjl]; have := hPZ.out; omega)
                    have hNl : 10 * v ≤ 1000000000 := by rw [hN.out]; have := pz_le _ HD.out (j + 1) (by omega); omega
                    have hjm : ¬ (j : Int) < M.size := by omega
                    clear hPZ
                    go_wp2
                    go_round
                    case rel => exact ⟨j + 1, 10 * v, by omega, by go_num, by go_num, by omega, hNl, hN⟩
                    case measure => simp [RowKit.intOf]; omega
                · obtain rfl : j = 9 := by omega
                  have hvl : v < 1000000000 := by have h1 := hPZ.out; have h2 := hpl.out; omega
                  generalize hpp : pz (bs M) 9 = p at *
                  have hPi := hPZ.out
                  clear hPZ hpp hj9
                  have hR := hres.out
                  rw [hV.out] at hR
                  obtain ⟨hR, _⟩ | ⟨_, rfl, rfl, rfl⟩ := hR
                  · cases hR
                  clear hV
                  go_wp2
                  refine bodyPost_ret (v := .tuple #[.agg #[.int .i64 0, .int .i64 0], .bool false]) ?_ rfl ⟨rfl, below_alloc _ _⟩
                  simp [results, Tryz.results130, go_sem]
            · have h9i : (9 : Int) < M.size := by omega
              have hV : Hid (valueOf (bs T) = none) := hid (by unfold valueOf; rw [← hAb.out, hn.out, hPT.out, show billion (behind (bs T)) = none by rw [← hMb.out]; unfold billion; rw [if_neg]; intro h; have := h.2.2; rw [bs_len] at this; omega]; try rfl)
              have hR := hres.out
              rw [hV.out] at hR
              obtain ⟨hR, _⟩ | ⟨_, rfl, rfl, rfl⟩ := hR
              · cases hR
              clear hV
              go_wp2_with (first | (go_at_call 159; refine (hbel _).mono ?_; rintro e w' ⟨rfl, hw⟩; obtain rfl := hw.symm) | (go_at_call 160; refine (hon _).mono ?_; rintro e w' ⟨rfl, hw⟩; obtain rfl := hw.symm))
              refine bodyPost_ret (v := .tuple #[.agg #[.int .i64 0, .int .i64 0], .bool false]) ?_ rfl ⟨rfl, below_alloc _ _⟩
              simp [results, Tryz.results130, go_sem]
          · have hV : Hid (valueOf (bs T) = none) := hid (by unfold valueOf; rw [← hAb.out, hn.out, hPT.out, show billion (behind (bs T)) = none by rw [← hMb.out]; unfold billion; rw [if_neg]; intro h; apply hon1; unfold onlyOf; rw [h.1, Bool.true_and, decide_eq_true_eq]; intro e; have := h.2.1; rw [e] at this; simp at this]; try rfl)
            rw [Bool.not_eq_true] at hon1
            rw [hon1] at hon
            have hR := hres.out
            rw [hV.out] at hR
            obtain ⟨hR, _⟩ | ⟨_, rfl, rfl, rfl⟩ := hR
            · cases hR
            clear hV
            go_wp2_with (first | (go_at_call 159; refine (hbel _).mono ?_; rintro e w' ⟨rfl, hw⟩; obtain rfl := hw.symm) | (go_at_call 160; refine (hon _).mono ?_; rintro e w' ⟨rfl, hw⟩; obtain rfl := hw.symm))
            refine bodyPost_ret (v := .tuple #[.agg #[.int .i64 0, .int .i64 0], .bool false]) ?_ rfl ⟨rfl, below_alloc _ _⟩
            simp [results, Tryz.results130, go_sem]
        · obtain rfl : q = T.size := by omega
          have hPT : Hid (pointed (bs T) = false) := hid (by rw [hpt.out, ← E.out]; simp)
          have hV : Hid (valueOf (bs T) = none) := hid (by unfold valueOf; rw [← hAb.out, hn.out, hPT.out]; try rfl)
          clear hPT hpq
          have hR := hres.out
          rw [hV.out] at hR
          obtain ⟨hR, _⟩ | ⟨_, rfl, rfl, rfl⟩ := hR
          · cases hR
          clear hV
          go_wp2_with (first | (go_at_call 159; refine (hbel _).mono ?_; rintro e w' ⟨rfl, hw⟩; obtain rfl := hw.symm))
          refine bodyPost_ret (v := .tuple #[.agg #[.int .i64 0, .int .i64 0], .bool false]) ?_ rfl ⟨rfl, below_alloc _ _⟩
          simp [results, Tryz.results130, go_sem]
  | some u =>
    have hbel := fun w => below_ok A hAs w (-(u : Int)) true (Or.inl ⟨u, hn0, rfl, rfl⟩)
    have hu63 := (nat63_some hn0).2.2.2.2
    have hn := hid hn0
    clear hn0
    go_enter Tryz.func130, Tryz.ntmps130
    go_wp2
    go_loop [5, 6] (fun p i => ∃ (x : Int) (q : Nat), -1 ≤ x ∧ x < T.size ∧ i = .int .i64 x ∧ p = .int .i64 q ∧ q ≤ T.size ∧ Hid (q = (x + 1).toNat + (ahead ((bs T).drop (x + 1).toNat)).length)) (fun _ i => (RowKit.intOf i + 1).toNat)
    case atStart => exact ⟨(T.size : Int) - 1, T.size, by omega, by omega, by go_num, rfl, Nat.le_refl _, hid (by rw [show ((T.size : Int) - 1 + 1).toNat = T.size by omega, bs_drop_end T T.size (by omega)]; rfl)⟩
    case round =>
      obtain ⟨x, q, hx0, hx1, rfl, rfl, hq, hR⟩ := hrel
      by_cases h0 : 0 ≤ x
      · obtain ⟨j, rfl⟩ : ∃ j : Nat, x = j := ⟨x.toNat, by omega⟩
        have hjl : j < T.size := by omega
        obtain ⟨c, hc⟩ : ∃ c : Int, c = ((T[j]'hjl).toNat : Int) := ⟨_, rfl⟩
        have hdr := bs_drop T j hjl
        rw [show ((j : Int) + 1).toNat = j + 1 by omega] at hR
        have hji : (j : Int) < T.size := by omega
        have hc' := hid hc
        replace hc := hc.symm
        by_cases h46 : c = 46
        · have hN : Hid (j = ((j : Int) - 1 + 1).toNat + (ahead ((bs T).drop ((j : Int) - 1 + 1).toNat)).length) := hid (by
            rw [show ((j : Int) - 1 + 1).toNat = j by omega, hdr, ahead_hit (UInt8.toNat_inj.1 (by rw [show ((46 : UInt8).toNat) = 46 from rfl]; have := hc'.out; omega))]; rfl)
          clear hdr hR hc'
          go_wp2
          go_round
          case rel => exact ⟨(j : Int) - 1, j, by omega, by omega, by go_num, rfl, by omega, hN⟩
          case measure => simp [RowKit.intOf]; try omega
        · have hN : Hid (q = ((j : Int) - 1 + 1).toNat + (ahead ((bs T).drop ((j : Int) - 1 + 1).toNat)).length) := hid (by
            rw [show ((j : Int) - 1 + 1).toNat = j by omega, hdr, ahead_miss (fun e => h46 (by have := hc'.out; rw [e] at this; exact this)), List.length_cons]; have := hR.out; omega)
          clear hdr hR hc'
          go_wp2
          go_round
          case rel => exact ⟨(j : Int) - 1, q, by omega, by omega, by go_num, rfl, hq, hN⟩
          case measure => simp [RowKit.intOf]; try omega
      · obtain rfl : x = -1 := by omega
        have E : Hid (q = (ahead (bs T)).length) := hid (by have := hR.out; simpa using this)
        clear hR h0 hx0 hx1
        have hx : T.extract 0 q = A := by rw [ext_upto, E.out, ahead_take]; exact hA'.out
        have hq0 : (0 : Int) ≤ q := by omega
        have hq1 : (q : Int) ≤ T.size := by omega
        by_cases hpq : q < T.size
        · have hPT : Hid (pointed (bs T) = true) := hid (by rw [hpt.out, ← E.out, decide_eq_true hpq])
          obtain ⟨M, hM⟩ : ∃ M, T.extract (q + 1) T.size = M := ⟨_, rfl⟩
          have hMb : Hid (bs M = behind (bs T)) := hid (by rw [← hM, ext_from, bs_txt, behind_drop, E.out])
          have hMs : M.size ≤ 281474976710656 := by rw [← bs_len, hMb.out, behind_drop, List.length_drop, bs_len]; omega
          have hqi : (q : Int) < T.size := by omega
          have hqi1 : (q : Int) + 1 ≤ T.size := by omega
          have hqi2 : (0 : Int) ≤ (q : Int) + 1 := by omega
          have hon := fun w => only_ok M hMs w
          by_cases hon1 : onlyOf (bs M) = true
          · have hd := hon1
            unfold onlyOf at hd
            rw [Bool.and_eq_true, decide_eq_true_eq] at hd
            obtain ⟨hd, hne⟩ := hd
            have hMp := size_pos hne
            rw [hon1] at hon
            by_cases h9 : M.size ≤ 9
            · have h9i : ¬ (9 : Int) < M.size := by omega
              have hB : Hid (billion (behind (bs T)) = some (pz (bs M) 9)) := hid (by rw [← hMb.out]; exact pz_nine _ hd (by rw [bs_len]; omega) (by rw [bs_len]; exact h9))
              have HD := hid hd
              have hV : Hid (valueOf (bs T) = some (u, pz (bs M) 9)) := hid (by unfold valueOf; rw [← hAb.out, hn.out, hPT.out, hB.out]; try rfl)
              have hpl : Hid (pz (bs M) 9 < 1000000000) := hid (pz_lt _ hd 9)
              clear hd hne hon1 hB hPT
              go_wp2_with (first | (go_at_call 159; refine (hbel _).mono ?_; rintro e w' ⟨rfl, hw⟩; obtain rfl := hw.symm) | (go_at_call 160; refine (hon _).mono ?_; rintro e w' ⟨rfl, hw⟩; obtain rfl := hw.symm))
              go_loop [9, 11] (fun n i => ∃ (j : Nat) (v : Int), j ≤ 9 ∧ i = .int .i64 j ∧ n = .int .i64 v ∧ 0 ≤ v ∧ v ≤ 1000000000 ∧ Hid (v = (pz (bs M) j : Nat))) (fun _ i => 9 - (RowKit.intOf i).toNat)
              case atStart => exact ⟨0, 0, by omega, rfl, rfl, by omega, by omega, hid (by rw [pz_zero]; rfl)⟩
              case round =>
                obtain ⟨j, v, hj, rfl, rfl, hv0, hv1, hPZ⟩ := hrel
                by_cases hj9 : j < 9
                · have hji : (j : Int) < 9 := by omega
                  have m1 : IntKind.i64.wrap (10 * v) = 10 * v := by rw [IntKind.wrap_i64]; omega
                  by_cases hjl : j < M.size
                  · obtain ⟨c, hc⟩ : ∃ c : Int, c = ((M[j]'hjl).toNat : Int) := ⟨_, rfl⟩
                    have hcr := allD_at HD.out j hjl
                    have hc48 : 48 ≤ c := by omega
                    have hc57 : c ≤ 57 := by omega
                    have hN : Hid (10 * v + c - 48 = (pz (bs M) (j + 1) : Nat)) := hid (by rw [pz_in M j hjl]; have := hPZ.out; omega)
                    have hNl : 10 * v + c - 48 ≤ 1000000000 := by rw [hN.out]; have := pz_le _ HD.out (j + 1) (by omega); omega
                    have m2 : IntKind.i64.wrap (10 * v + c) = 10 * v + c := by rw [IntKind.wrap_i64]; omega
                    have m3 : IntKind.i64.wrap (10 * v + c - 48) = 10 * v + c - 48 := by rw [IntKind.wrap_i64]; omega
                    have hjm : (j : Int) < M.size := by omega
                    replace hc := hc.symm
                    clear hcr hPZ
                    go_wp2
                    go_round
                    case rel => exact ⟨j + 1, 10 * v + c - 48, by omega, by go_num, by go_num, by omega, hNl, hN⟩
                    case measure => simp [RowKit.intOf]; omega
                  · have hN : Hid (10 * v = (pz (bs M) (j + 1) : Nat)) := hid (by rw [pz_out M j hjl]; have := hPZ.out; omega)
                    have hNl : 10 * v ≤ 1000000000 := by rw [hN.out]; have := pz_le _ HD.out (j + 1) (by omega); omega
                    have hjm : ¬ (j : Int) < M.size := by omega
                    clear hPZ
                    go_wp2
                    go_round
                    case rel => exact ⟨j + 1, 10 * v, by omega, by go_num, by go_num, by omega, hNl, hN⟩
                    case measure => simp [RowKit.intOf]; omega
                · obtain rfl : j = 9 := by omega
                  have hvl : v < 1000000000 := by have h1 := hPZ.out; have h2 := hpl.out; omega
                  generalize hpp : pz (bs M) 9 = p at *
                  have hPi := hPZ.out
                  clear hPZ hpp hj9
                  have hR := hres.out
                  rw [hV.out] at hR
                  unfold resOf at hR
                  simp only [if_true] at hR
                  unfold underOf at hR
                  by_cases hp0 : 0 < p
                  · rw [if_pos hp0] at hR
                    have hv0' : 0 < v := by omega
                    by_cases hbig : 9223372036854775808 < u + 1
                    · rw [if_pos hbig] at hR
                      obtain ⟨hR, _⟩ | ⟨_, rfl, rfl, rfl⟩ := hR
                      · cases hR
                      have hub : -(u : Int) = -9223372036854775808 := by omega
                      clear hV hbig hp0 hPi
                      go_wp2
                      refine bodyPost_ret (v := .tuple #[.agg #[.int .i64 0, .int .i64 0], .bool false]) ?_ rfl ⟨rfl, below_alloc _ _⟩
                      simp [results, Tryz.results130, go_sem]
                    · rw [if_neg hbig] at hR
                      obtain ⟨hR, rfl⟩ | ⟨hR, _⟩ := hR
                      · simp only [Option.some.injEq, Prod.mk.injEq] at hR
                        obtain ⟨ha, hb⟩ := hR
                        obtain rfl : a = -(u : Int) - 1 := by omega
                        obtain rfl : b = 1000000000 - v := by omega
                        have hub : ¬ -(u : Int) = -9223372036854775808 := by omega
                        have hw1 : IntKind.i64.wrap (-(u : Int) - 1) = -(u : Int) - 1 := by rw [IntKind.wrap_i64]; omega
                        have hw2 : IntKind.i64.wrap (1000000000 - v) = 1000000000 - v := by rw [IntKind.wrap_i64]; omega
                        have hvn : ¬ v = 0 := by omega
                        clear hV hbig ha hb hp0 hPi
                        go_wp2
                        refine bodyPost_ret (v := .tuple #[.agg #[.int .i64 (-(u : Int) - 1), .int .i64 (1000000000 - v)], .bool true]) ?_ rfl ⟨rfl, below_alloc _ _⟩
                        simp [results, Tryz.results130, go_sem]
                      · cases hR
                  · rw [if_neg hp0, if_neg (by omega)] at hR
                    obtain ⟨hR, rfl⟩ | ⟨hR, _⟩ := hR
                    · simp only [Option.some.injEq, Prod.mk.injEq] at hR
                      obtain ⟨ha, hb⟩ := hR
                      obtain rfl : a = -(u : Int) := by omega
                      obtain rfl : b = 0 := by omega
                      obtain rfl : v = 0 := by omega
                      clear hV hp0 ha hb hPi
                      by_cases hub : -(u : Int) = -9223372036854775808
                      · have HUB := hid hub
                        rw [hub]
                        clear hub hres
                        go_wp2
                        refine bodyPost_ret (v := .tuple #[.agg #[.int .i64 (-9223372036854775808), .int .i64 0], .bool true]) ?_ rfl ⟨by rw [HUB.out]; try rfl, below_alloc _ _⟩
                        simp [results, Tryz.results130, go_sem]
                      ·
                        go_wp2
                        refine bodyPost_ret (v := .tuple #[.agg #[.int .i64 (-(u : Int)), .int .i64 0], .bool true]) ?_ rfl ⟨rfl, below_alloc _ _⟩
                        simp [results, Tryz.results130, go_sem]
                    · cases hR
            · have h9i : (9 : Int) < M.size := by omega
              have hV : Hid (valueOf (bs T) = none) := hid (by unfold valueOf; rw [← hAb.out, hn.out, hPT.out, show billion (behind (bs T)) = none by rw [← hMb.out]; unfold billion; rw [if_neg]; intro h; have := h.2.2; rw [bs_len] at this; omega]; try rfl)
              have hR := hres.out
              rw [hV.out] at hR
              obtain ⟨hR, _⟩ | ⟨_, rfl, rfl, rfl⟩ := hR
              · cases hR
              clear hV
              go_wp2_with (first | (go_at_call 159; refine (hbel _).mono ?_; rintro e w' ⟨rfl, hw⟩; obtain rfl := hw.symm) | (go_at_call 160; refine (hon _).mono ?_; rintro e w' ⟨rfl, hw⟩; obtain rfl := hw.symm))
              refine bodyPost_ret (v := .tuple #[.agg #[.int .i64 0, .int .i64 0], .bool false]) ?_ rfl ⟨rfl, below_alloc _ _⟩
              simp [results, Tryz.results130, go_sem]
          · have hV : Hid (valueOf (bs T) = none) := hid (by unfold valueOf; rw [← hAb.out, hn.out, hPT.out, show billion (behind (bs T)) = none by rw [← hMb.out]; unfold billion; rw [if_neg]; intro h; apply hon1; unfold onlyOf; rw [h.1, Bool.true_and, decide_eq_true_eq]; intro e; have := h.2.1; rw [e] at this; simp at this]; try rfl)
            rw [Bool.not_eq_true] at hon1
            rw [hon1] at hon
            have hR := hres.out
            rw [hV.out] at hR
            obtain ⟨hR, _⟩ | ⟨_, rfl, rfl, rfl⟩ := hR
            · cases hR
            clear hV
            go_wp2_with (first | (go_at_call 159; refine (hbel _).mono ?_; rintro e w' ⟨rfl, hw⟩; obtain rfl := hw.symm) | (go_at_call 160; refine (hon _).mono ?_; rintro e w' ⟨rfl, hw⟩; obtain rfl := hw.symm))
            refine bodyPost_ret (v := .tuple #[.agg #[.int .i64 0, .int .i64 0], .bool false]) ?_ rfl ⟨rfl, below_alloc _ _⟩
            simp [results, Tryz.results130, go_sem]
        · obtain rfl : q = T.size := by omega
          have hPT : Hid (pointed (bs T) = false) := hid (by rw [hpt.out, ← E.out]; simp)
          have hV : Hid (valueOf (bs T) = some (u, 0)) := hid (by unfold valueOf; rw [← hAb.out, hn.out, hPT.out]; try rfl)
          clear hPT hpq
          have hR := hres.out
          rw [hV.out] at hR
          unfold resOf at hR
          simp only [if_true] at hR
          unfold underOf at hR
          rw [if_neg (by omega), if_neg (by omega)] at hR
          obtain ⟨hR, rfl⟩ | ⟨hR, _⟩ := hR
          · simp only [Option.some.injEq, Prod.mk.injEq] at hR
            obtain ⟨rfl, rfl⟩ := hR
            clear hV
            by_cases hub : -(u : Int) = -9223372036854775808
            · have HUB := hid hub
              simp only [hub] at hbel ⊢
              clear hub hres
              go_wp2_with (first | (go_at_call 159; refine (hbel _).mono ?_; rintro e w' ⟨rfl, hw⟩; obtain rfl := hw.symm))
              refine bodyPost_ret (v := .tuple #[.agg #[.int .i64 (-9223372036854775808), .int .i64 0], .bool true]) ?_ rfl ⟨by rw [HUB.out]; try rfl, below_alloc _ _⟩
              simp [results, Tryz.results130, go_sem]
            ·
              go_wp2_with (first | (go_at_call 159; refine (hbel _).mono ?_; rintro e w' ⟨rfl, hw⟩; obtain rfl := hw.symm))
              refine bodyPost_ret (v := .tuple #[.agg #[.int .i64 (-(u : Int)), .int .i64 0], .bool true]) ?_ rfl ⟨rfl, below_alloc _ _⟩
              simp [results, Tryz.results130, go_sem]
          · cases hR
end Go.Proofs.YthnaanjhmehgcaaGreatDoor
