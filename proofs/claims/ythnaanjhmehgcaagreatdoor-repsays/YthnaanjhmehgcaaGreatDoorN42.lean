/-
  THE DOCUMENT's WORD ON PAIRS: whether a pair is right; AND WHAT FOLLOWS OF IT. Conditions: those that each part names.
-/
import Derived.Test.YthnaanjhmehgcaaGreatDoorN21
import Derived.Test.YthnaanjhmehgcaaGreatDoorN25
import Derived.Test.YthnaanjhmehgcaaGreatDoorN41
import Derived.Test.YthnaanjhmehgcaaGreatDoorN11
import Derived.Test.YthnaanjhmehgcaaGreatDoorN36
/-
  THE DOCUMENT's WORD ON PAIRS: whether a pair is right. Conditions: how many bytes its texts may have.
-/
namespace Go.Proofs.YthnaanjhmehgcaaGreatDoor
open Go.ChangeShapes Go.WideShapes Go.ChangeAt Go.RowKit Go.Lib
set_option linter.unusedVariables false
set_option maxRecDepth 20000

theorem time_res (l : List UInt8) : timeOf l = resOf (decide (l.head? = some 45)) (valueOf (if l.head? = some 45 then l.tail else l)) := by
  unfold timeOf resOf
  cases valueOf (if l.head? = some 45 then l.tail else l) with
  | none => rfl
  | some q => obtain ⟨u, p⟩ := q; simp only [decide_eq_true_eq]
theorem rtime_any (s : ByteArray) (hs : s.size ≤ 281474976710656) (w : World) (a b : Int) (ok : Bool)
    (h : timeOf (bs s) = some (a, b) ∧ ok = true ∨ timeOf (bs s) = none ∧ a = 0 ∧ b = 0 ∧ ok = false) :
    Calls Tryz.prog 130 #[.string s] w fun e w' => e = .returned (.tuple #[.agg #[.int .i64 a, .int .i64 b], .bool ok]) ∧ Below w.heap.size w w' := by
  rw [time_res] at h
  by_cases hm : (bs s).head? = some 45
  · rw [if_pos hm, decide_eq_true hm] at h
    exact rtime_m s hs hm w a b ok (hid h)
  · rw [if_neg hm, decide_eq_false hm] at h
    exact rtime_p s hs hm w a b ok (hid h)

/-- the document's test at the first calls: what makes it false -/
theorem right_false (k v : List UInt8) (h : k = [] ∨ ¬ firstL k < 0 ∨ ¬ firstL v < 0 ∨ has 0 k = true ∨ has 61 k = true) : rightP k v = false := by
  unfold rightP keyR
  rcases h with rfl | h | h | h | h
  · rfl
  · simp [h]
  · simp [h]
  · simp [h]
  · simp [h]
theorem right_rest (k v : List UInt8) (h1 : k ≠ []) (h2 : firstL k < 0) (h3 : firstL v < 0) (h4 : has 0 k = false) (h5 : has 61 k = false) : rightP k v = (decide (v = []) || holdK (kindK k) v) := by
  unfold rightP keyR
  simp [h1, h2, h3, h4, h5]

set_option maxHeartbeats 4000000 in
theorem rr_false (k v : ByteArray) (hk : k.size ≤ 1000000) (hv : v.size ≤ 1000000) (w : World) (h : bs k = [] ∨ ¬ firstL (bs k) < 0 ∨ ¬ firstL (bs v) < 0 ∨ has 0 (bs k) = true) :
    Calls Tryz.prog 105 #[.agg #[.string k, .string v]] w fun e w' => e = .returned (.bool false) ∧ Below w.heap.size w w' := by
  have hb0 := (Below.refl w.heap.size w).alloc (Nat.le_refl _) (.cells #[.string k, .string v] 50)
  have hf1 := rfirst_walk k hk
  have hf2 := rfirst_walk v hv
  have hcl := rclean_walk k hk
  rw [clean_has] at hcl
  have hz : k.toList.isEmpty = decide (bs k = []) := is_nil k
  change _ ∨ ¬ firstL k.data.toList < 0 ∨ ¬ firstL v.data.toList < 0 ∨ _ at h
  generalize firstL k.data.toList = f1 at *
  generalize firstL v.data.toList = f2 at *
  generalize has 0 (bs k) = h0 at *
  by_cases a1 : bs k = []
  · rw [decide_eq_true a1] at hz
    obtain rfl : k = ⟨#[]⟩ := by rw [← txt_bs k, a1]; rfl
    clear a1 h hz
    go_enter Tryz.func105, Tryz.ntmps105
    go_wp2
    all_goals go_ret
    all_goals exact ⟨rfl, hb0⟩
  rw [decide_eq_false a1] at hz
  by_cases a2 : f1 < 0
  · have a2' : ¬ 0 ≤ f1 := by omega
    by_cases a3 : f2 < 0
    · have a3' : ¬ 0 ≤ f2 := by omega
      obtain rfl : h0 = true := by
        rcases h with h | h | h | h
        · exact absurd h a1
        · exact absurd a2 h
        · exact absurd a3 h
        · exact h
      clear h a1 a2 a3
      go_enter Tryz.func105, Tryz.ntmps105
      go_wp2_with (first
        | (go_at_call 39; refine (hf1 _).mono ?_; rintro e w1 ⟨rfl, hb1⟩; obtain ⟨c0, c1⟩ := two_cells hb1; have hacc := hb0.trans (hb1.mono hb0.size); clear hf1)
        | (go_at_call 39; refine (hf2 _).mono ?_; rintro e w2 ⟨rfl, hb2⟩; replace hacc := hacc.trans (hb2.mono hacc.size); replace c0 := cell_later hb2 c0; replace c1 := cell_later hb2 c1; clear hf2)
        | (go_at_call 104; refine (hcl _).mono ?_; rintro e w3 ⟨rfl, hb3⟩; replace hacc := hacc.trans (hb3.mono hacc.size)))
      all_goals go_ret
      all_goals exact ⟨rfl, hacc⟩
    · have a3' : 0 ≤ f2 := by omega
      clear h a1 a2 a3
      go_enter Tryz.func105, Tryz.ntmps105
      go_wp2_with (first
        | (go_at_call 39; refine (hf1 _).mono ?_; rintro e w1 ⟨rfl, hb1⟩; obtain ⟨c0, c1⟩ := two_cells hb1; have hacc := hb0.trans (hb1.mono hb0.size); clear hf1)
        | (go_at_call 39; refine (hf2 _).mono ?_; rintro e w2 ⟨rfl, hb2⟩; replace hacc := hacc.trans (hb2.mono hacc.size); clear hf2))
      all_goals go_ret
      all_goals exact ⟨rfl, hacc⟩
  · have a2' : 0 ≤ f1 := by omega
    clear h a1 a2
    go_enter Tryz.func105, Tryz.ntmps105
    go_wp2_with (go_at_call 39; refine (hf1 _).mono ?_; rintro e w1 ⟨rfl, hb1⟩; have hacc := hb0.trans (hb1.mono hb0.size); clear hf1)
    all_goals go_ret
    all_goals exact ⟨rfl, hacc⟩

end Go.Proofs.YthnaanjhmehgcaaGreatDoor

/-
  THE DOCUMENT's WORD ON PAIRS: whether a pair is right, behind its first tests. Conditions: how many bytes its texts may have.
-/
namespace Go.Proofs.YthnaanjhmehgcaaGreatDoor
open Go.ChangeShapes Go.WideShapes Go.ChangeAt Go.RowKit Go.Lib
set_option linter.unusedVariables false
set_option maxRecDepth 20000

theorem has_drop (s : ByteArray) (i : Nat) (h : i < s.size) : has 61 ((bs s).drop i) = (decide (((s[i]'h).toNat : Int) = 61) || has 61 ((bs s).drop (i + 1))) := by
  rw [bs_drop s i h]
  unfold has
  rw [Bool.eq_iff_iff]
  simp only [List.mem_cons, Bool.or_eq_true, decide_eq_true_eq]
  constructor
  · rintro (h | h)
    · left; rw [← h]; rfl
    · exact .inr h
  · rintro (h | h)
    · left; exact (UInt8.toNat_inj.1 (by have : (s[i]).toNat = 61 := by omega
                                         rw [this]; rfl)).symm
    · exact .inr h

theorem ret_b {a b : Bool} (h : a = b) : (Ending.returned (Value.bool b)) = Ending.returned (.bool a) := by rw [h]

set_option maxHeartbeats 8000000 in
theorem rr_go (k v : ByteArray) (hk : k.size ≤ 1000000) (hv : v.size ≤ 1000000) (w : World) (h1 : bs k ≠ []) (h2 : firstL (bs k) < 0) (h3 : firstL (bs v) < 0) (h4 : has 0 (bs k) = false) :
    Calls Tryz.prog 105 #[.agg #[.string k, .string v]] w fun e w' => e = .returned (.bool (!has 61 (bs k) && (decide (bs v = []) || holdK (kindK (bs k)) (bs v)))) ∧ Below w.heap.size w w' := by
  have hb0 := (Below.refl w.heap.size w).alloc (Nat.le_refl _) (.cells #[.string k, .string v] 50)
  have hf1 := rfirst_walk k hk
  have hf2 := rfirst_walk v hv
  have hcl := rclean_walk k hk
  rw [clean_has, h4] at hcl
  have hz : k.toList.isEmpty = false := by rw [is_nil k, decide_eq_false h1]
  change firstL k.data.toList < 0 at h2
  change firstL v.data.toList < 0 at h3
  have hwh := which_ok k
  have hclv := rclean_walk v hv
  rw [clean_has] at hclv
  obtain ⟨rn, hrn⟩ : ∃ r : Int, r = match nat63 (bs v) with | some u => if u ≤ 9223372036854775807 then (u : Int) else 0 | none => 0 := ⟨_, rfl⟩
  have hnum := fun w => rnumber_ok v (by omega) w rn (isNum (bs v)) hrn rfl
  have hT : ∃ a b : Int, timeOf (bs v) = some (a, b) ∧ isTim (bs v) = true ∨ timeOf (bs v) = none ∧ a = 0 ∧ b = 0 ∧ isTim (bs v) = false := by
    unfold isTim
    cases hh : timeOf (bs v) with
    | none => exact ⟨0, 0, .inr ⟨rfl, rfl, rfl, rfl⟩⟩
    | some p => exact ⟨p.1, p.2, .inl ⟨rfl, rfl⟩⟩
  obtain ⟨ta, tb, hT⟩ := hT
  have htim := fun w => rtime_any v (by omega) w ta tb (isTim (bs v)) hT
  have hkind := hid (which_kind (bs k))
  obtain ⟨q, hq⟩ : ∃ q, q = has 61 (bs k) := ⟨_, rfl⟩
  rw [← hq]
  replace hq := hid hq
  have a2' : ¬ 0 ≤ firstL k.data.toList := by omega
  have a3' : ¬ 0 ≤ firstL v.data.toList := by omega
  generalize firstL k.data.toList = f1 at *
  generalize firstL v.data.toList = f2 at *
  clear h1 h2 h3 h4 hT hrn
  go_enter Tryz.func105, Tryz.ntmps105
  go_wp2_with (first
    | (go_at_call 39; refine (hf1 _).mono ?_; rintro e w1 ⟨rfl, hb1⟩; obtain ⟨c0, c1⟩ := two_cells hb1; have hacc := hb0.trans (hb1.mono hb0.size); clear hf1)
    | (go_at_call 39; refine (hf2 _).mono ?_; rintro e w2 ⟨rfl, hb2⟩; replace hacc := hacc.trans (hb2.mono hacc.size); replace c0 := cell_later hb2 c0; replace c1 := cell_later hb2 c1; clear hf2)
    | (go_at_call 104; refine (hcl _).mono ?_; rintro e w3 ⟨rfl, hb3⟩; replace hacc := hacc.trans (hb3.mono hacc.size); replace c0 := cell_later hb3 c0; replace c1 := cell_later hb3 c1; clear hb3 hcl))
  go_loopw [3] (fun x wr => ∃ i : Nat, x = .int .i64 i ∧ wr = w3 ∧ i ≤ k.size ∧ Hid (q = has 61 ((bs k).drop i))) (fun x _ => k.size - (RowKit.intOf x).toNat)
  case atStart => exact ⟨0, rfl, rfl, by omega, hid hq.out⟩
  case round =>
    obtain ⟨i, rfl, hwr, hi, hr⟩ := hrel
    subst hwr
    by_cases hlt : i < k.size
    · obtain ⟨ch, hch⟩ : ∃ ch : Int, ((k[i]'hlt).toNat : Int) = ch := ⟨_, rfl⟩
      have hd := has_drop k i hlt
      rw [hch] at hd
      have hiI : (i : Int) < (k.size : Int) := by omega
      by_cases hc : ch = 61
      · have E : q = false → False := by intro e; have := hr.out; rw [hd, decide_eq_true hc, e] at this; cases this
        obtain rfl : q = true := by cases q; exact absurd rfl E; rfl
        have hcb : (ch == 61) = true := by rw [hc]; rfl
        clear hr hd E hc hq
        go_wp2
        go_ret
        exact ⟨rfl, hacc⟩
      · have E := hid (by rw [hr.out, hd, decide_eq_false hc]; rfl : q = has 61 ((bs k).drop (i + 1)))
        have hcb : (ch == 61) = false := by simpa using hc
        clear hr hd hc
        go_wp2
        go_roundw
        case rel => exact ⟨i + 1, by go_num, by first | rfl | trivial, by omega, E⟩
        case measure => simp [RowKit.intOf]; omega
    · obtain rfl : q = false := by rw [hr.out, bs_drop_end k i hlt]; rfl
      have hiI : ¬ (i : Int) < (k.size : Int) := by omega
      clear hr hq
      by_cases hve : bs v = []
      · have EE := hid (show (!false && (decide (bs v = []) || holdK (kindK (bs k)) (bs v))) = true by rw [decide_eq_true hve]; rfl)
        have hz2 : v.toList.isEmpty = true := by rw [is_nil v, decide_eq_true hve]
        clear hve hkind hclv hnum htim
        generalize whichK (bs k) = W at *
        go_wp2_with (first | (go_at_call 73; refine (hwh _).mono ?_; rintro e w5 ⟨rfl, hb5⟩; replace hacc := hacc.trans (hb5.mono hacc.size); replace c0 := cell_later hb5 c0; replace c1 := cell_later hb5 c1; clear hb5))
        all_goals go_ret
        all_goals exact ⟨ret_b EE.out, hacc⟩
      · have E1 : (!false && (decide (bs v = []) || holdK (kindK (bs k)) (bs v))) = holdK (kindK (bs k)) (bs v) := by rw [decide_eq_false hve]; rfl
        have hz2 : v.toList.isEmpty = false := by rw [is_nil v, decide_eq_false hve]
        clear hve
        rcases hkind.out with ⟨e1, e2⟩ | ⟨e0, e1, e2⟩ | ⟨e0, e1, e2⟩ | ⟨e1, e2⟩
        · have EE := hid (show (!false && (decide (bs v = []) || holdK (kindK (bs k)) (bs v))) = _ from E1.trans (congrArg (fun x => holdK x (bs v)) e2))
          rw [e1] at hwh
          clear E1 hkind e1 e2 hclv hnum htim
          go_wp2_with (first | (go_at_call 73; refine (hwh _).mono ?_; rintro e w5 ⟨rfl, hb5⟩; replace hacc := hacc.trans (hb5.mono hacc.size); replace c0 := cell_later hb5 c0; replace c1 := cell_later hb5 c1; clear hb5))
          all_goals go_ret
          all_goals exact ⟨ret_b EE.out, hacc⟩
        · have n0 : ¬ whichK (bs k) < 0 := by omega
          have E : holdK 1 (bs v) = !has 0 (bs v) := rfl
          have EE := hid (show (!false && (decide (bs v = []) || holdK (kindK (bs k)) (bs v))) = (!has 0 (bs v)) from E1.trans (by rw [e2, E]))
          clear E1 hkind e2 hnum htim E
          generalize whichK (bs k) = W at *
          generalize has 0 (bs v) = hv0 at *
          go_wp2_with (first | (go_at_call 73; refine (hwh _).mono ?_; rintro e w5 ⟨rfl, hb5⟩; replace hacc := hacc.trans (hb5.mono hacc.size); replace c0 := cell_later hb5 c0; replace c1 := cell_later hb5 c1; clear hb5) | (go_at_call 104; refine (hclv _).mono ?_; rintro e w6 ⟨rfl, hb6⟩; replace hacc := hacc.trans (hb6.mono hacc.size)))
          all_goals go_ret
          all_goals exact ⟨ret_b EE.out, hacc⟩
        · have n0 : ¬ whichK (bs k) < 0 := by omega
          have n4 : ¬ whichK (bs k) < 4 := by omega
          have E : holdK 2 (bs v) = isNum (bs v) := rfl
          have EE := hid (show (!false && (decide (bs v = []) || holdK (kindK (bs k)) (bs v))) = (isNum (bs v)) from E1.trans (by rw [e2, E]))
          clear E1 hkind e2 hclv htim E
          generalize whichK (bs k) = W at *
          generalize isNum (bs v) = hv0 at *
          go_wp2_with (first | (go_at_call 73; refine (hwh _).mono ?_; rintro e w5 ⟨rfl, hb5⟩; replace hacc := hacc.trans (hb5.mono hacc.size); replace c0 := cell_later hb5 c0; replace c1 := cell_later hb5 c1; clear hb5) | (go_at_call 129; refine (hnum _).mono ?_; rintro e w6 ⟨rfl, hw6⟩; obtain rfl := hw6.symm))
          all_goals go_ret
          all_goals exact ⟨ret_b EE.out, hacc⟩
        · rw [e1] at hwh
          have E : holdK 3 (bs v) = isTim (bs v) := rfl
          have EE := hid (show (!false && (decide (bs v = []) || holdK (kindK (bs k)) (bs v))) = (isTim (bs v)) from E1.trans (by rw [e2, E]))
          clear E1 hkind e1 e2 hclv hnum E
          generalize isTim (bs v) = hv0 at *
          go_wp2_with (first | (go_at_call 73; refine (hwh _).mono ?_; rintro e w5 ⟨rfl, hb5⟩; replace hacc := hacc.trans (hb5.mono hacc.size); replace c0 := cell_later hb5 c0; replace c1 := cell_later hb5 c1; clear hb5) | (go_at_call 130; refine (htim _).mono ?_; rintro e w6 ⟨rfl, hb6⟩; replace hacc := hacc.trans (hb6.mono hacc.size)))
          all_goals go_ret
          all_goals exact ⟨ret_b EE.out, hacc.alloc hacc.size _⟩

theorem rr_ok (k v : ByteArray) (hk : k.size ≤ 1000000) (hv : v.size ≤ 1000000) (w : World) :
    Calls Tryz.prog 105 #[.agg #[.string k, .string v]] w fun e w' => e = .returned (.bool (rightP (bs k) (bs v))) ∧ Below w.heap.size w w' := by
  by_cases h : bs k = [] ∨ ¬ firstL (bs k) < 0 ∨ ¬ firstL (bs v) < 0 ∨ has 0 (bs k) = true
  · rw [right_false _ _ (by rcases h with h | h | h | h; exact .inl h; exact .inr (.inl h); exact .inr (.inr (.inl h)); exact .inr (.inr (.inr (.inl h))))]
    exact rr_false k v hk hv w h
  · have h1 : bs k ≠ [] := fun e => h (.inl e)
    have h2 : firstL (bs k) < 0 := Decidable.byContradiction fun e => h (.inr (.inl e))
    have h3 : firstL (bs v) < 0 := Decidable.byContradiction fun e => h (.inr (.inr (.inl e)))
    have h4 : has 0 (bs k) = false := by
      cases e : has 0 (bs k)
      · rfl
      · exact absurd (.inr (.inr (.inr e))) h
    have hg := rr_go k v hk hv w h1 h2 h3 h4
    have E : rightP (bs k) (bs v) = (!has 61 (bs k) && (decide (bs v = []) || holdK (kindK (bs k)) (bs v))) := by
      cases e : has 61 (bs k)
      · rw [right_rest _ _ h1 h2 h3 h4 e]; rfl
      · rw [right_false _ _ (.inr (.inr (.inr (.inr e))))]; rfl
    rw [E]; exact hg

end Go.Proofs.YthnaanjhmehgcaaGreatDoor

/-
  THE DOCUMENT's LENGTH OF A RECORD. Conditions: how many bytes a pair's texts may have.
-/
namespace Go.Proofs.YthnaanjhmehgcaaGreatDoor
open Go.ChangeShapes Go.WideShapes Go.ChangeAt Go.RowKit Go.Lib
set_option linter.unusedVariables false
set_option maxRecDepth 20000

set_option maxHeartbeats 4000000 in
theorem rlen_ok (k v : ByteArray) (hk : k.size ≤ 1000000) (hv : v.size ≤ 1000000) (w : World) :
    Calls Tryz.prog 31 #[.agg #[.string k, .string v]] w fun e w' => e = .returned (.int .i64 (lenN (restN k v))) ∧ Below w.heap.size w w' := by
  have hb0 := (Below.refl w.heap.size w).alloc (Nat.le_refl _) (.cells #[.string k, .string v] 50)
  have hcc := two_cells (Below.refl (w.alloc (.cells #[.string k, .string v] 50)).heap.size (w.alloc (.cells #[.string k, .string v] 50)))
  obtain ⟨c0, c1⟩ := hcc
  obtain ⟨R, hR⟩ : ∃ R, R = restN k v := ⟨_, rfl⟩
  have hR1 : (R : Int) = (k.size : Int) + (v.size : Int) + 3 := by rw [hR]; unfold restN; omega
  have hR2 : R ≤ 2000003 := by rw [hR]; unfold restN; omega
  rw [← hR]
  obtain ⟨hs1, hs2⟩ := lenN_spec R (by omega)
  obtain ⟨D, hD⟩ : ∃ D, D = nDigits (lenN R) := ⟨_, rfl⟩
  rw [← hD] at hs1
  have hD1 : 1 ≤ D := by rw [hD]; exact nDigits_pos _
  have hDle : D ≤ 20 := by rw [hD]; exact nDigits_le20 _ (by have := lenN_le R (by omega); omega)
  have hst : ∀ d, d ≤ D → nDigits (R + d) = d → d = D := fun d h1 h2 => by
    have := hs2 (R + d) (by rw [h2]); omega
  have hnx : nDigits (R + D) = D := by rw [← hs1, ← hD]
  rw [hs1]
  have hdg := fun (n : Nat) hn w' => digits_ok n hn w'
  clear hR hs1 hs2 hD
  replace hst := hid hst
  replace hnx := hid hnx
  go_enter Tryz.func31, Tryz.ntmps31
  go_wp2
  go_loopw [3] (fun x wr => ∃ d : Nat, x = .int .i64 d ∧ 1 ≤ d ∧ d ≤ D ∧ wr.cell? ⟨w.heap.size, 0, none⟩ = some (.string k) ∧ wr.cell? ⟨w.heap.size, 1, none⟩ = some (.string v) ∧ Below w.heap.size w wr) (fun x _ => D + 1 - (RowKit.intOf x).toNat)
  case atStart => exact ⟨1, rfl, by omega, hD1, c0, c1, hb0⟩
  case round =>
    obtain ⟨d, rfl, h1, h2, e0, e1, hb⟩ := hrel
    clear c0 c1 hb0
    obtain ⟨N, hN⟩ : ∃ N, N = R + d := ⟨_, rfl⟩
    have hE : (d : Int) + (k.size : Int) + (v.size : Int) + 3 = (N : Int) := by omega
    have hd := hdg N (by omega) wr
    have hsz2 : (txt (decDigits N)).size = nDigits N := by rw [txt_size, decDigits_length]
    obtain ⟨s, hs⟩ : ∃ s, s = txt (decDigits N) := ⟨_, rfl⟩
    rw [← hs] at hd hsz2
    clear hdg
    by_cases he : nDigits N = d
    · have hdD := hst.out d h2 (by rw [← hN]; exact he)
      have hI : ((s.size : Int) == (d : Int)) = true := by simp; omega
      have hr : Hid ((N : Int) = ((R + D : Nat) : Int)) := hid (by omega)
      clear hst hnx hs he hsz2 hN hdD
      go_wp2_with (go_at_call 74; refine hd.mono ?_; rintro e w1 ⟨rfl, hb1⟩)
      all_goals go_ret
      all_goals exact ⟨ret_int hr.out, hb.trans (hb1.mono hb.size)⟩
    · have hdD : d ≠ D := fun e => he (by rw [hN, e]; exact hnx.out)
      have hI : ((s.size : Int) == (d : Int)) = false := by simp; omega
      clear hst hnx hs he hsz2 hN
      go_wp2_with (go_at_call 74; refine hd.mono ?_; rintro e w1 ⟨rfl, hb1⟩; have f0 := cell_later hb1 e0; have f1 := cell_later hb1 e1; have hacc := hb.trans (hb1.mono hb.size))
      go_roundw
      case rel => exact ⟨d + 1, by go_num, by omega, by omega, f0, f1, hacc⟩
      case measure => simp [RowKit.intOf]; omega

end Go.Proofs.YthnaanjhmehgcaaGreatDoor
