/-
  WHAT split.Split AND THE DOCUMENT's OWN GIVE. Conditions: the length.
-/
import Derived.Test.YtbkgbnjiibhmhaaSpc
import Derived.BigQuiet
namespace Go.Proofs.Ytbkgbnjiibhmhaa
open Go.ChangeShapes Go.WideShapes Go.ChangeAt Go.RowKit Go.Lib
set_option linter.unusedVariables false
set_option linter.unusedSimpArgs false
set_option maxRecDepth 20000

/-- the split of a name -/
def spA (s : ByteArray) : ByteArray := if fitB s = true then ⟨#[]⟩ else if lastC (nums s) s.size = 0 then ⟨#[]⟩ else s.extract 0 (lastC (nums s) s.size)
def spN (s : ByteArray) : ByteArray := if fitB s = true then s else if lastC (nums s) s.size = 0 then ⟨#[]⟩ else s.extract (lastC (nums s) s.size + 1) s.size
def spO (s : ByteArray) : Bool := fitB s || !decide (lastC (nums s) s.size = 0)

theorem sp_fit {s : ByteArray} (h : fitB s = true) : spA s = ⟨#[]⟩ ∧ spN s = s ∧ spO s = true := by unfold spA spN spO; simp [h]
theorem sp_none {s : ByteArray} (h : fitB s = false) (h0 : lastC (nums s) s.size = 0) : spA s = ⟨#[]⟩ ∧ spN s = ⟨#[]⟩ ∧ spO s = false := by unfold spA spN spO; simp [h, h0]
theorem sp_cut {s : ByteArray} (h : fitB s = false) (h0 : lastC (nums s) s.size ≠ 0) : spA s = s.extract 0 (lastC (nums s) s.size) ∧ spN s = s.extract (lastC (nums s) s.size + 1) s.size ∧ spO s = true := by unfold spA spN spO; simp [h, h0]
theorem below_draws {B : Nat} {a w : World} (h : Below B a w) (n : Nat) : Below B a (w.drewN n) := h.trans ⟨rfl, rfl, rfl, Nat.le_refl _, fun _ _ => rfl⟩
theorem ret_ssb {a b c d : ByteArray} {x y : Bool} (h : a = b) (h' : c = d) (h'' : x = y) : Ending.returned (.tuple #[.string a, .string c, .bool x]) = .returned (.tuple #[.string b, .string d, .bool y]) := by rw [h, h', h'']

set_option maxHeartbeats 4000000 in
theorem split_ok (s : ByteArray) (hs : s.size ≤ 9000000000000000000) (w : World) : Calls Try.prog 16 #[.string s] w fun e w' => e = .returned (.tuple #[.string (spA s), .string (spN s), .bool (spO s)]) ∧ Below w.heap.size w w' := by
  have hf := fun w => fits_ok s hs w
  have hc := fun w => cutAhead_ok s hs s.size (Nat.le_refl _) w
  cases hft : fitB s
  · by_cases h0 : lastC (nums s) s.size = 0
    · have E := hid (sp_none hft h0)
      rw [hft] at hf
      rw [h0] at hc
      go_enter Try.func16, Try.ntmps16
      go_wp2_with (first
        | (go_at_call 28; refine (hf _).mono ?_; rintro e w' ⟨hw, rfl⟩; obtain rfl := hw.symm)
        | (go_at_call 29; refine (hc _).mono ?_; rintro e w' ⟨hw, rfl⟩; obtain rfl := hw.symm))
      go_ret3
      exact ⟨ret_ssb E.out.1.symm E.out.2.1.symm E.out.2.2.symm, Below.refl _ _⟩
    · have E := hid (sp_cut hft h0)
      have hle := (lastC_lt (nums s) s.size).resolve_left h0
      rw [hft] at hf
      generalize lastC (nums s) s.size = k at *
      have hkI : ((k : Int) == 0) = false := by simpa using h0
      go_enter Try.func16, Try.ntmps16
      go_upto_region 6 with (first
        | (go_at_call 28; refine (hf _).mono ?_; rintro e w' ⟨hw, rfl⟩; obtain rfl := hw.symm)
        | (go_at_call 29; refine (hc _).mono ?_; rintro e w' ⟨hw, rfl⟩; obtain rfl := hw.symm))
      go_quiet (fail)
      go_wp2
      go_ret3
      exact ⟨ret_ssb E.out.1.symm E.out.2.1.symm E.out.2.2.symm, below_draws (Below.refl _ _) _⟩
  · have E := hid (sp_fit hft)
    rw [hft] at hf
    go_enter Try.func16, Try.ntmps16
    go_wp2_with (first
      | (go_at_call 28; refine (hf _).mono ?_; rintro e w' ⟨hw, rfl⟩; obtain rfl := hw.symm))
    go_ret3
    exact ⟨ret_ssb E.out.1.symm E.out.2.1.symm E.out.2.2.symm, Below.refl _ _⟩

/-! ### the document's own -/

theorem Try.info3 : (Try.prog.info? 3).map (fun i => (i.zero, i.size, i.bytes)) = some (some (.int .i64 0), 1, 8) := by kernel_rfl

set_option maxHeartbeats 8000000 in
theorem rcuts_ok (s : ByteArray) (hs : s.size ≤ 1000000) (w : World) : Calls Try.prog 20 #[.string s] w fun e w' => (∃ v, e = .returned v ∧ w'.ownsRow w.heap.size 3 1 v (natI (cutsTo (nums s) s.size)).length (i64s (natI (cutsTo (nums s) s.size)))) ∧ Below w.heap.size w w' := by
  obtain ⟨i0, hi, hz0, hz1, hz2⟩ := info_parts Try.info3
  have hlen := nums_length s
  have hnat := fun k hk => nums_at s k hk
  generalize nums s = l at *
  obtain ⟨q, hq⟩ : ∃ q, q = natI (cutsTo l s.size) := ⟨_, rfl⟩
  rw [← hq]
  have hnil : w.ownsRow w.heap.size 3 1 (.slice none 0 0) 0 [] := ⟨rfl, .inl ⟨rfl, rfl⟩⟩
  replace hq := hid hq
  replace hlen := hid hlen
  go_enter Try.func20, Try.ntmps20
  go_wp2
  go_loopw [3, 4] (fun x y wr => ∃ (v : Value) (k : Nat) (acc : List Int), x = v ∧ y = .int .i64 k ∧ k ≤ s.size ∧ acc.length ≤ k ∧ wr.ownsRow w.heap.size 3 1 v acc.length (i64s acc) ∧ Below w.heap.size w wr ∧ Hid (acc = natI (cutsTo l k))) (fun _ y _ => s.size - (RowKit.intOf y).toNat)
  case atStart => exact ⟨_, 0, [], rfl, by go_num, Nat.zero_le _, by simp, hnil, Below.refl _ _, hid rfl⟩
  case round =>
    obtain ⟨v, k, acc, rfl, rfl, hks, hak, hown, hb, hp⟩ := hrel
    have hsz := hb.size
    by_cases hlt : k < s.size
    · have hck := hnat k hlt
      cases hcb : cutB l k
      · have hp' : Hid (acc = natI (cutsTo l (k + 1))) := hid (by rw [hp.out, cutsTo_no hcb])
        obtain ⟨c, hc⟩ : ∃ c, c = l.getD k 0 := ⟨_, rfl⟩
        have hno : Hid (¬ (c = 47 ∧ 1 ≤ k ∧ k ≤ 155 ∧ k + 2 ≤ s.size ∧ s.size ≤ k + 101)) := hid (fun h => by
          have := cutB_iff.2 ⟨hc ▸ h.1, h.2.1, h.2.2.1, by rw [hlen.out]; exact h.2.2.2.1, by rw [hlen.out]; exact h.2.2.2.2⟩
          rw [hcb] at this; cases this)
        rw [← hc] at hck
        clear hp hq hnat hcb hc hlen
        by_cases g1 : c = 47
        · subst g1
          by_cases g2 : 1 ≤ k
          · by_cases g3 : k ≤ 155
            · by_cases g4 : k + 2 ≤ s.size
              · have g5 : ¬ s.size ≤ k + 101 := fun h => hno.out ⟨rfl, g2, g3, g4, h⟩
                clear hno
                go_wp2
                go_roundw
                case rel => exact ⟨_, k + 1, _, rfl, by go_num, by omega, by omega, hown, hb, hp'⟩
                case measure => simp [RowKit.intOf]; omega
              · clear hno
                go_wp2
                go_roundw
                case rel => exact ⟨_, k + 1, _, rfl, by go_num, by omega, by omega, hown, hb, hp'⟩
                case measure => simp [RowKit.intOf]; omega
            · clear hno
              go_wp2
              go_roundw
              case rel => exact ⟨_, k + 1, _, rfl, by go_num, by omega, by omega, hown, hb, hp'⟩
              case measure => simp [RowKit.intOf]; omega
          · clear hno
            go_wp2
            go_roundw
            case rel => exact ⟨_, k + 1, _, rfl, by go_num, by omega, by omega, hown, hb, hp'⟩
            case measure => simp [RowKit.intOf]; omega
        · have hneq : (c == 47) = false := by simpa using g1
          clear hno
          go_wp2
          go_roundw
          case rel => exact ⟨_, k + 1, _, rfl, by go_num, by omega, by omega, hown, hb, hp'⟩
          case measure => simp [RowKit.intOf]; omega
      · have hp' : Hid (acc ++ [(k : Int)] = natI (cutsTo l (k + 1))) := hid (by rw [hp.out, cutsTo_yes hcb, natI_app]; rfl)
        obtain ⟨g1, g2, g3, g4, g5⟩ := cutB_iff.1 hcb
        rw [hlen.out] at g4 g5
        rw [g1] at hck
        clear hp hq hnat hcb g1
        go_wp2_with (first | (at_builtin; refine wpList_append_own _ rfl _ _ 42 rfl w.heap.size 3 i0 (.int .i64 0) 1 8 Try.underlying42 hi hz0 hz1 hz2 rfl (by decide) _ _ _ rfl (hown.alloc _) ⟨wr.heap.size, 0, none⟩ 1 1 [.int .i64 (k : Int)] rfl rfl (cell_one_new _ _ _) (one_i64 _) (by unfold maxLen; omega) (by omega) (by simp; omega) ?_; intro v' w2 hown' hgrow' _))
        go_roundw
        case rel => exact ⟨_, k + 1, _, rfl, by go_num, by omega, by simp; omega, by have := i64s_more hown'; simpa using this, (hb.alloc hsz _).grown hgrow' (by simp; omega) (fun k hk => (hown.lt k hk).1), hp'⟩
        case measure => simp [RowKit.intOf]; omega
    · have hq' : acc = q := by rw [hp.out, hq.out, show k = s.size by omega]
      subst hq'
      clear hq hp hnat
      go_wp2
      go_ret
      exact ⟨⟨_, rfl, hown⟩, hb⟩

theorem natI_cases (l : List Nat) : natI l = [] ∨ ∃ k r, l = r ++ [k] := by
  rcases List.eq_nil_or_concat l with rfl | ⟨r, k, rfl⟩
  · exact .inl rfl
  · exact .inr ⟨k, r, by simp⟩
theorem natI_last (l : List Nat) (h : 0 < l.length) : (natI l).getD ((natI l).length - 1) 0 = ((l.getLastD 0 : Nat) : Int) := by
  rcases List.eq_nil_or_concat l with rfl | ⟨r, k, rfl⟩
  · simp at h
  · simp [natI]

theorem fit_empty : fitB ⟨#[]⟩ = false := by decide +kernel

set_option maxHeartbeats 4000000 in
theorem rsplit_ok (s : ByteArray) (hs : s.size ≤ 1000000) (w : World) : Calls Try.prog 17 #[.string s] w fun e w' => e = .returned (.tuple #[.string (spA s), .string (spN s), .bool (spO s)]) ∧ Below w.heap.size w w' := by
  have hc := fun w => rcuts_ok s hs w
  by_cases h0 : s.size = 0
  · obtain rfl := empty_of s h0
    have E := hid (sp_none fit_empty (by decide +kernel))
    rw [show natI (cutsTo (nums ⟨#[]⟩) (ByteArray.size ⟨#[]⟩)) = [] by decide +kernel] at hc
    go_enter Try.func17, Try.ntmps17
    go_wp2_with (first
      | (go_at_call 20; refine (hc _).mono ?_; rintro e w1 ⟨⟨v, rfl, hown⟩, hb⟩; obtain ⟨-, a, c, rfl⟩ := (ints_cases hown).resolve_right (fun h => absurd h.1 (by simp))))
    go_ret3
    exact ⟨ret_ssb E.out.1.symm E.out.2.1.symm E.out.2.2.symm, hb⟩
  · have hne := toList_ne s h0
    have he : s.toList.isEmpty = false := by simpa using hne
    by_cases h1 : s.size ≤ 100
    · have E := hid (sp_fit (s := s) (by unfold fitB; simp; omega))
      have hI : (s.size : Int) ≤ 100 := by omega
      go_enter Try.func17, Try.ntmps17
      go_wp2
      go_ret3
      exact ⟨ret_ssb E.out.1.symm E.out.2.1.symm E.out.2.2.symm, Below.refl _ _⟩
    · have hf : fitB s = false := by unfold fitB; simp; omega
      have hI : ¬ (s.size : Int) ≤ 100 := by omega
      by_cases hl : (cutsTo (nums s) s.size).length = 0
      · have hl' : cutsTo (nums s) s.size = [] := by simpa using hl
        have E := hid (sp_none hf (by unfold lastC; rw [hl']; rfl))
        rw [hl'] at hc
        clear hl hl'
        go_enter Try.func17, Try.ntmps17
        go_wp2_with (first
          | (go_at_call 20; refine (hc _).mono ?_; rintro e w1 ⟨⟨v, rfl, hown⟩, hb⟩; obtain ⟨-, a, c, rfl⟩ := (ints_cases hown).resolve_right (fun h => absurd h.1 (by simp [natI]))))
        go_ret3
        exact ⟨ret_ssb E.out.1.symm E.out.2.1.symm E.out.2.2.symm, hb⟩
      · have hlast := natI_last (cutsTo (nums s) s.size) (by omega)
        have hlc : lastC (nums s) s.size ≠ 0 := by
          intro e
          have h1 := cutsTo_last (nums s) s.size
          rw [e] at h1
          exact hl (by rw [h1]; rfl)
        have E := hid (sp_cut hf hlc)
        have hle := (lastC_lt (nums s) s.size).resolve_left hlc
        change (natI _).getD _ 0 = ((lastC (nums s) s.size : Nat) : Int) at hlast
        have hlz : (natI (cutsTo (nums s) s.size)).length ≤ 1000000 ∧ 0 < (natI (cutsTo (nums s) s.size)).length := by
          have := cutsTo_len (nums s) s.size
          rw [natI_len]; omega
        generalize natI (cutsTo (nums s) s.size) = q at *
        generalize lastC (nums s) s.size = k at *
        obtain ⟨n, hn⟩ : ∃ n, n = q.length := ⟨_, rfl⟩
        replace hn := hid hn
        clear hl
        go_enter Try.func17, Try.ntmps17
        go_upto_region 7 with (first
          | (go_at_call 20; refine (hc _).mono ?_; rintro e w1 ⟨⟨v, rfl, hown⟩, hb⟩; obtain ⟨-, g, c, rfl, hcell⟩ := (ints_cases hown).resolve_left (fun h => by rw [h.1] at hlz; simp at hlz); have hcl := hcell (q.length - 1) (by omega); rw [hlast] at hcl; rw [← hn.out] at hlz hcl ⊢))
        go_quiet (fail)
        go_wp2
        go_ret3
        exact ⟨ret_ssb E.out.1.symm E.out.2.1.symm E.out.2.2.symm, below_draws hb _⟩

set_option maxHeartbeats 4000000 in
theorem same_ints (q : List Int) (hq : q.length ≤ 1000000) {w : World} {B1 B2 : Nat} {v u : Value} (h1 : w.ownsRow B1 3 1 v q.length (i64s q)) (h2 : w.ownsRow B2 3 1 u q.length (i64s q)) : Calls Try.prog 18 #[v, u] w fun e w' => e = .returned (.bool true) ∧ Below w.heap.size w w' := by
  rcases ints_cases h1 with ⟨rfl, a, c, rfl⟩ | ⟨hn, g, c, rfl, hcell⟩
  · obtain ⟨-, a', c', rfl⟩ := (ints_cases h2).resolve_right (fun h => absurd h.1 (by simp))
    clear h1 h2
    go_enter Try.func18, Try.ntmps18
    go_wp2
    refine wp_loop_rounds 1 ?_
    rw [rounds_succ]
    go_wp2
    go_ret
    exact ⟨rfl, Below.refl _ _⟩
  · obtain ⟨-, g', c', rfl, hcell'⟩ := (ints_cases h2).resolve_left (fun h => by rw [h.1] at hn; simp at hn)
    obtain ⟨n, hnq⟩ : ∃ n, n = q.length := ⟨_, rfl⟩
    rw [← hnq] at hn hq hcell hcell' ⊢
    clear h1 h2 hnq
    go_enter Try.func18, Try.ntmps18
    go_wp2
    go_loopw [5] (fun y wr => ∃ i : Nat, y = .int .i64 i ∧ i ≤ n ∧ Below w.heap.size w wr) (fun y _ => n - (RowKit.intOf y).toNat)
    case atStart => exact ⟨0, by go_num, Nat.zero_le _, Below.refl _ _⟩
    case round =>
      obtain ⟨i, rfl, hi, hb⟩ := hrel
      by_cases hlt : i < n
      · have c1 := cell_later hb (hcell i hlt)
        have c2 := cell_later hb (hcell' i hlt)
        generalize q.getD i 0 = x at *
        have hxx : (x != x) = false := by simp
        clear hcell hcell'
        go_upto_region 6 with fail
        go_quiet (fail)
        go_wp2
        go_roundw
        case rel => exact ⟨i + 1, by go_num, by omega, below_draws hb _⟩
        case measure => simp [RowKit.intOf]; omega
      · clear hcell hcell'
        go_wp2
        go_ret
        exact ⟨rfl, hb⟩

end Go.Proofs.Ytbkgbnjiibhmhaa
