/-
  THE WALK OF SplitLast. No condition.
-/
import Derived.Test.YtbkgbnjiibhmhaaSpw
import Derived.BigQuiet
namespace Go.Proofs.Ytbkgbnjiibhmhaa
open Go.ChangeShapes Go.WideShapes Go.ChangeAt Go.RowKit Go.Lib
set_option linter.unusedVariables false
set_option linter.unusedSimpArgs false
set_option maxRecDepth 20000

set_option maxHeartbeats 16000000 in
theorem last_main (s A N : ByteArray) (O : Bool) (q : List Int) (K : Nat) (hs : s.size ≤ 5000) (hA : A.size = K) (hA0 : s.size ≤ 100 → A = ⟨#[]⟩) (hO : 100 < s.size → O = decide (0 < (q.length : Int))) (hK : 100 < s.size → O = true → q.getD (q.length - 1) 0 = (K : Int))
    (hql : q.length ≤ 5000)
    (hq1 : ∀ i, i < q.length → ∃ k : Nat, q.getD i 0 = (k : Int) ∧ 1 ≤ k ∧ k < s.size ∧ s.extract 0 k ++ ⟨#[47]⟩ ++ s.extract (k + 1) s.size = s)
    (hq2 : ∀ i, i + 1 < q.length → q.getD i 0 < q.getD (i + 1) 0) (w : World)
    (h1 : ∀ w, Calls Try.prog 16 #[.string s] w fun e w' => e = .returned (.tuple #[.string A, .string N, .bool O]) ∧ Below w.heap.size w w')
    (h3 : ∀ w, Calls Try.prog 19 #[.string s] w fun e w' => (∃ v, e = .returned v ∧ w'.ownsRow w.heap.size 3 1 v q.length (i64s q)) ∧ Below w.heap.size w w') :
    Calls Try.prog 6 #[.string s] w fun e w' => e = .returned (.bool true) ∧ Below w.heap.size w w' := by
  have hsI : ¬ (5000 : Int) < (s.size : Int) := by omega
  obtain ⟨n, hn⟩ : ∃ n, n = q.length := ⟨_, rfl⟩
  rw [← hn] at hO hK hql hq1 hq2
  simp only [← hn] at h3
  replace hn := hid hn
  go_enter Try.func6, Try.ntmps6
  go_wp2_with (first
    | (go_at_call 15; refine (salive_ok _).mono ?_; rintro e w1 ⟨rfl, hb1⟩)
    | (go_at_call 19; refine (h3 _).mono ?_; rintro e w2 ⟨⟨v, rfl, ho⟩, hb2⟩; replace hb2 := hb1.trans (hb2.mono hb1.size)))
  have hv : ∃ a c, v = .slice a n c ∧ ∀ i, i < n → ∃ g, a = some ⟨g, 0, none⟩ ∧ w2.cell? ⟨g, i, none⟩ = some (.int .i64 (q.getD i 0)) := by
    rw [hn.out] at ho ⊢
    rcases ints_cases ho with ⟨e1, a, c, rfl⟩ | ⟨e1, g, c, rfl, hc⟩
    · subst e1
      exact ⟨a, c, rfl, fun i hi => by simp at hi⟩
    · exact ⟨_, c, rfl, fun i hi => ⟨g, rfl, hc i hi⟩⟩
  obtain ⟨a, c, rfl, hcell⟩ := hv
  clear ho h3
  go_loopw [4] (fun y wr => ∃ i : Nat, y = .int .i64 i ∧ i ≤ n ∧ Below w2.heap.size w2 wr) (fun y _ => n - (RowKit.intOf y).toNat)
  case atStart => exact ⟨0, by go_num, Nat.zero_le _, Below.refl _ _⟩
  case round =>
    obtain ⟨i, rfl, hi, hb⟩ := hrel
    by_cases hlt : i < n
    · obtain ⟨g, rfl, hc⟩ := hcell i hlt
      have c1 := cell_later hb hc
      obtain ⟨k, hk, k1, k2, hj⟩ := hq1 i hlt
      have hri : 0 < i → ∃ z, z < (k : Int) ∧ wr.cell? ⟨g, i - 1, none⟩ = some (.int .i64 z) := by
        intro h0
        obtain ⟨g', e, hc'⟩ := hcell (i - 1) (by omega)
        simp only [Option.some.injEq, Addr.mk.injEq, and_true] at e
        subst e
        have := hq2 (i - 1) (by omega)
        rw [show i - 1 + 1 = i by omega, hk] at this
        exact ⟨_, this, cell_later hb hc'⟩
      rw [hk] at c1
      have hne : ((s.extract 0 k ++ ⟨#[47]⟩ ++ s.extract (k + 1) s.size).toList == s.toList) = true := str_beq.2 hj
      have g1 : ¬ 9223372036854775807 < (s.extract 0 k).size + (ByteArray.mk #[47]).size := by rw [ext_size _ _ _ (by omega)]; have : (ByteArray.mk #[47]).size = 1 := rfl; omega
      have g2 : ¬ 9223372036854775807 < (s.extract 0 k ++ (ByteArray.mk #[47])).size + (s.extract (k + 1) s.size).size := by rw [ByteArray.size_append, ext_size _ _ _ (by omega), ext_size _ _ _ (by omega)]; have : (ByteArray.mk #[47]).size = 1 := rfl; omega
      have d1 : decide ((k : Int) < 1) = false := by simp; omega
      have d2 : decide ((s.size : Int) ≤ (k : Int)) = false := by simp; omega
      have d2' : decide (s.size ≤ k) = false := by simp; omega
      clear hcell hq1 hq2 h1 hK hO hA hA0 hj hc hk hn
      by_cases h0 : 0 < i
      · obtain ⟨z, hz, c2⟩ := hri h0
        have d3 : decide ((0 : Int) < (i : Int)) = true := by simp; omega
        have d3' : decide (0 < i) = true := by simp; omega
        have d4 : decide ((k : Int) ≤ z) = false := by simp; omega
        have hsub : (i : Int) - 1 = ((i - 1 : Nat) : Int) := by omega
        clear hri
        go_upto_region 9 with fail
        go_quiet (fail)
        go_wp2
        go_roundw
        case rel => exact ⟨_ + 1, by go_num, by omega, below_draws hb _⟩
        case measure => simp [RowKit.intOf]; omega
      · obtain rfl : i = 0 := by omega
        clear hri
        go_upto_region 9 with fail
        go_quiet (fail)
        go_wp2
        go_roundw
        case rel => exact ⟨_ + 1, by go_num, by omega, below_draws hb _⟩
        case measure => simp [RowKit.intOf]; omega
    · have hbb := hb2.trans (hb.mono hb2.size)
      by_cases h100 : s.size ≤ 100
      · have hI : (s.size : Int) ≤ 100 := by omega
        obtain rfl := hA0 h100
        clear hcell hq1 hq2 hK hO hA hA0 hn
        go_wp2_with (go_at_call 16; refine (h1 _).mono ?_; rintro e w3 ⟨rfl, hb3⟩; replace hb3 := hbb.trans (hb3.mono hbb.size))
        go_ret
        exact ⟨rfl, hb3⟩
      · have hI : ¬ (s.size : Int) ≤ 100 := by omega
        by_cases h0 : 0 < n
        · have hOt : O = true := by rw [hO (by omega)]; simp; omega
          subst hOt
          obtain ⟨g, rfl, hc⟩ := hcell (n - 1) (by omega)
          rw [hK (by omega) rfl] at hc
          have hc3 := fun w' (h : Below wr.heap.size wr w') => cell_later (hb.trans (h.mono hb.size)) hc
          have hAI : (A.size : Int) = (K : Int) := by omega
          have hsub : (n : Int) - 1 = ((n - 1 : Nat) : Int) := by omega
          have hd : decide ((0 : Int) < (n : Int)) = true := by simp; omega
          have hd' : decide (0 < n) = true := by simp; omega
          have hab : ((A.size : Int) == (K : Int)) = true := by simp; omega
          clear hcell hq1 hq2 hK hO hA hA0 hn hc hAI
          go_wp2_with (go_at_call 16; refine (h1 _).mono ?_; rintro e w3 ⟨rfl, hb3⟩; have hc4 := hc3 _ hb3; replace hb3 := hbb.trans (hb3.mono hbb.size))
          go_ret
          exact ⟨rfl, hb3⟩
        · obtain rfl : n = 0 := by omega
          have hOf : O = false := by rw [hO (by omega)]; simp
          subst hOf
          clear hcell hq1 hq2 hK hO hA hA0 hn
          go_wp2_with (go_at_call 16; refine (h1 _).mono ?_; rintro e w3 ⟨rfl, hb3⟩; replace hb3 := hbb.trans (hb3.mono hbb.size))
          go_ret
          exact ⟨rfl, hb3⟩

set_option maxHeartbeats 4000000 in
theorem last_walk (s : ByteArray) (w : World) : Calls Try.prog 6 #[.string s] w fun e w' => e = .returned (.bool true) ∧ Below w.heap.size w w' := by
  by_cases hs : s.size ≤ 5000
  · have h1 := fun w => split_ok s (by omega) w
    have h3 := fun w => cuts_ok s (by omega) w
    have hlen : (cutsTo (nums s) s.size).length ≤ s.size := cutsTo_len _ _
    refine last_main s (spA s) (spN s) (spO s) (natI (cutsTo (nums s) s.size)) (spA s).size hs rfl ?_ ?_ ?_ (by rw [natI_len]; omega) ?_ ?_ w h1 h3
    · intro h100
      unfold spA
      cases hf : fitB s
      · rw [if_neg (by simp)]
        have h0 : s.size = 0 := by
          unfold fitB at hf
          simp only [decide_eq_false_iff_not] at hf
          omega
        have : lastC (nums s) s.size = 0 := by rw [h0]; rfl
        rw [if_pos this]
      · rw [if_pos rfl]
    · intro h100
      have hf : fitB s = false := by unfold fitB; simp; omega
      rw [natI_len]
      by_cases h0 : lastC (nums s) s.size = 0
      · rw [(sp_none hf h0).2.2]
        have h1 := cutsTo_last (nums s) s.size
        rw [h0] at h1
        have h2 : cutsTo (nums s) s.size = [] := h1
        rw [h2]; rfl
      · rw [(sp_cut hf h0).2.2]
        obtain ⟨hc, hlt⟩ := (lastC_is (nums s) s.size).resolve_left h0
        have hm := cutsTo_mem.2 ⟨hlt, hc⟩
        have := List.length_pos_of_mem hm
        simp; omega
    · intro h100 hO
      have hf : fitB s = false := by unfold fitB; simp; omega
      by_cases h0 : lastC (nums s) s.size = 0
      · rw [(sp_none hf h0).2.2] at hO
        cases hO
      · obtain ⟨hc, hlt⟩ := (lastC_is (nums s) s.size).resolve_left h0
        have hm := cutsTo_mem.2 ⟨hlt, hc⟩
        have := List.length_pos_of_mem hm
        rw [natI_last _ this, (sp_cut hf h0).1, ext_size _ _ _ (by omega)]
        rfl
    · intro i hi
      rw [natI_len] at hi
      obtain ⟨hlt, hc⟩ := cut_at hi
      obtain ⟨c1, c2, c3, c4, c5⟩ := cutB_iff.1 hc
      exact ⟨_, natI_at hi, c2, hlt, join_cut s _ hlt c1⟩
    · intro i hi
      rw [natI_len] at hi
      rw [natI_at (by omega), natI_at hi]
      exact_mod_cast cuts_rise hi
  · have hsI : (5000 : Int) < (s.size : Int) := by omega
    go_enter Try.func6, Try.ntmps6
    go_wp2_with (go_at_call 15; refine (salive_ok _).mono ?_; rintro e w1 ⟨rfl, hb1⟩)
    go_ret
    exact ⟨rfl, hb1⟩

end Go.Proofs.Ytbkgbnjiibhmhaa
