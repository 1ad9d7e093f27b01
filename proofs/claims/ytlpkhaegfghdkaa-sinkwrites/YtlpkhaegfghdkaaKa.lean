/-
  THE CHAPTER's EXAMPLE; WHAT NO SINK AND NO WRITER TELL: SinkNil's walk. Conditions: none.
-/
import Derived.Test.YtlpkhaegfghdkaaKf
namespace Go.Proofs.Ytlpkhaegfghdkaa
open Go.ChangeShapes Go.WideShapes Go.ChangeAt Go.RowKit Go.Lib Go.Deep
set_option linter.unusedVariables false
set_option linter.unusedSimpArgs false
set_option maxRecDepth 20000

theorem str_abc : strOfNums [97, 98, 99] = ⟨#[97, 98, 99]⟩ := by decide

/-- bytes of a text that is laid -/
theorem lit_rngm (w : World) (xs : List Value) (e : TypeId) (C : Array Value) (fr : Nat × Nat) (hC : C.toList = xs) (n : Nat) (hn : xs.length = n) (hx : ∀ u ∈ xs, u.oneCell' = true) (hl : n ≤ 1000000) :
    Rng (w.alloc (.cells C e fr)) (.slice (some ⟨w.heap.size, 0, none⟩) n n) xs (fun k => k = w.heap.size) := by
  subst hn
  refine ⟨_, xs.length, rfl, Nat.le_refl _, by unfold maxLen; omega, hx, .inr ⟨w.heap.size, 0, rfl, rfl, fun j v hv => ?_⟩⟩
  rw [Nat.zero_add, Joins.cell_alloc_mark_at w C e fr w.heap.size j rfl, ← Array.getElem?_toList, hC]; exact hv

theorem alive_ok (w : World) : Calls Try.prog 6 #[] w fun e w' => e = .returned (.bool true) ∧ Below w.heap.size w w' := by
  have hnew := snew_ok w 3
  have ht1 : ∀ w1 s R, Sk w1 s 3 [] R → Calls Try.prog 10 #[.pointer (some ⟨s, 0, none⟩), .slice (some ⟨w1.heap.size, 0, none⟩) 5 5] (w1.alloc (.cells #[.int .u8 97, .int .u8 98, .int .u8 99, .int .u8 100, .int .u8 101] 5 (5, 6))) fun e w' =>
      e = .returned (.tuple #[.int .i64 3, .int .u8 14]) ∧ Sk w' s 3 [97, 98, 99] (fun k => R k ∨ w1.heap.size ≤ k) ∧ Nr R w1 w' := by
    intro w1 s R h
    have hb : Below w1.heap.size w1 (w1.alloc (.cells #[.int .u8 97, .int .u8 98, .int .u8 99, .int .u8 100, .int .u8 101] 5 (5, 6))) := (Below.refl _ _).alloc (Nat.le_refl _) _
    have hv := lit_rngm w1 (u8s [97, 98, 99, 100, 101]) 5 #[.int .u8 97, .int .u8 98, .int .u8 99, .int .u8 100, .int .u8 101] (5, 6) rfl 5 rfl (u8s_one' _) (by omega)
    refine (take_ok (h.below hb) hv (by decide) (by decide) (by right; decide) (by decide)).mono ?_
    rintro e w' ⟨rfl, h1, h2⟩
    refine ⟨by rfl, h1.mono (fun k _ hk => ?_), (Nr.of_below hb).trans h2⟩
    rcases hk with hk | hk
    · exact .inl hk
    · have := hb.size; exact .inr (by omega)
  have ht2 : ∀ w1 s R, Sk w1 s 3 [97, 98, 99] R → Calls Try.prog 10 #[.pointer (some ⟨s, 0, none⟩), .slice (some ⟨w1.heap.size, 0, none⟩) 1 1] (w1.alloc (.cells #[.int .u8 102] 5 (1, 2))) fun e w' =>
      e = .returned (.tuple #[.int .i64 0, .int .u8 14]) ∧ Sk w' s 3 [97, 98, 99] (fun k => R k ∨ w1.heap.size ≤ k) ∧ Nr R w1 w' := by
    intro w1 s R h
    have hb : Below w1.heap.size w1 (w1.alloc (.cells #[.int .u8 102] 5 (1, 2))) := (Below.refl _ _).alloc (Nat.le_refl _) _
    have hv := lit_rngm w1 (u8s [102]) 5 #[.int .u8 102] (1, 2) rfl 1 rfl (u8s_one' _) (by omega)
    refine (take_ok (h.below hb) hv (by decide) (by decide) (by right; decide) (by decide)).mono ?_
    rintro e w' ⟨rfl, h1, h2⟩
    refine ⟨by rfl, h1.mono (fun k _ hk => ?_), (Nr.of_below hb).trans h2⟩
    rcases hk with hk | hk
    · exact .inl hk
    · have := hb.size; exact .inr (by omega)
  have hc5 := fun w1 : World => (Joins.run_convert_bytes_const_at (P := Try.prog) w1 27 5 #[.int .u8 97, .int .u8 98, .int .u8 99, .int .u8 100, .int .u8 101] 5 5 w1.heap.size rfl Try.underlying27 Try.underlying5 : _ = Result.ok _ (w1.alloc (.cells #[.int .u8 97, .int .u8 98, .int .u8 99, .int .u8 100, .int .u8 101] 5 (5, 6))))
  have hc1 := fun w1 : World => (Joins.run_convert_bytes_const_at (P := Try.prog) w1 27 5 #[.int .u8 102] 1 1 w1.heap.size rfl Try.underlying27 Try.underlying5 : _ = Result.ok _ (w1.alloc (.cells #[.int .u8 102] 5 (1, 2))))
  have hby := fun w1 s R (h : Sk w1 s 3 [97, 98, 99] R) => sbytes_ok h (by decide)
  have hbys := fun w1 v R (h : Rng w1 v (u8s [97, 98, 99]) R) => rng_bys h (by intro n hn; simp at hn; omega)
  have hstr := fun w1 a c (h : Bys w1 a 3 c [97, 98, 99]) => bys_string (P := Try.prog) (s := 9) Try.underlying27 Try.underlying5 Try.underlying9 h
  rw [str_abc] at hstr
  simp only [List.length_cons, List.length_nil, Nat.zero_add, Nat.reduceAdd] at hbys
  go_enter Try.func6, Try.ntmps6
  go_wp2_with (first | (go_at_call 8; refine hnew.mono ?_; clear hnew; rintro e w1 ⟨⟨s, rfl, hs, hk1⟩, hb1⟩) | (go_at_call 10; refine (ht1 _ _ _ hk1).mono ?_; clear ht1; rintro e w2 ⟨rfl, hk2, hn2⟩) | (go_at_call 10; refine (ht2 _ _ _ hk2).mono ?_; clear ht2; rintro e w3 ⟨rfl, hk3, hn3⟩) | (go_at_call 12; refine (hby _ _ _ hk3).mono ?_; clear hby; rintro e w4 ⟨⟨v, rfl, hv⟩, hb4⟩; obtain ⟨va, vc, rfl, hv2⟩ := hbys _ _ _ hv; have hc := hstr _ _ _ hv2))
  go_ret
  have g1 := hb1.size
  have g2 := hn2.size
  have g3 := hn3.size
  exact ⟨rfl, ((hb1.trans (hn2.below g1 (fun k hk => hk))).trans (hn3.below (by omega) (fun k hk => by rcases hk with h | h <;> omega))).trans (hb4.mono (by omega))⟩

theorem nil_walk (W : World) {a0 : Option Addr} {n0 c0 : Nat} {z0 : List Int} (h0 : IsRow .u8 W a0 n0 c0 z0) :
    Calls Try.prog 5 #[.slice a0 n0 c0] W fun e w' => e = .returned (.bool true) ∧ Below W.heap.size W w' := by
  have halive := alive_ok W
  have htake := fun w => take_nil w a0 n0 c0
  have hwn := fun w => writer_none w
  have hby := fun w => sbytes_nil w
  have hput := fun w => put_nil w a0 n0 c0
  have hpad := fun w => pad_nil w
  have hcnt := fun w => count_nil w
  have hpn := fun w p (h : Wn w p 0) => put_none h a0 n0 c0
  have hcx := fun w p (h : Wn w p 1) => count_at h
  have hn := (row_bys h0).2.1
  clear h0
  go_enter Try.func5, Try.ntmps5
  go_wp2_with (first
    | (go_at_call 6; refine halive.mono ?_; clear halive; rintro e w0 ⟨rfl, hb0⟩)
    | (go_at_call 10; refine (htake _).mono ?_; clear htake; rintro e w' ⟨hw, rfl⟩; obtain rfl := hw.symm)
    | (go_at_call 13; refine (hwn _).mono ?_; clear hwn; rintro e w1 ⟨⟨p, rfl, hp, hk1⟩, hb1⟩)
    | (go_at_call 12; refine (hby _).mono ?_; clear hby; rintro e w' ⟨hw, rfl⟩; obtain rfl := hw.symm)
    | (go_at_call 15; refine (hput _).mono ?_; clear hput; rintro e w' ⟨hw, rfl⟩; obtain rfl := hw.symm)
    | (go_at_call 16; refine (hpad _).mono ?_; clear hpad; rintro e w2 ⟨rfl, hb2⟩)
    | (go_at_call 17; refine (hcnt _).mono ?_; clear hcnt; rintro e w' ⟨hw, rfl⟩; obtain rfl := hw.symm)
    | (go_at_call 15; refine (hpn _ _ (hk1.below hb2)).mono ?_; clear hpn; rintro e w3 ⟨rfl, hk3, hn3⟩)
    | (go_at_call 17; refine (hcx _ _ hk3).mono ?_; clear hcx; rintro e w' ⟨hw, rfl⟩; obtain rfl := hw.symm))
  all_goals go_ret
  · exact ⟨rfl, hb0⟩
  · have g0 := hb0.size
    have g1 := hb1.size
    have g2 := hb2.size
    exact ⟨rfl, ((hb0.trans (hb1.mono g0)).trans (hb2.mono (by omega))).trans (hn3.below (by omega) (fun k hk => by omega))⟩

end Go.Proofs.Ytlpkhaegfghdkaa
