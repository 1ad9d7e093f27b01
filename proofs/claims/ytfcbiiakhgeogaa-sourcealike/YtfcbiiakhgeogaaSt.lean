/-
  SOURCES: New, Left, size. Conditions: how many bytes there are.
-/
import Derived.Test.YtfcbiiakhgeogaaSs
namespace Go.Proofs.Ytfcbiiakhgeogaa
open Go.ChangeShapes Go.WideShapes Go.ChangeAt Go.RowKit Go.Lib
set_option linter.unusedVariables false
set_option linter.unusedSimpArgs false
set_option maxRecDepth 20000

theorem Rng.shape {w : World} {v : Value} {xs : List Value} {R : Nat → Prop} (h : Rng w v xs R) : ∃ a c, v = .slice a xs.length c ∧ xs.length ≤ c ∧ c ≤ 9223372036854775807 := by
  obtain ⟨a, c, e, h1, h2, -⟩ := h
  exact ⟨a, c, e, h1, by unfold maxLen at h2; omega⟩
theorem Rng.some {w : World} {v : Value} {xs : List Value} {R : Nat → Prop} (h : Rng w v xs R) (h0 : 0 < xs.length) : ∃ g off c, v = .slice (some ⟨g, off, none⟩) xs.length c ∧ xs.length ≤ c ∧ c ≤ 9223372036854775807 ∧ R g ∧ w.rangeAt g off xs := by
  obtain ⟨a, c, e, h1, h2, h4, h3⟩ := h
  rcases h3 with rfl | ⟨g, off, rfl, hR, hc⟩
  · simp at h0
  · exact ⟨g, off, c, e, h1, by unfold maxLen at h2; omega, hR, hc⟩
theorem Rng.drop {w : World} {g off n c k : Nat} {xs : List Value} {R : Nat → Prop} (h : Rng w (.slice (.some ⟨g, off, none⟩) n c) xs R) (hk : k ≤ xs.length) :
    Rng w (.slice (if c = k then .some ⟨g, off, none⟩ else .some ⟨g, off + k, none⟩) (n - k) (c - k)) (xs.drop k) R := by
  obtain ⟨a, c', e, h1, h2, h4, h3⟩ := h
  simp only [Value.slice.injEq] at e
  obtain ⟨rfl, rfl, rfl⟩ := e
  refine ⟨_, c - k, by rw [List.length_drop], by rw [List.length_drop]; omega, by unfold maxLen at *; omega, fun u hu => h4 u (List.mem_of_mem_drop hu), ?_⟩
  rcases h3 with rfl | ⟨g', off', e, hR, hc⟩
  · left; simp
  · simp only [Option.some.injEq, Addr.mk.injEq] at e
    obtain ⟨rfl, rfl, -⟩ := e
    by_cases hck : c = k
    · left; exact List.drop_eq_nil_of_le (by omega)
    · rw [if_neg hck]
      exact .inr ⟨g, off + k, rfl, hR, range_drop hc k⟩
theorem Rng.take {w : World} {g off n c k : Nat} {xs : List Value} {R : Nat → Prop} (h : Rng w (.slice (.some ⟨g, off, none⟩) n c) xs R) (hk : k ≤ xs.length) :
    Rng w (.slice (.some ⟨g, off, none⟩) k c) (xs.take k) R := by
  obtain ⟨a, c', e, h1, h2, h4, h3⟩ := h
  simp only [Value.slice.injEq] at e
  obtain ⟨rfl, rfl, rfl⟩ := e
  refine ⟨_, c, by rw [List.length_take, Nat.min_eq_left hk], by rw [List.length_take]; omega, h2, fun u hu => h4 u (List.mem_of_mem_take hu), ?_⟩
  rcases h3 with rfl | ⟨g', off', e, hR, hc⟩
  · left; simp
  · simp only [Option.some.injEq, Addr.mk.injEq] at e
    obtain ⟨rfl, rfl, -⟩ := e
    exact .inr ⟨g, off, rfl, hR, range_take hc k⟩

theorem new_ok {w : World} {v u : Value} {L Z : List Int} {R R' : Nat → Prop} (h : Rng w v (u8s L) R) (h' : Rng w u (i64s Z) R') (hl : L.length ≤ 1000000000) (hz : Z.length ≤ 1000000000) :
    Calls Try.prog 9 #[v, u] w fun e w' => (∃ s, e = .returned (.pointer (some ⟨s, 0, none⟩)) ∧ w.heap.size ≤ s ∧ Sn w' s L Z (fun k => w.heap.size ≤ k)) ∧ Below w.heap.size w w' := by
  have hc1 := clone_b h (by rw [u8s_len']; exact hl)
  have hc2 := fun w1 (hb : Below w.heap.size w w1) => clone_i (h'.below hb) (by rw [i64s_len]; exact hz)
  clear h h'
  go_enter Try.func9, Try.ntmps9
  go_wp2_with (first | (go_at_call 20; refine hc1.mono ?_; clear hc1; rintro e w1 ⟨⟨v1, rfl, hr1⟩, hb1⟩; obtain ⟨a1, c1, e1, -⟩ := hr1.shape; subst e1) | (go_at_call 21; refine (hc2 _ hb1).mono ?_; clear hc2; rintro e w2 ⟨⟨v2, rfl, hr2⟩, hb2⟩; obtain ⟨a2, c2, e2, -⟩ := hr2.shape; subst e2))
  go_ret
  have s1 := hb1.size
  have s2 := hb2.size
  have hb3 : Below w2.heap.size w2 (w2.alloc (.cells #[.slice a1 (u8s L).length c1, .slice a2 (i64s Z).length c2] 46)) := (Below.refl _ _).alloc (Nat.le_refl _) _
  refine ⟨⟨_, rfl, by omega, _, _, by omega, Blk.new _ _ _, ?_, ?_⟩, (hb1.trans (hb2.mono s1)).trans (hb3.mono (by omega))⟩
  · refine (((hr1.below hb2).mono (R' := fun k => w.heap.size ≤ k ∧ k ≠ w2.heap.size) ?_).below hb3)
    intro k hk h; exact ⟨h, by omega⟩
  · refine ((hr2.mono (R' := fun k => w.heap.size ≤ k ∧ k ≠ w2.heap.size) ?_).below hb3)
    intro k hk h; exact ⟨by omega, by omega⟩

theorem left_ok {w : World} {sv : Value} {L Z : List Int} {R : Nat → Prop} (h : Sc w sv L Z R) : Calls Try.prog 11 #[sv] w fun e w' => w' = w ∧ e = .returned (.int .i64 L.length) := by
  rcases h with ⟨rfl, rfl⟩ | ⟨s, rfl, rv, zv, hs, hb, hr, hz⟩
  · go_enter Try.func11, Try.ntmps11
    go_wp2
    go_ret
    exact ⟨rfl, rfl⟩
  · obtain ⟨a, c, rfl, -⟩ := hr.shape
    have hcell : w.cell? ⟨s, 0, none⟩ = _ := hb.cell 0
    have hn := u8s_len' L
    generalize (u8s L).length = n at *
    subst hn
    simp at hcell
    go_enter Try.func11, Try.ntmps11
    go_wp2
    go_ret
    exact ⟨rfl, rfl⟩

theorem szN_one (z : Int) (r : List Int) : ((szN (z :: r) : Nat) : Int) = max z 1 := by unfold szN; simp; omega
theorem szN_pos (Z : List Int) : 1 ≤ szN Z := by
  unfold szN; split
  · omega
  · simp; omega

theorem size_ok {w : World} {s : Nat} {rv zv : Value} {Z : List Int} {R : Nat → Prop} (hb : Blk w s #[rv, zv] 46) (hz : Rng w zv (i64s Z) R) (hR : ¬ R s) :
    Calls Try.prog 23 #[.pointer (some ⟨s, 0, none⟩)] w fun e w' => e = .returned (.int .i64 (szN Z)) ∧ (∃ zv', Blk w' s #[rv, zv'] 46 ∧ Rng w' zv' (i64s (nxZ Z)) R) ∧ Nr (fun k => k = s) w w' := by
  have hcell : w.cell? ⟨s, 1, none⟩ = _ := hb.cell 1
  have hfree : w.frozen? ⟨s, 1, none⟩ = false := hb.free 1
  simp at hcell
  match Z with
  | [] =>
    obtain ⟨a, c, rfl, -⟩ := hz.shape
    simp [i64s] at hcell
    go_enter Try.func23, Try.ntmps23
    go_wp2
    go_ret
    exact ⟨rfl, ⟨_, hb, hz⟩, Nr.refl _ _⟩
  | z :: r =>
    have hz0 := hz
    obtain ⟨g, off, c, rfl, hc1, hc2, hg, hrow⟩ := hz.some (by simp [i64s])
    have hc0 : w.cell? ⟨g, off, none⟩ = some (.int .i64 z) := by have := hrow 0 (.int .i64 z) (by simp [i64s]); simpa using this
    have hn : (i64s (z :: r)).length = r.length + 1 := by simp [i64s]
    have hm := szN_one z r
    generalize szN (z :: r) = S at *
    have hmax : ∀ ts ty w, (Builtin.max_ ts ty #[.int .i64 z, .int .i64 1]).run Try.prog w = .ok (.int .i64 (S : Int)) w := fun ts ty w => by
      have h0 : (Builtin.max_ ts ty #[.int .i64 z, .int .i64 1]).run Try.prog w = .ok (.int .i64 (if (1 : Int) > z then 1 else z)) w := by simp [Builtin.max_, Builtin.max2]
      rw [h0, hm]
      have : (if (1 : Int) > z then 1 else z) = max z 1 := by split <;> omega
      rw [this]
    replace hm := hid hm
    by_cases h1 : r.length = 0
    · have hr : r = [] := List.eq_nil_of_length_eq_zero h1
      subst hr
      rw [hn] at hcell
      clear hz hrow
      replace hn := hid hn
      go_enter Try.func23, Try.ntmps23
      go_wp2
      go_ret
      exact ⟨rfl, ⟨_, hb, hz0⟩, Nr.refl _ _⟩
    · have hd := hz.drop (k := 1) (by rw [hn]; omega)
      rw [hn] at hcell hd hc1
      have hck : ¬ (c : Int) = 1 := by omega
      have hck' : ¬ c = 1 := by omega
      have hgt : (1 : Int) < (r.length : Int) + 1 := by omega
      rw [if_neg hck'] at hd
      have hnx : nxZ (z :: r) = r := by unfold nxZ; rw [if_pos (by simp; omega)]; rfl
      have hb2 := hb.set (i := 1) (.slice (some ⟨g, off + 1, none⟩) (r.length + 1 - 1) (c - 1))
      have hc1' : (r.length : Int) + 1 ≤ c := by omega
      replace hn := hid hn
      replace hnx := hid hnx
      replace hd := hid hd
      clear hz hrow
      go_enter Try.func23, Try.ntmps23
      go_wp2
      go_ret
      have hsg : g ≠ s := fun e => hR (e ▸ hg)
      refine ⟨rfl, ⟨_, hb2, ?_⟩, Nr.setCell (S := fun k => k = s) (p := ⟨s, 1, none⟩) (Nr.refl _ _) rfl _⟩
      rw [hnx.out]
      have := hd.out
      rw [show (i64s (z :: r)).drop 1 = i64s r by simp [i64s]] at this
      exact this.nr ((Nr.refl (fun k => k = s) w).setCell (p := ⟨s, 1, none⟩) rfl _) (fun k hk e => hR (e ▸ hk))

end Go.Proofs.Ytfcbiiakhgeogaa
