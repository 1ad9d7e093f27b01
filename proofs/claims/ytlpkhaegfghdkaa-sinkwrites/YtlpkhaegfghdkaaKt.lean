/-
  SINKS: Take and Bytes. Conditions: how many bytes there are.
-/
import Derived.Test.YtlpkhaegfghdkaaKn
namespace Go.Proofs.Ytlpkhaegfghdkaa
open Go.ChangeShapes Go.WideShapes Go.ChangeAt Go.RowKit Go.Lib
set_option linter.unusedVariables false
set_option linter.unusedSimpArgs false
set_option maxRecDepth 20000

theorem sbytes_ok {w : World} {s : Nat} {room : Int} {T : List Int} {R : Nat → Prop} (h : Sk w s room T R) (hT : T.length ≤ 1000000000) :
    Calls Try.prog 12 #[.pointer (some ⟨s, 0, none⟩)] w fun e w' => (∃ v, e = .returned v ∧ Rng w' v (u8s T) (fun k => w.heap.size ≤ k)) ∧ Below w.heap.size w w' := by
  obtain ⟨tv, h1, h2, h3⟩ := h
  have hcl := clone_b h3.rng (by rw [u8s_len']; exact hT)
  obtain ⟨a, c, rfl, hc, hcm⟩ := h3.rng.shape
  have c1 : w.cell? ⟨s, 1, none⟩ = some (.slice a (u8s T).length c) := by have := h2.cell 1; simpa using this
  generalize (u8s T).length = t at *
  clear h2 h3
  go_enter Try.func12, Try.ntmps12
  go_wp2_with (first | (go_at_call 19; refine hcl.mono ?_; clear hcl; rintro e w1 ⟨⟨v1, rfl, hr1⟩, hb1⟩))
  go_ret
  exact ⟨⟨_, rfl, hr1⟩, hb1⟩

theorem sbytes_nil (w : World) : Calls Try.prog 12 #[.pointer none] w fun e w' => w' = w ∧ e = .returned (.slice none 0 0) := by
  go_enter Try.func12, Try.ntmps12
  go_wp2
  go_ret
  exact ⟨rfl, rfl⟩

theorem take_nil (w : World) (a : Option Addr) (n c : Nat) : Calls Try.prog 10 #[.pointer none, .slice a n c] w fun e w' => w' = w ∧ e = .returned (.tuple #[.int .i64 0, .int .u8 1]) := by
  go_enter Try.func10, Try.ntmps10
  go_wp2
  go_ret2
  exact ⟨rfl, rfl⟩

/-- what a sink of room has of A -/
def tkN (room : Int) (A : List Int) : List Int := if 0 ≤ room ∧ room < A.length then A.take room.toNat else A
theorem tkN_le (room : Int) (A : List Int) : room < 0 ∨ ((tkN room A).length : Int) ≤ room := by
  unfold tkN; split
  · rename_i h; right; rw [List.length_take]; omega
  · rename_i h; omega
theorem tkN_len (room : Int) (A : List Int) : (tkN room A).length ≤ A.length := by
  unfold tkN; split
  · rw [List.length_take]; omega
  · omega
theorem tkN_app (room : Int) (A B : List Int) : tkN room (A ++ B) = tkN room A ++ B.take (fitN room (tkN room A).length B.length) := by
  unfold fitN
  by_cases hneg : room < 0
  · rw [if_pos hneg, List.take_length]
    unfold tkN
    rw [if_neg (by omega), if_neg (by omega)]
  · rw [if_neg hneg]
    unfold tkN
    by_cases h1 : room < A.length
    · rw [if_pos ⟨by omega, by rw [List.length_append]; omega⟩, if_pos ⟨by omega, h1⟩]
      rw [List.take_append_of_le_length (by omega)]
      have : min B.length (room.toNat - (A.take room.toNat).length) = 0 := by rw [List.length_take]; omega
      rw [this]; simp
    · rw [if_neg (c := 0 ≤ room ∧ room < A.length) (by omega)]
      by_cases h2 : room < (A ++ B).length
      · rw [if_pos ⟨by omega, h2⟩, List.take_append]
        rw [List.length_append] at h2
        rw [List.take_of_length_le (by omega)]
        congr 2
        omega
      · rw [List.length_append] at h2
        rw [if_neg (by rw [List.length_append]; omega), List.take_of_length_le (by omega)]

/-- what Take tells -/
def takeC (n m : Nat) : Int := if n < m then 14 else 0

set_option maxHeartbeats 1000000 in
theorem take_ok {w : World} {s : Nat} {room : Int} {T L : List Int} {v : Value} {R R' : Nat → Prop} (h : Sk w s room T R) (hv : Rng w v (u8s L) R') (hT : T.length ≤ 100000000) (hL : L.length ≤ 100000000) (hr : room < 0 ∨ (T.length : Int) ≤ room) (hr2 : room ≤ 9223372036854775807) :
    Calls Try.prog 10 #[.pointer (some ⟨s, 0, none⟩), v] w fun e w' =>
      e = .returned (.tuple #[.int .i64 (fitN room T.length L.length : Nat), .int .u8 (takeC (fitN room T.length L.length) L.length)]) ∧ Sk w' s room (T ++ L.take (fitN room T.length L.length)) (fun k => R k ∨ w.heap.size ≤ k) ∧ Nr R w w' := by
  have hfit := fitting_ok h L.length (by omega) (by omega) hr hr2
  have hfl := fitN_le room T.length L.length
  obtain ⟨tv, h1, h2, h3⟩ := h
  generalize fitN room T.length L.length = N at *
  have happ : ∀ w1, Below w.heap.size w w1 → ∀ a c, v = .slice a L.length c → ∃ a' n' c' w2, (Builtin.append_ #[27, 27] 27 #[tv, .slice a N c]).run Try.prog w1.drew = .ok (.slice a' n' c') w2 ∧ Kp w2 (.slice a' n' c') (u8s (T ++ L.take N)) (fun k => (R k ∧ k ≠ s) ∨ w.heap.size ≤ k) ∧ Nr (fun k => R k ∧ k ≠ s) w1 w2 := by
    intro w1 hb a c e
    subst e
    have hv1 := (hv.below (hb.drew)).upto (k := N) (by rw [u8s_len']; exact hfl)
    have k1 : Kp w1.drew tv (u8s T) (fun k => R k ∧ k ≠ s) := h3.nr (S := No) (Nr.of_below hb.drew) (fun _ _ h => h)
    obtain ⟨v', w', e1, e2, e3⟩ := app_b (ty := 27) k1 hv1 (by rw [List.length_take, u8s_len', u8s_len']; omega)
    rw [← u8s_take, u8s_app] at e2
    obtain ⟨a', c', rfl, -⟩ := e2.rng.shape
    have hsz := hb.size
    refine ⟨a', _, c', w', e1, e2.mono (fun k _ hk => ?_), ?_⟩
    · rcases hk with hk | hk
      · exact .inl hk
      · have : w1.drew.heap.size = w1.heap.size := rfl
        exact .inr (by omega)
    · exact ((Nr.refl _ w1).drew).trans e3
  obtain ⟨a, c, rfl, hc, hcm⟩ := hv.shape
  rw [u8s_len'] at *
  replace happ := fun w1 hb => happ w1 hb a c rfl
  have ec := show (takeC N L.length) = if N < L.length then 14 else 0 from rfl
  generalize hl : L.length = l at *
  have hNI : (N : Int) ≤ (l : Int) := by omega
  have hlI : (l : Int) ≤ (c : Int) := by omega
  have hNc : (N : Int) ≤ (c : Int) := by omega
  obtain ⟨ta, tc, rfl, htc, htm⟩ := h3.rng.shape
  generalize (u8s T).length = t at *
  have hsw := h2.lt
  clear h3 hv
  replace hl := hid hl
  have hnx : ∀ w1, Below w.heap.size w w1 → ∃ a' n' c' w2, (Builtin.append_ #[27, 27] 27 #[.slice ta t tc, .slice a N c]).run Try.prog w1.drew = .ok (.slice a' n' c') w2 ∧ w1.cell? ⟨s, 1, none⟩ = some (.slice ta t tc) ∧
      w2.cell? ⟨s, 1, none⟩ = some (.slice ta t tc) ∧ w2.frozen? ⟨s, 1, none⟩ = false ∧ Sk (w2.setCell ⟨s, 1, none⟩ (.slice a' n' c')) s room (T ++ L.take N) (fun k => R k ∨ w.heap.size ≤ k) ∧ Nr R w (w2.setCell ⟨s, 1, none⟩ (.slice a' n' c')) := by
    intro w1 hb
    obtain ⟨a', n', c', w2, e1, e2, e3⟩ := happ w1 hb
    have b1 : Blk w1 s _ _ := h2.below hb
    have b2 : Blk w2 s _ _ := b1.nr e3 (fun hk => hk.2 rfl)
    have hset : Nr (fun k => k = s) w2 (w2.setCell ⟨s, 1, none⟩ (.slice a' n' c')) := Nr.setCell (S := fun k => k = s) (p := ⟨s, 1, none⟩) (Nr.refl _ _) rfl _
    refine ⟨a', n', c', w2, e1, by have := b1.cell 1; simpa using this, by have := b2.cell 1; simpa using this, b2.free 1, ⟨_, .inl h1, b2.set (i := 1) _, ?_⟩, ?_⟩
    · refine (e2.nr hset ?_).mono ?_
      · rintro k (hk | hk) e
        · exact hk.2 e
        · omega
      · rintro k - (hk | hk)
        · exact ⟨.inl hk.1, hk.2⟩
        · exact ⟨.inr hk, by omega⟩
    · exact ((Nr.of_below hb).trans (e3.mono fun k hk => hk.1)).trans (hset.mono fun k e => e ▸ h1)
  clear happ h2
  by_cases hlt : N < l
  · rw [if_pos hlt] at ec
    rw [ec]
    have hltI : (N : Int) < (l : Int) := by omega
    clear ec
    replace hlt := hid hlt
    go_enter Try.func10, Try.ntmps10
    go_wp2_with (first | (go_at_call 18; refine hfit.mono ?_; clear hfit; rintro e w1 ⟨rfl, hb1⟩; obtain ⟨a', n', c', w2, e1, y1, y2, y3, y4, y5⟩ := hnx w1 hb1))
    go_region_law (refine step_append_run rfl (.tmp 17) (.tmp 20) 27 27 rfl _ _ (by simp [Act.eval, Act.put]) (by simp [Act.eval, Act.put]) e1 ?_)
    all_goals go_wp2
    all_goals go_ret2
    all_goals exact ⟨rfl, y4, y5⟩
  · rw [if_neg hlt] at ec
    rw [ec]
    have hltI : ¬ (N : Int) < (l : Int) := by omega
    clear ec
    replace hlt := hid hlt
    go_enter Try.func10, Try.ntmps10
    go_wp2_with (first | (go_at_call 18; refine hfit.mono ?_; clear hfit; rintro e w1 ⟨rfl, hb1⟩; obtain ⟨a', n', c', w2, e1, y1, y2, y3, y4, y5⟩ := hnx w1 hb1))
    go_region_law (refine step_append_run rfl (.tmp 17) (.tmp 20) 27 27 rfl _ _ (by simp [Act.eval, Act.put]) (by simp [Act.eval, Act.put]) e1 ?_)
    all_goals go_wp2
    all_goals go_ret2
    all_goals exact ⟨rfl, y4, y5⟩

end Go.Proofs.Ytlpkhaegfghdkaa
