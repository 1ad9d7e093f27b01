/-
  THE DOCUMENT's OWN Held. Conditions: how many bytes there are, how often is asked.
-/
import Derived.Test.YtfcbiiakhgeogaaSe
namespace Go.Proofs.Ytfcbiiakhgeogaa
open Go.ChangeShapes Go.WideShapes Go.ChangeAt Go.RowKit Go.Lib
set_option linter.unusedVariables false
set_option linter.unusedSimpArgs false
set_option maxRecDepth 20000

/-- a times asked, a reader has asked for j pieces and told t blocks -/
def Asks (n : Nat) (Z : List Int) : Nat → Nat → Nat → Prop
  | 0, j, t => j = 0 ∧ t = 0
  | a + 1, j', t' => ∃ j t, Asks n Z a j t ∧ Stop n Z t j j' ∧ t' = tN n t
theorem Asks.uniq {n : Nat} {Z : List Int} : ∀ {a j t j' t' : Nat}, Asks n Z a j t → Asks n Z a j' t' → j = j' ∧ t = t'
  | 0, _, _, _, _, ⟨rfl, rfl⟩, ⟨rfl, rfl⟩ => ⟨rfl, rfl⟩
  | a + 1, _, _, _, _, ⟨j, t, h, hs, rfl⟩, ⟨j', t', h', hs', rfl⟩ => by
    obtain ⟨rfl, rfl⟩ := h.uniq h'
    exact ⟨hs.uniq hs', rfl⟩
theorem Asks.inv {n : Nat} {Z : List Int} : ∀ {a j t : Nat}, Asks n Z a j t → 512 * t ≤ eN n Z j ∧ t = min a (n / 512)
  | 0, _, _, ⟨rfl, rfl⟩ => by simp
  | a + 1, j', _, ⟨j, t, h, hs, rfl⟩ => by
    obtain ⟨h1, h2⟩ := h.inv
    have h4 := eN_mono (n := n) (Z := Z) hs.le
    have h5 := hs.st
    have h6 := eN_le n Z j'
    unfold tN
    split
    · exact ⟨by omega, by omega⟩
    · exact ⟨by omega, by omega⟩
theorem asks_next {n : Nat} {Z : List Int} {a j t : Nat} (h : Asks n Z a j t) : ∃ j', Stop n Z t j j' ∧ Asks n Z (a + 1) j' (tN n t) := by
  obtain ⟨j', hs⟩ := stop_exists n Z t _ j (Nat.le_refl _)
  exact ⟨j', hs, j, t, h, hs, rfl⟩

set_option maxHeartbeats 2000000 in
theorem rheld_ok {w : World} {v : Value} {Z : List Int} {R : Nat → Prop} (h : Rng w v (i64s Z) R) (n : Nat) (hn : n ≤ 1000000) (a : Nat) (ha : a ≤ 1000000) {j0 t0 : Nat} (h0 : Asks n Z a j0 t0) :
    Calls Try.prog 17 #[.int .i64 n, v, .int .i64 a] w fun e w' => e = .returned (.int .i64 ((eN n Z j0 - 512 * t0 : Nat) : Int)) ∧ Below w.heap.size w w' := by
  have hends := rends_ok h n hn
  obtain ⟨za, zc, rfl, -⟩ := h.shape
  clear h
  generalize (i64s Z).length = zn at *
  go_enter Try.func17, Try.ntmps17
  go_wp2_with (first | (go_at_call 10; refine hends.mono ?_; clear hends; rintro e w1 ⟨⟨u, rfl, m, hM, hu⟩, hb⟩; obtain ⟨ua, uc, e1, hu1, hu2⟩ := hu.shape; subst e1))
  have hml : (i64s (endsL n Z m)).length = m := by rw [i64s_len, endsL_len]
  rw [hml] at hu hu1 ⊢
  have hmn := hM.le
  go_loopg [8, 9, 10, 11] (a - 0) (fun k g t x i wr => ∃ i' j' t' : Nat, k = a - i' ∧ g = .int .i64 (eN n Z j') ∧ t = .int .i64 (512 * (t' : Int)) ∧ x = .int .i64 j' ∧ i = .int .i64 i' ∧ i' ≤ a ∧ Asks n Z i' j' t' ∧ j' ≤ m ∧ wr = w1)
  case atStart => exact ⟨0, 0, 0, rfl, rfl, rfl, rfl, rfl, Nat.zero_le _, ⟨rfl, rfl⟩, Nat.zero_le _, rfl⟩
  case round =>
    obtain ⟨i', j', t', hk, rfl, rfl, rfl, rfl, hi', hA, hjm, hwr⟩ := hrel
    obtain rfl := hwr.symm
    have hAi := hA.inv
    have hE := eN_le n Z j'
    by_cases hlt : i' < a
    · have g1 : (i' : Int) < (a : Int) := by omega
      replace hk := hid hk
      replace hM := hid hM
      replace hml := hid hml
      replace hAi := hid hAi
      go_wp2
      go_loopg [8, 10] (m - j') (fun k g x wr => ∃ q : Nat, k = m - q ∧ g = .int .i64 (eN n Z q) ∧ x = .int .i64 q ∧ j' ≤ q ∧ q ≤ m ∧ (∀ p, j' ≤ p → p < q → eN n Z p - 512 * t' < 512 ∧ eN n Z p < n) ∧ wr = w1)
      case atStart => exact ⟨j', rfl, rfl, rfl, Nat.le_refl _, hjm, fun p h1 h2 => by omega, rfl⟩
      case round =>
        obtain ⟨q, hkq, rfl, rfl, hjq, hqm, hgo, hwr⟩ := hrel
        obtain rfl := hwr.symm
        have hEq := eN_le n Z q
        have hmono := eN_mono (n := n) (Z := Z) hjq
        have hiff := hM.out.iff q hqm
        have hA' := hAi.out
        by_cases hc1 : eN n Z q - 512 * t' < 512
        · by_cases hc2 : q < m
          · have b1 : (eN n Z q : Int) - 512 * (t' : Int) < 512 := by omega
            have b2 : (q : Int) < (m : Int) := by omega
            obtain ⟨ug, uo, uc', hua, -, -, -, hrow⟩ := hu.some (by rw [hml.out]; omega)
            simp only [Value.slice.injEq] at hua
            obtain ⟨rfl, -, rfl⟩ := hua
            have hcell := hrow q _ (endsL_get n Z m q hc2)
            have hkq' := hid hkq
            have hgoq := hiff.2 hc2
            have hA2 := hid hA'
            have hE1 := eN_le n Z (q + 1)
            clear hkq hA'
            replace hiff := hid hiff
            clear hrow
            have hb3 : (512 * (t' : Int)) ≤ 1000000 := by have := hA2.out; omega
            go_wp2
            go_roundg (m - (q + 1))
            case measure => have := hkq'.out; omega
            case rel => exact ⟨q + 1, rfl, rfl, by go_num, by omega, by omega, fun p h1 h2 => (by by_cases e : p = q; subst e; exact ⟨hc1, hgoq⟩; exact hgo p h1 (by omega)), rfl⟩
          · have hz : 0 = 0 := rfl
            have hst : Stop n Z t' j' q := ⟨hjq, hgo, by omega⟩
            have hA2 : Asks n Z (i' + 1) q (tN n t') := ⟨j', t', hA, hst, rfl⟩
            have b1 : (eN n Z q : Int) - 512 * (t' : Int) < 512 := by omega
            have b2 : ¬ (q : Int) < (m : Int) := by omega
            by_cases hfull : 512 * t' + 512 ≤ n
            · have htn : tN n t' = t' + 1 := by unfold tN; rw [if_pos hfull]
              have b3 : (512 : Int) ≤ (eN n Z q : Int) - 512 * (t' : Int) := by have := hst.st; omega
              have b4 : (512 * (t' : Int)) ≤ 1000000 := by omega
              have hk2 := hid hkq
              rw [htn] at hA2
              clear hkq
              replace hA' := hid hA'
              replace hiff := hid hiff
              replace hfull := hid hfull
              replace htn := hid htn
              go_wp2
              go_roundg (a - (i' + 1))
              case measure => have := hk.out; omega
              case rel => exact ⟨i' + 1, q, t' + 1, rfl, rfl, by go_num, rfl, by go_num, by omega, hA2, hqm, rfl⟩
            · have htn : tN n t' = t' := by unfold tN; rw [if_neg hfull]
              have b3 : ¬ (512 : Int) ≤ (eN n Z q : Int) - 512 * (t' : Int) := by omega
              have b4 : (512 * (t' : Int)) ≤ 1000000 := by omega
              have hk2 := hid hkq
              rw [htn] at hA2
              clear hkq
              replace hA' := hid hA'
              replace hiff := hid hiff
              replace hfull := hid hfull
              replace htn := hid htn
              go_wp2
              go_roundg (a - (i' + 1))
              case measure => have := hk.out; omega
              case rel => exact ⟨i' + 1, q, t', rfl, rfl, rfl, rfl, by go_num, by omega, hA2, hqm, rfl⟩
        · have hz : 0 = 0 := rfl
          have hst : Stop n Z t' j' q := ⟨hjq, hgo, by omega⟩
          have hA2 : Asks n Z (i' + 1) q (tN n t') := ⟨j', t', hA, hst, rfl⟩
          have b1 : ¬ (eN n Z q : Int) - 512 * (t' : Int) < 512 := by omega
          by_cases hfull : 512 * t' + 512 ≤ n
          · have htn : tN n t' = t' + 1 := by unfold tN; rw [if_pos hfull]
            have b3 : (512 : Int) ≤ (eN n Z q : Int) - 512 * (t' : Int) := by have := hst.st; omega
            have b4 : (512 * (t' : Int)) ≤ 1000000 := by omega
            have hk2 := hid hkq
            rw [htn] at hA2
            clear hkq
            replace hA' := hid hA'
            replace hiff := hid hiff
            replace hfull := hid hfull
            replace htn := hid htn
            go_wp2
            go_roundg (a - (i' + 1))
            case measure => have := hk.out; omega
            case rel => exact ⟨i' + 1, q, t' + 1, rfl, rfl, by go_num, rfl, by go_num, by omega, hA2, hqm, rfl⟩
          · have htn : tN n t' = t' := by unfold tN; rw [if_neg hfull]
            have b3 : ¬ (512 : Int) ≤ (eN n Z q : Int) - 512 * (t' : Int) := by omega
            have b4 : (512 * (t' : Int)) ≤ 1000000 := by omega
            have hk2 := hid hkq
            rw [htn] at hA2
            clear hkq
            replace hA' := hid hA'
            replace hiff := hid hiff
            replace hfull := hid hfull
            replace htn := hid htn
            go_wp2
            go_roundg (a - (i' + 1))
            case measure => have := hk.out; omega
            case rel => exact ⟨i' + 1, q, t', rfl, rfl, rfl, rfl, by go_num, by omega, hA2, hqm, rfl⟩
    · have e : i' = a := by omega
      subst e
      obtain ⟨rfl, rfl⟩ := hA.uniq h0
      have g1 : ¬ (i' : Int) < (i' : Int) := by omega
      have e2 : (eN n Z j' : Int) - 512 * (t' : Int) = ((eN n Z j' - 512 * t' : Nat) : Int) := by omega
      have b4 : (512 * (t' : Int)) ≤ 1000000 := by omega
      replace e2 := hid e2
      replace hk := hid hk
      replace hml := hid hml
      replace hAi := hid hAi
      clear hM
      go_wp2
      go_ret
      exact ⟨by rw [← e2.out]; rfl, hb⟩

end Go.Proofs.Ytfcbiiakhgeogaa
