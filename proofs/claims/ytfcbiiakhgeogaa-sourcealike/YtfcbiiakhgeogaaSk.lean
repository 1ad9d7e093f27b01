/-
  TWO READERS BESIDE EACH OTHER; THE GREATEST PIECE: what SourceAlike's walk leans on. Conditions: none.
-/
import Derived.Test.YtfcbiiakhgeogaaSy
namespace Go.Proofs.Ytfcbiiakhgeogaa
open Go.ChangeShapes Go.WideShapes Go.ChangeAt Go.RowKit Go.Lib
set_option linter.unusedVariables false
set_option linter.unusedSimpArgs false
set_option maxRecDepth 20000

theorem Rd.lt {R : Nat → Prop} {w : World} {p : Nat} {L Z : List Int} {i t : Nat} (h : Rd w p L Z i t R) : Rd w p L Z i t (fun k => R k ∧ k < w.heap.size) := by
  obtain ⟨sv, kv, Rs, Rk, h1, h2, h3, h4, h5, h6, h7⟩ := h
  exact ⟨sv, kv, fun k => Rs k ∧ k < w.heap.size, fun k => Rk k ∧ k < w.heap.size, ⟨h1, h2.lt⟩, h2, h3.mono (fun k hk h => ⟨h, hk⟩), h4.mono (fun k hk h => ⟨h, hk⟩),
    fun k hk => ⟨⟨(h5 k hk.1).1, hk.2⟩, (h5 k hk.1).2.1, fun e => (h5 k hk.1).2.2 e.1⟩, fun k hk => ⟨⟨(h6 k hk.1).1, hk.2⟩, (h6 k hk.1).2⟩, h7⟩

theorem Rng.take' {w : World} {a : Option Addr} {n c k : Nat} {xs : List Value} {R : Nat → Prop} (h : Rng w (.slice a n c) xs R) (hk : k ≤ xs.length) : Rng w (.slice a k c) (xs.take k) R := by
  obtain ⟨a', c', e, h1, h2, h4, h3⟩ := h
  simp only [Value.slice.injEq] at e
  obtain ⟨rfl, rfl, rfl⟩ := e
  refine ⟨_, c, by rw [List.length_take, Nat.min_eq_left hk], by rw [List.length_take]; omega, h2, fun u hu => h4 u (List.mem_of_mem_take hu), ?_⟩
  rcases h3 with rfl | ⟨g', off', e, hR, hc⟩
  · left; simp
  · exact .inr ⟨g', off', e, hR, range_take hc k⟩

theorem szN_most {Z : List Int} {M : Nat} (h0 : 512 ≤ M) (h : ∀ z ∈ Z, z ≤ (M : Int)) (i : Nat) : szN (zAt Z i) ≤ M := by
  by_cases hz : Z = []
  · subst hz; simp [zAt, szN]; exact h0
  · have e := szN_at Z hz i
    have hl := List.length_pos_iff.2 hz
    have hk : min i (Z.length - 1) < Z.length := by omega
    have hm : Z.getD (min i (Z.length - 1)) 0 ∈ Z := by
      rw [List.getD_eq_getElem?_getD, List.getElem?_eq_getElem hk]; exact List.getElem_mem hk
    have := h _ hm
    omega

theorem held_next {n : Nat} {Z : List Int} {M t j j' : Nat} (hM : ∀ i, szN (zAt Z i) ≤ M) (h512 : 512 ≤ M) (hH : eN n Z j - 512 * t < M) (hst : Stop n Z t j j') (h5 : 512 * t ≤ eN n Z j) : eN n Z j' - 512 * tN n t < M := by
  have hs := hst.st
  have hle := eN_le n Z j'
  unfold tN
  by_cases e : j = j'
  · subst e
    split <;> omega
  · have hl := hst.le
    obtain ⟨h1, h2⟩ := hst.go (j' - 1) (by omega) (by omega)
    have h3 := hM (j' - 1)
    have h4 : eN n Z j' = min n (eN n Z (j' - 1) + szN (zAt Z (j' - 1))) := by
      obtain ⟨k, rfl⟩ : ∃ k, j' = k + 1 := ⟨j' - 1, by omega⟩
      rfl
    split <;> omega

theorem take_more (L : List Int) (t : Nat) : L.take (512 * t) ++ blN L t = L.take (512 * tN L.length t) := by
  unfold blN tN
  split
  · rw [show 512 * (t + 1) = 512 * t + 512 by omega, List.take_add]
  · simp

end Go.Proofs.Ytfcbiiakhgeogaa
