/-
  THE DOCUMENT's OWN Size, Block. Conditions: how many bytes there are.
-/
import Derived.Test.YtfcbiiakhgeogaaSl
namespace Go.Proofs.Ytfcbiiakhgeogaa
open Go.ChangeShapes Go.WideShapes Go.ChangeAt Go.RowKit Go.Lib
set_option linter.unusedVariables false
set_option linter.unusedSimpArgs false
set_option maxRecDepth 20000

theorem szN_at (Z : List Int) (h : Z ≠ []) (i : Nat) : ((szN (zAt Z i) : Nat) : Int) = max (Z.getD (min i (Z.length - 1)) 0) 1 := by
  have hl := List.length_pos_iff.2 h
  unfold zAt
  have hk : min i (Z.length - 1) < Z.length := by omega
  rw [List.drop_eq_getElem_cons hk, szN_one]
  simp [List.getD, List.getElem?_eq_getElem hk]

theorem rsize_ok {w : World} {v : Value} {Z : List Int} {R : Nat → Prop} (h : Rng w v (i64s Z) R) (i : Nat) (hi : i ≤ 1000000000) :
    Calls Try.prog 22 #[v, .int .i64 i] w fun e w' => w' = w ∧ e = .returned (.int .i64 (szN (zAt Z i))) := by
  by_cases h0 : Z = []
  · subst h0
    obtain ⟨a, c, rfl, -⟩ := h.shape
    have e : szN (zAt [] i) = 512 := by simp [zAt, szN]
    rw [e]
    go_enter Try.func22, Try.ntmps22
    go_wp2
    go_ret
    exact ⟨rfl, rfl⟩
  · have hl := List.length_pos_iff.2 h0
    obtain ⟨g, off, c, rfl, hc1, hc2, -, hrow⟩ := h.some (by rw [i64s_len]; exact hl)
    have hS := szN_at Z h0 i
    obtain ⟨n, hn⟩ : ∃ n, n = Z.length := ⟨_, rfl⟩
    have hcell : ∀ k, k < n → w.cell? ⟨g, off + k, none⟩ = some (.int .i64 (Z.getD k 0)) := fun k hk => hrow k _ (i64s_get Z k (by omega))
    rw [i64s_len, ← hn] at hc1 h ⊢
    rw [← hn] at hS hl
    have hlast := hcell (n - 1) (by omega)
    have n0 : ((n : Int) == 0) = false := by simp; omega
    have n1 : ¬ (n : Int) = 0 := by omega
    have n2 : (0 : Int) ≤ (n : Int) - 1 := by omega
    have n4 : ((n : Int) - 1).toNat = n - 1 := by omega
    by_cases hin : i < n
    · have hx := hcell i hin
      have hmi : min i (n - 1) = i := by omega
      rw [hmi] at hS
      have i1 : (i : Int) < (n : Int) := by omega
      generalize szN (zAt Z i) = S at *
      generalize Z.getD i 0 = x at *
      generalize Z.getD (n - 1) 0 = y at *
      replace hmi := hid hmi
      replace hn := hid hn
      clear hcell hrow
      by_cases h1 : x < 1
      · have e : (S : Int) = 1 := by omega
        rw [e]
        clear e
        replace hS := hid hS
        go_enter Try.func22, Try.ntmps22
        go_wp2
        go_ret
        exact ⟨rfl, rfl⟩
      · have e : (S : Int) = x := by omega
        rw [e]
        clear e
        replace hS := hid hS
        go_enter Try.func22, Try.ntmps22
        go_wp2
        go_ret
        exact ⟨rfl, rfl⟩
    · have hmi : min i (n - 1) = n - 1 := by omega
      rw [hmi] at hS
      have i1 : ¬ (i : Int) < (n : Int) := by omega
      generalize szN (zAt Z i) = S at *
      generalize Z.getD (n - 1) 0 = x at *
      replace hmi := hid hmi
      replace hn := hid hn
      clear hcell hrow
      by_cases h1 : x < 1
      · have e : (S : Int) = 1 := by omega
        rw [e]
        clear e
        replace hS := hid hS
        go_enter Try.func22, Try.ntmps22
        go_wp2
        go_ret
        exact ⟨rfl, rfl⟩
      · have e : (S : Int) = x := by omega
        rw [e]
        clear e
        replace hS := hid hS
        go_enter Try.func22, Try.ntmps22
        go_wp2
        go_ret
        exact ⟨rfl, rfl⟩

theorem rblock_ok {w : World} {v : Value} {L : List Int} {R : Nat → Prop} (h : Rng w v (u8s L) R) (hl : L.length ≤ 1000000) (t : Nat) (ht : 512 * t ≤ L.length) :
    Calls Try.prog 19 #[v, .int .i64 t] w fun e w' => w' = w ∧ ∃ u, e = .returned (.tuple #[u, .int .i64 (codeN L.length t)]) ∧ Rng w u (u8s (blN L t)) (fun k => True) := by
  obtain ⟨n, hn⟩ : ∃ n, n = L.length := ⟨_, rfl⟩
  have hnu : (u8s L).length = n := by rw [u8s_len', hn]
  rw [← hn] at hl ht ⊢
  by_cases h1 : 512 * t + 512 ≤ n
  · have hc : codeN n t = 0 := by unfold codeN; rw [if_pos h1]
    have hb : blN L t = (L.drop (512 * t)).take 512 := by unfold blN; rw [if_pos (by omega)]
    obtain ⟨g, off, c, rfl, hc1, hc2, -, hrow⟩ := h.some (by omega)
    rw [hnu] at h hc1 ⊢
    have hd := h.drop (k := 512 * t) (by omega)
    rw [if_neg (by omega), ← u8s_drop] at hd
    have htk := hd.take (k := 512) (by rw [u8s_len', List.length_drop]; omega)
    rw [← u8s_take, ← hb] at htk
    rw [hc]
    have b1 : ¬ (n : Int) ≤ 512 * (t : Int) := by omega
    have b2 : ¬ (n : Int) < 512 * (t : Int) + 512 := by omega
    have b3 : (512 * (t : Int) + 512) ≤ (c : Int) := by omega
    have b4 : ¬ (c : Int) = 512 * (t : Int) := by omega
    have b5 : ¬ c = 512 * t := by omega
    have b6 : (t : Int) ≤ 1000000 := by omega
    have b7 : ¬ (c : Int) < 512 * (t : Int) + 512 := by omega
    replace h1 := hid h1
    replace hn := hid hn
    replace hb := hid hb
    replace hc := hid hc
    replace ht := hid ht
    go_enter Try.func19, Try.ntmps19
    go_wp2
    go_ret2
    exact ⟨rfl, _, rfl, htk.mono (fun _ _ _ => trivial)⟩
  · have hb : blN L t = [] := by unfold blN; rw [if_neg (by omega)]
    obtain ⟨a, c, rfl, hc1, hc2⟩ := h.shape
    rw [hnu] at h hc1 ⊢
    rw [hb]
    by_cases h2 : n = 512 * t
    · have hc : codeN n t = 16 := by unfold codeN; rw [if_neg h1, if_pos h2]
      rw [hc]
      have b1 : (n : Int) ≤ 512 * (t : Int) := by omega
      have b6 : (t : Int) ≤ 1000000 := by omega
      replace h1 := hid h1
      replace h2 := hid h2
      replace hn := hid hn
      replace hb := hid hb
      replace hc := hid hc
      replace ht := hid ht
      go_enter Try.func19, Try.ntmps19
      go_wp2
      go_ret2
      exact ⟨rfl, _, rfl, (Kp.nil _ _).rng⟩
    · have hc : codeN n t = 3 := by unfold codeN; rw [if_neg h1, if_neg h2]
      rw [hc]
      have b1 : ¬ (n : Int) ≤ 512 * (t : Int) := by omega
      have b2 : (n : Int) < 512 * (t : Int) + 512 := by omega
      have b6 : (t : Int) ≤ 1000000 := by omega
      replace h1 := hid h1
      replace h2 := hid h2
      replace hn := hid hn
      replace hb := hid hb
      replace hc := hid hc
      replace ht := hid ht
      go_enter Try.func19, Try.ntmps19
      go_wp2
      go_ret2
      exact ⟨rfl, _, rfl, (Kp.nil _ _).rng⟩

end Go.Proofs.Ytfcbiiakhgeogaa
