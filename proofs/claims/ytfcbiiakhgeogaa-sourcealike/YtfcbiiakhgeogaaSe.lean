/-
  THE DOCUMENT's OWN Ends. Conditions: how many bytes there are.
-/
import Derived.Test.YtfcbiiakhgeogaaSr
namespace Go.Proofs.Ytfcbiiakhgeogaa
open Go.ChangeShapes Go.WideShapes Go.ChangeAt Go.RowKit Go.Lib
set_option linter.unusedVariables false
set_option linter.unusedSimpArgs false
set_option maxRecDepth 20000

/-- the ends of the first m pieces -/
def endsL (n : Nat) (Z : List Int) (m : Nat) : List Int := (List.range m).map fun j => (eN n Z (j + 1) : Int)
theorem endsL_len (n : Nat) (Z : List Int) (m : Nat) : (endsL n Z m).length = m := by simp [endsL]
theorem endsL_succ (n : Nat) (Z : List Int) (m : Nat) : endsL n Z (m + 1) = endsL n Z m ++ [(eN n Z (m + 1) : Int)] := by
  unfold endsL; rw [List.range_succ, List.map_append]; rfl
theorem endsL_get (n : Nat) (Z : List Int) (m k : Nat) (h : k < m) : (i64s (endsL n Z m))[k]? = some (.int .i64 (eN n Z (k + 1))) := by
  unfold i64s endsL; simp [h]
/-- m pieces are all -/
structure EndM (n : Nat) (Z : List Int) (m : Nat) : Prop where
  lt : ∀ k, k < m → eN n Z k < n
  en : eN n Z m = n
theorem EndM.iff {n : Nat} {Z : List Int} {m : Nat} (h : EndM n Z m) (k : Nat) (hk : k ≤ m) : eN n Z k < n ↔ k < m := by
  constructor
  · intro h1
    rcases Nat.lt_or_ge k m with h2 | h2
    · exact h2
    · have : k = m := by omega
      subst this
      have := h.en; omega
  · exact h.lt k
theorem eN_ge {n : Nat} {Z : List Int} : ∀ {j : Nat}, (∀ k, k < j → eN n Z k < n) → j ≤ eN n Z j
  | 0, _ => Nat.zero_le _
  | j + 1, h => by
    have h1 := eN_ge (j := j) (fun k hk => h k (by omega))
    have h2 := eN_lt (h j (by omega))
    omega
theorem EndM.le {n : Nat} {Z : List Int} {m : Nat} (h : EndM n Z m) : m ≤ n := by have := eN_ge h.lt; rw [h.en] at this; exact this

set_option maxHeartbeats 2000000 in
theorem rends_ok {w : World} {v : Value} {Z : List Int} {R : Nat → Prop} (h : Rng w v (i64s Z) R) (n : Nat) (hn : n ≤ 1000000) :
    Calls Try.prog 10 #[.int .i64 n, v] w fun e w' => (∃ u, e = .returned u ∧ ∃ m, EndM n Z m ∧ Rng w' u (i64s (endsL n Z m)) (fun k => w.heap.size ≤ k)) ∧ Below w.heap.size w w' := by
  obtain ⟨za, zc, rfl, -⟩ := h.shape
  generalize (i64s Z).length = zn at *
  go_enter Try.func10, Try.ntmps10
  go_wp2
  go_loopg [5, 6, 7] (n - 0) (fun k o a i wr => ∃ j : Nat, k = n - eN n Z j ∧ a = .int .i64 (eN n Z j) ∧ i = .int .i64 j ∧ (∀ k, k < j → eN n Z k < n) ∧ Kp wr o (i64s (endsL n Z j)) (fun k => w.heap.size ≤ k) ∧ Below w.heap.size w wr)
  case atStart => exact ⟨0, rfl, rfl, rfl, fun k hk => by omega, Kp.nil _ _, Below.refl _ _⟩
  case round =>
    obtain ⟨j, hk, rfl, rfl, hlt, hkp, hb⟩ := hrel
    have hjn := eN_le n Z j
    have hj := eN_ge hlt
    obtain ⟨oa, oc, rfl, ho1, ho2⟩ := hkp.rng.shape
    have hol : (i64s (endsL n Z j)).length = j := by rw [i64s_len, endsL_len]
    by_cases hend : eN n Z j < n
    · have hsz := rsize_ok (h.below hb) j (by omega)
      have hnext : eN n Z (j + 1) = min n (eN n Z j + szN (zAt Z j)) := rfl
      have hlt' := eN_lt hend
      have hjn' := eN_le n Z (j + 1)
      have hpush := fun w1 (hb : Below wr.heap.size wr w1) => app_i (ty := 23) (news := [.int .i64 (eN n Z (j + 1))]) (R' := fun k => k = w1.heap.size) (w := w1.alloc (.cells #[.int .i64 (eN n Z (j + 1))] 3)) (hkp.nr (Nr.of_below (S := No) (hb.trans ((Below.refl _ _).alloc hb.size _))) (fun _ _ h => h))
        (lit_rng w1 [.int .i64 (eN n Z (j + 1))] 3 #[.int .i64 (eN n Z (j + 1))] rfl 1 rfl (by intro u hu; simp at hu; subst hu; rfl) (by omega)) (by rw [hol]; simp; omega)
      rw [hol] at hpush
      have hsucc := endsL_succ n Z j
      have e0 : (eN n Z j : Int) < (n : Int) := by omega
      obtain ⟨E', hE'⟩ : ∃ E' : Nat, E' = eN n Z (j + 1) := ⟨_, rfl⟩
      have hs1 : i64s (endsL n Z j) ++ [Value.int .i64 (E' : Int)] = i64s (endsL n Z (j + 1)) := by rw [hsucc, hE']; simp [i64s]
      rw [← hE'] at hnext hlt' hjn' hpush
      obtain ⟨v', w', hr, k1, k2⟩ := hpush wr (Below.refl _ _)
      rw [hs1] at k1
      obtain ⟨va, vc, hv, -⟩ := k1.rng.shape
      obtain ⟨vn, hvn⟩ : ∃ vn, vn = (i64s (endsL n Z (j + 1))).length := ⟨_, rfl⟩
      rw [← hvn] at hv
      subst hv
      replace hvn := hid hvn
      rw [← hs1] at k1
      have hwz := hb.size
      generalize hSg : szN (zAt Z j) = S at *
      obtain ⟨E, hEE⟩ : ∃ E, E = eN n Z j := ⟨_, rfl⟩
      rw [← hEE] at hk hjn hj hend hnext hlt' e0 ⊢
      have hend0 := hend
      replace hend := hid hend0
      rw [hEE] at hend
      rw [hol]
      replace hs1 := hid hs1
      replace hE' := hid hE'
      replace hSg := hid hSg
      replace hEE := hid hEE
      clear hpush
      by_cases hgt : n - E < S
      · have e1 : (n : Int) - (E : Int) < (S : Int) := by omega
        have e2 : E' = n := by omega
        rw [show (E' : Int) = (E : Int) + ((n : Int) - (E : Int)) by omega] at hr
        replace e2 := hid e2
        replace hnext := hid hnext
        replace hgt := hid hgt
        replace hk := hid hk
        replace hol := hid hol
        go_wp2_with (first | (go_at_call 22; refine hsz.mono ?_; clear hsz; rintro e w1 ⟨hw, rfl⟩; obtain rfl := hw.symm) | (at_builtin; go_loud (refine Lib.wpList_append_run _ rfl (.tmp 28) (.tmp 30) 23 23 rfl _ _ rfl rfl _ _ hr ?_)))
        go_roundg (n - E')
        case measure => have := hk.out; omega
        case rel => exact ⟨j + 1, by rw [hE'.out], by (rw [← hE'.out, e2.out]; congr 1; omega), by go_num, fun k hk => (by by_cases e : k = j; subst e; exact hend.out; exact hlt k (by omega)), by rw [← hs1.out]; exact k1.mono (fun k _ hk => by rcases hk with h | h; exact h; simp at h; omega), (hb.trans (((Below.refl _ _).alloc (Nat.le_refl _) _).mono hb.size)).trans (k2.below (by simp; omega) (fun k h => h))⟩
      · have e1 : ¬ (n : Int) - (E : Int) < (S : Int) := by omega
        have e2 : (E' : Int) = (E : Int) + (S : Int) := by omega
        rw [e2] at hr
        have e3 : (E : Int) + (S : Int) ≤ 1000000 := by omega
        replace e2 := hid e2
        replace hnext := hid hnext
        replace hgt := hid hgt
        replace hk := hid hk
        replace hol := hid hol
        go_wp2_with (first | (go_at_call 22; refine hsz.mono ?_; clear hsz; rintro e w1 ⟨hw, rfl⟩; obtain rfl := hw.symm) | (at_builtin; go_loud (refine Lib.wpList_append_run _ rfl (.tmp 28) (.tmp 30) 23 23 rfl _ _ rfl rfl _ _ hr ?_)))
        go_roundg (n - E')
        case measure => have := hk.out; omega
        case rel => exact ⟨j + 1, by rw [hE'.out], by rw [← hE'.out, e2.out], by go_num, fun k hk => (by by_cases e : k = j; subst e; exact hend.out; exact hlt k (by omega)), by rw [← hs1.out]; exact k1.mono (fun k _ hk => by rcases hk with h | h; exact h; simp at h; omega), (hb.trans (((Below.refl _ _).alloc (Nat.le_refl _) _).mono hb.size)).trans (k2.below (by simp; omega) (fun k h => h))⟩
    · have hE : EndM n Z j := ⟨hlt, by omega⟩
      have hr := hkp.rng
      have e0 : ¬ (eN n Z j : Int) < (n : Int) := by omega
      generalize eN n Z j = E at *
      replace hk := hid hk
      replace hol := hid hol
      go_wp2
      go_ret
      exact ⟨⟨_, rfl, j, hE, hr⟩, hb⟩

end Go.Proofs.Ytfcbiiakhgeogaa
