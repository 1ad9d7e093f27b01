/-
  WHETHER THE PIECES ARE FEW. Conditions: how long each piece is.
-/
import Derived.Test.YtlpkhaegfghdkaaKr
import Derived.Deep.LoopGhost
namespace Go.Proofs.Ytlpkhaegfghdkaa
open Go.ChangeShapes Go.WideShapes Go.ChangeAt Go.RowKit Go.Lib Go.Deep
set_option linter.unusedVariables false
set_option linter.unusedSimpArgs false
set_option maxRecDepth 20000

/-- the bytes of the first i pieces -/
def cat (P : List (List Int)) (i : Nat) : List Int := (P.take i).flatten
theorem cat_zero (P : List (List Int)) : cat P 0 = [] := by simp [cat]
theorem cat_next {P : List (List Int)} {i : Nat} (h : i < P.length) : cat P (i + 1) = cat P i ++ P.getD i [] := by
  unfold cat
  rw [List.take_add_one, List.flatten_append, List.getD_eq_getElem?_getD, List.getElem?_eq_getElem h]; simp
theorem cat_all (P : List (List Int)) : cat P P.length = P.flatten := by simp [cat]
theorem cat_le (P : List (List Int)) (i : Nat) : (cat P i).length ≤ P.flatten.length := by
  have h : P.flatten = cat P i ++ (P.drop i).flatten := by unfold cat; rw [← List.flatten_append, List.take_append_drop]
  rw [h, List.length_append]; omega
theorem piece_le {P : List (List Int)} {i : Nat} (h : i < P.length) : (P.getD i []).length ≤ P.flatten.length := by
  have h1 := cat_le P (i + 1)
  rw [cat_next h, List.length_append] at h1; omega
theorem flat_le (P : List (List Int)) (m : Nat) (h : ∀ x ∈ P, x.length ≤ m) : P.flatten.length ≤ P.length * m := by
  induction P with
  | nil => simp
  | cons x r ih =>
    have h1 := h x (by simp)
    have h2 := ih (fun y hy => h y (by simp [hy]))
    rw [List.flatten_cons, List.length_append, List.length_cons, Nat.succ_mul]; omega
theorem getD_mem {P : List (List Int)} {i : Nat} (h : i < P.length) : P.getD i [] ∈ P := by
  rw [List.getD_eq_getElem?_getD, List.getElem?_eq_getElem h]; simp
theorem cat_isB {P : List (List Int)} (h : ∀ x ∈ P, IsB x) (i : Nat) : IsB (cat P i) := by
  intro x hx
  unfold cat at hx
  obtain ⟨l, hl, hxl⟩ := List.mem_flatten.1 hx
  exact h l (List.mem_of_mem_take hl) x hxl

theorem wrap_range (x : Int) : -9223372036854775808 ≤ IntKind.i64.wrap x ∧ IntKind.i64.wrap x ≤ 9223372036854775807 := by
  rw [IntKind.wrap_i64]; omega

set_option maxHeartbeats 1000000 in
theorem few_ok {w : World} {a : Option Addr} {n c : Nat} {P : List (List Int)} (h : PRow w a n c P) (hm : ∀ x ∈ P, x.length ≤ 140737488351232) :
    Calls Try.prog 7 #[.slice a n c] w fun e w' => w' = w ∧ e = .returned (.bool (decide (n ≤ 30 ∧ P.flatten.length ≤ 5000))) := by
  obtain ⟨hl, hc, hcm, hB, hrow⟩ := h
  have hat : ∀ q, q < n → ∃ g off v, a = some ⟨g, off, none⟩ ∧ w.cell? ⟨g, off + q, none⟩ = some v ∧ Rng w v (u8s (P.getD q [])) (fun _ => True) := by
    intro q hq
    obtain ⟨g, off, e, k⟩ := hrow (by omega)
    obtain ⟨v, k1, k2⟩ := k q hq
    exact ⟨g, off, v, e, k1, k2⟩
  by_cases hn : n ≤ 30
  · have hflat := flat_le P 140737488351232 hm
    rw [hl] at hflat
    have htot : P.flatten.length ≤ 4222124650536960 := by omega
    have hcat := fun q => cat_le P q
    have hnext := fun q (hq : q < n) => cat_next (P := P) (i := q) (by omega)
    have hall : cat P n = P.flatten := by rw [← hl]; exact cat_all P
    generalize hF : P.flatten.length = F at *
    rw [← hall] at hF
    have hnI : (n : Int) ≤ 30 := by omega
    clear hflat hrow hm
    replace hl := hid hl
    replace hall := hid hall
    replace hF := hid hF
    go_enter Try.func7, Try.ntmps7
    go_wp2
    go_loopg [3, 4] (n - 0) (fun k s i wr => ∃ q : Nat, k = n - q ∧ s = .int .i64 (((cat P q).length : Nat) : Int) ∧ i = .int .i64 (q : Nat) ∧ q ≤ n ∧ wr = w)
    case atStart => exact ⟨0, rfl, by rw [cat_zero]; rfl, rfl, Nat.zero_le _, rfl⟩
    case round =>
      obtain ⟨q, hk, rfl, rfl, hq, rfl⟩ := hrel
      by_cases hlt : q < n
      · obtain ⟨g, off, v, rfl, k1, k2⟩ := hat q hlt
        obtain ⟨va, vc, rfl, -⟩ := k2.shape
        have hltI : (q : Int) < (n : Int) := by omega
        have e := hnext q hlt
        have e2 : (cat P (q + 1)).length = (cat P q).length + (P.getD q []).length := by rw [e, List.length_append]
        have h1 := hcat (q + 1)
        have e3 := u8s_len' (P.getD q [])
        generalize (u8s (P.getD q [])).length = m at *
        generalize (cat P q).length = M at *
        have hbig : M + m ≤ 4222124650536960 := by omega
        replace hk := hid hk
        replace e := hid e
        replace e2 := hid e2
        replace e3 := hid e3
        clear hcat hnext h1
        go_wp2
        go_roundg (n - (q + 1))
        case measure => have := hk.out; omega
        case rel => exact ⟨q + 1, rfl, by have := e2.out; have := e3.out; rw [e2.out]; go_num, by go_num, by omega, rfl⟩
      · obtain rfl : q = n := by omega
        have hfin : (cat P q).length = F := hF.out
        rw [hfin]
        replace hk := hid hk
        replace hfin := hid hfin
        have hng : ¬ (q : Int) < (q : Int) := by omega
        by_cases h5 : F ≤ 5000
        · have h5I : (F : Int) ≤ 5000 := by omega
          have e : decide (q ≤ 30 ∧ F ≤ 5000) = true := by simp [hn, h5]
          replace e := hid e
          replace hn := hid hn
          replace h5 := hid h5
          go_wp2
          go_ret
          exact ⟨rfl, ret_bool (by have := e.out; simp at this ⊢; omega)⟩
        · have h5I : ¬ (F : Int) ≤ 5000 := by omega
          have e : decide (q ≤ 30 ∧ F ≤ 5000) = false := by simp; omega
          replace e := hid e
          replace hn := hid hn
          replace h5 := hid h5
          go_wp2
          go_ret
          exact ⟨rfl, ret_bool (by have := e.out; simp at this ⊢; omega)⟩
  · have e : decide (n ≤ 30 ∧ P.flatten.length ≤ 5000) = false := by simp; omega
    rw [e]
    have hnI : ¬ (n : Int) ≤ 30 := by omega
    clear e hrow
    replace hl := hid hl
    replace hn := hid hn
    go_enter Try.func7, Try.ntmps7
    go_wp2
    go_loopg [3, 4] (n - 0) (fun k s i wr => ∃ (q : Nat) (x : Int), k = n - q ∧ s = .int .i64 x ∧ i = .int .i64 (q : Nat) ∧ q ≤ n ∧ wr = w)
    case atStart => exact ⟨0, 0, rfl, rfl, rfl, Nat.zero_le _, rfl⟩
    case round =>
      obtain ⟨q, x, hk, rfl, rfl, hq, rfl⟩ := hrel
      by_cases hlt : q < n
      · obtain ⟨g, off, v, rfl, k1, k2⟩ := hat q hlt
        obtain ⟨va, vc, rfl, -⟩ := k2.shape
        have hltI : (q : Int) < (n : Int) := by omega
        generalize (u8s (P.getD q [])).length = m at *
        replace hk := hid hk
        go_wp2
        go_roundg (n - (q + 1))
        case measure => have := hk.out; omega
        case rel => exact ⟨q + 1, _, rfl, rfl, by go_num, by omega, rfl⟩
      · obtain rfl : q = n := by omega
        have hng : ¬ (q : Int) < (q : Int) := by omega
        replace hk := hid hk
        go_wp2
        go_ret
        exact ⟨rfl, rfl⟩

end Go.Proofs.Ytlpkhaegfghdkaa
