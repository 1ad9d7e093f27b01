/-
  WHETHER TWO ROWS OF NUMBERS ARE THE SAME; WHETHER A QUEUE HAS THE DOCUMENT's THINGS. Conditions: the length.
-/
import Derived.Test.YtekacaocijfepaaQr
import Derived.BigQuiet
namespace Go.Proofs.Ytekacaocijfepaa
open Go.ChangeShapes Go.WideShapes Go.ChangeAt Go.RowKit Go.Conc
set_option linter.unusedVariables false
set_option linter.unusedSimpArgs false
set_option maxRecDepth 20000

theorem below_drn {B : Nat} {a w : World} (h : Below B a w) (n : Nat) : Below B a (w.drewN n) := h.trans ⟨rfl, rfl, rfl, Nat.le_refl _, fun _ _ => rfl⟩

theorem vsi_get {w : World} {B n : Nat} {v : Value} {l : List Int} (h : w.ownsRow B 3 1 v n (vsi l)) (hn : n = l.length) (hi : 0 < n) : ∃ g c, v = .slice (some ⟨g, 0, none⟩) n c ∧ ∀ i, i < n → w.cell? ⟨g, i, none⟩ = some (.int .i64 (l.getD i 0)) := by
  obtain ⟨g, c, rfl, -⟩ := own_shape h (by omega)
  refine ⟨g, c, rfl, fun j hj => ?_⟩
  have := h.cellAt j (by omega)
  rw [this]
  subst hn
  simp [vsi, hj]

set_option maxHeartbeats 4000000 in
theorem same_ok (q : List Int) (hq : q.length ≤ 4096) {w : World} {B1 B2 : Nat} {v u : Value} (h1 : w.ownsRow B1 3 1 v q.length (vsi q)) (h2 : w.ownsRow B2 3 1 u q.length (vsi q)) : Calls Try.prog 25 #[v, u] w fun e w' => e = .returned (.bool true) ∧ Below w.heap.size w w' := by
  by_cases h0 : q.length = 0
  · rw [h0] at h1 h2
    obtain ⟨a, c, rfl⟩ := own_slice h1
    obtain ⟨a', c', rfl⟩ := own_slice h2
    clear h1 h2
    go_enter Try.func25, Try.ntmps25
    go_wp2
    refine wp_loop_rounds 1 ?_
    rw [rounds_succ]
    go_wp2
    go_ret
    exact ⟨rfl, Below.refl _ _⟩
  · obtain ⟨g, c, rfl, hcell⟩ := vsi_get h1 rfl (by omega)
    obtain ⟨g', c', rfl, hcell'⟩ := vsi_get h2 rfl (by omega)
    obtain ⟨n, hnq⟩ : ∃ n, n = q.length := ⟨_, rfl⟩
    rw [← hnq] at h0 hq hcell hcell' ⊢
    clear h1 h2 hnq
    go_enter Try.func25, Try.ntmps25
    go_wp2
    go_loopw [5] (fun y wr => ∃ i : Nat, y = .int .i64 i ∧ i ≤ n ∧ Below w.heap.size w wr) (fun y _ => n - (RowKit.intOf y).toNat)
    case atStart => exact ⟨0, by go_num, Nat.zero_le _, Below.refl _ _⟩
    case round =>
      obtain ⟨i, rfl, hi, hb⟩ := hrel
      by_cases hlt : i < n
      · have c1 := cell_later hb (hcell i hlt)
        have c2 := cell_later hb (hcell' i hlt)
        generalize q.getD i 0 = x at *
        have hxx : (x != x) = false := by simp
        clear hcell hcell'
        go_upto_region 6 with fail
        go_quiet (fail)
        go_wp2
        go_roundw
        case rel => exact ⟨i + 1, by go_num, by omega, below_drn hb _⟩
        case measure => simp [RowKit.intOf]; omega
      · clear hcell hcell'
        go_wp2
        go_ret
        exact ⟨rfl, hb⟩

set_option maxHeartbeats 4000000 in
theorem is_ok (L : List Int) {w : World} {B C : Nat} {q v : Value} {cap : Nat} {ch : Option Nat} (hq : Qu w B q cap ch (vsi L)) (hv : w.ownsRow C 3 1 v L.length (vsi L)) :
    Calls Try.prog 9 #[q, .agg #[v, .int .i64 cap]] w fun e w' => e = .returned (.bool true) ∧ Below w.heap.size w w' := by
  obtain ⟨a, c, rfl⟩ := own_slice hv
  have hbd := hq.len
  rw [vsi_len] at hbd
  have hlen : ∀ wx, Below w.heap.size w wx → Calls Try.prog 18 #[q] wx fun e w' => w' = wx ∧ e = .returned (.int .i64 (L.length : Int)) := fun wx hb => by
    have := len_i (hq.below hb)
    rw [vsi_len] at this
    exact this
  have hroom : ∀ wx, Below w.heap.size w wx → Calls Try.prog 19 #[q] wx fun e w' => w' = wx ∧ e = .returned (.int .i64 ((cap : Int) - (L.length : Int))) := fun wx hb => by
    have := room_i (hq.below hb)
    rw [vsi_len] at this
    exact this
  generalize L.length = n at *
  have e1 : ((n : Int) == (n : Int)) = true := by simp
  have e2 : (((cap : Int) - (n : Int)) == ((cap : Int) - (n : Int))) = true := by simp
  have hb0 : Below w.heap.size w (w.alloc (.cells #[.slice a n c, .int .i64 cap] 29)) := (Below.refl _ _).alloc (Nat.le_refl _) _
  clear hq hv
  go_enter Try.func9, Try.ntmps9
  go_upto_region 1 with fail
  go_quiet (first | (go_at_call 18; exact Calls.quiet_of_same ((hlen _ (by first | exact below_drn hb0 _ | exact hb0)).mono fun e w' h => ⟨h.2, h.1⟩)) | (go_at_call 19; exact Calls.quiet_of_same ((hroom _ (by first | exact below_drn hb0 _ | exact hb0)).mono fun e w' h => ⟨h.2, h.1⟩)))
  go_wp2
  go_ret
  exact ⟨rfl, below_drn hb0 _⟩

end Go.Proofs.Ytekacaocijfepaa
