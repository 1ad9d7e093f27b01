/-
  item.Fulls: THE FULL NAMES THAT TELL A HEAD's KIND AND NAME. Conditions: how long the name may be.
-/
import Derived.Test.YtbkgbnjiibhmhaaHdc
namespace Go.Proofs.Ytbkgbnjiibhmhaa
open Go.ChangeShapes Go.WideShapes Go.ChangeAt Go.RowKit Go.Lib
set_option linter.unusedVariables false
set_option linter.unusedSimpArgs false
set_option maxRecDepth 20000

theorem two_new (w : World) (o1 o2 : Obj) : Below w.heap.size w ((w.alloc o1).alloc o2) ∧ ((w.alloc o1).alloc o2).heap[w.heap.size + 1]? = some o2 := by
  have hb := (Below.refl w.heap.size w).alloc (Nat.le_refl _) o1
  refine ⟨hb.alloc hb.size o2, ?_⟩
  have e : (w.alloc o1).heap.size = w.heap.size + 1 := by simp
  rw [← e]
  exact heap_alloc_new _ _

set_option maxHeartbeats 4000000 in
theorem fulls_ok (h : Hd) (x : Value) (hs : h.name.size ≤ 9000000000000000) (w : World) :
    Calls Try.prog 23 #[.agg (h.cs x)] w fun e w' => ∃ g n, e = .returned (.slice (some ⟨g, 0, none⟩) n n) ∧ n = (fulls h.kind h.name).length ∧ Sts w' g (fulls h.kind h.name) ∧ Below w.heap.size w w' := by
  have hc := suf_ok h.name (by omega)
  have E := str_sl h.name
  unfold Hd.cs
  unfold fulls
  by_cases h6 : h.kind = 6
  · rw [if_pos h6]
    have hk : (h.kind != 6) = false := by simp [h6]
    by_cases hq : h.name = ⟨#[47]⟩
    · rw [if_neg (by simp [hq])]
      rw [decide_eq_true hq] at E
      have hq' := hid hq
      clear hq
      go_enter Try.func23, Try.ntmps23
      go_wp2
      go_ret
      exact ⟨_, _, rfl, rfl, (two_new _ _ _).2, (two_new _ _ _).1⟩
    · rw [decide_eq_false hq] at E
      cases he : endsS h.name
      · rw [if_neg (by simp)]
        rw [he] at hc
        go_enter Try.func23, Try.ntmps23
        go_wp2_with (go_at_call 31; refine (hc _).mono ?_; rintro e w' ⟨hw, rfl⟩; obtain rfl := hw.symm)
        go_ret
        exact ⟨_, _, rfl, rfl, (two_new _ _ _).2, (two_new _ _ _).1⟩
      · rw [if_pos (by simp [hq])]
        rw [he] at hc
        go_enter Try.func23, Try.ntmps23
        go_wp2_with (go_at_call 31; refine (hc _).mono ?_; rintro e w' ⟨hw, rfl⟩; obtain rfl := hw.symm)
        go_ret
        exact ⟨_, _, rfl, rfl, (two_new _ _ _).2, (two_new _ _ _).1⟩
  · rw [if_neg h6]
    have hk : (h.kind != 6) = true := by simp [h6]
    go_enter Try.func23, Try.ntmps23
    go_wp2
    go_ret
    exact ⟨_, _, rfl, rfl, (two_new _ _ _).2, (two_new _ _ _).1⟩

end Go.Proofs.Ytbkgbnjiibhmhaa
