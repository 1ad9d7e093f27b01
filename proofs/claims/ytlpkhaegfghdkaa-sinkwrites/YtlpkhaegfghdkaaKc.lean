/-
  BLOCKS, BYTES, COPIES, APPENDS, PARTS OF ROWS. Conditions: how many bytes there are.
-/
import Derived.Test.YtlpkhaegfghdkaaChecked
import Derived.Test.YtlpkhaegfghdkaaSm
import Derived.Laws.Cover1
import Derived.Deep.RegionHeld3
import Derived.Deep.LoopGhost
import Derived.BigRegion
import Derived.Lib.AppendZeros
namespace Go.Proofs.Ytlpkhaegfghdkaa
open Go.ChangeShapes Go.WideShapes Go.ChangeAt Go.RowKit Go.Lib
set_option linter.unusedVariables false
set_option linter.unusedSimpArgs false
set_option maxRecDepth 20000

def Blk (w : World) (g : Nat) (cs : Array Value) (t : TypeId) : Prop := w.heap[g]? = some (.cells cs t (0, 0))
theorem Blk.lt {w : World} {g : Nat} {cs : Array Value} {t : TypeId} (h : Blk w g cs t) : g < w.heap.size := (Array.getElem?_eq_some_iff.mp h).1
theorem Blk.cell {w : World} {g : Nat} {cs : Array Value} {t : TypeId} (h : Blk w g cs t) (i : Nat) : w.cell? ⟨g, i, none⟩ = cs[i]? := Joins.cell_of_block h i
theorem Blk.free {w : World} {g : Nat} {cs : Array Value} {t : TypeId} (h : Blk w g cs t) (i : Nat) : w.frozen? ⟨g, i, none⟩ = false := Joins.unfrozen_of_block h i
theorem Blk.nr {S : Nat → Prop} {w w' : World} {g : Nat} {cs : Array Value} {t : TypeId} (h : Blk w g cs t) (hn : Nr S w w') (hS : ¬ S g) : Blk w' g cs t := by
  unfold Blk at *
  rw [hn.keep g (Array.getElem?_eq_some_iff.mp h).1 hS]; exact h
theorem Blk.below {w w' : World} {g : Nat} {cs : Array Value} {t : TypeId} (h : Blk w g cs t) (hb : Below w.heap.size w w') : Blk w' g cs t := h.nr (S := No) (Nr.of_below hb) id
theorem Blk.set {w : World} {g i : Nat} {cs : Array Value} {t : TypeId} (h : Blk w g cs t) (v : Value) : Blk (w.setCell ⟨g, i, none⟩ v) g (cs.setIfInBounds i v) t := Joins.block_setCell h v
theorem Blk.new (w : World) (cs : Array Value) (t : TypeId) : Blk (w.alloc (.cells cs t)) w.heap.size cs t := heap_alloc_last w _

theorem u8s_len' (l : List Int) : (u8s l).length = l.length := by simp [u8s]
theorem u8s_drop (l : List Int) (n : Nat) : u8s (l.drop n) = (u8s l).drop n := by simp [u8s]
theorem u8s_take (l : List Int) (n : Nat) : u8s (l.take n) = (u8s l).take n := by simp [u8s]

theorem info_parts {P : Program} {e : TypeId} {z : Value} {a b : Nat} (h : (P.info? e).map (fun i => (i.zero, i.size, i.bytes)) = some (some z, a, b)) : ∃ i, P.info? e = some i ∧ i.zero = some z ∧ i.size = a ∧ i.bytes = b := by
  cases hi : P.info? e with
  | none => rw [hi] at h; cases h
  | some i => rw [hi] at h; simp at h; exact ⟨i, rfl, h.1, h.2.1, h.2.2⟩
theorem info_b : (Try.prog.info? 5).map (fun i => (i.zero, i.size, i.bytes)) = some (some (.int .u8 0), 1, 1) := by kernel_rfl

theorem app_b {w : World} {ty : TypeId} {R R' : Nat → Prop} {v u : Value} {xs news : List Value} (h : Kp w v xs R) (hu : Rng w u news R') (h63 : xs.length + news.length ≤ 1000000000) :
    ∃ v' w', (Builtin.append_ #[27, 27] ty #[v, u]).run Try.prog w = .ok v' w' ∧ Kp w' v' (xs ++ news) (fun k => R k ∨ w.heap.size ≤ k) ∧ Nr R w w' := by
  obtain ⟨i0, hi, hz0, hz1, hz2⟩ := info_parts info_b
  exact run_append_kp Try.underlying27 hi hz0 hz1 hz2 rfl h hu (by unfold maxLen; omega) (by omega)
/-- a literal without elements -/
theorem kp_lit (w : World) (e : TypeId) : Kp (w.alloc (.cells #[] e)) (.slice (some ⟨w.heap.size, 0, none⟩) 0 0) [] (fun k => k = w.heap.size) :=
  .inr ⟨w.heap.size, 0, 0, rfl, Nat.le_refl _, by unfold maxLen; omega, by simp, rfl, fun j v h => by simp at h, fun j h => by omega, by simp⟩

theorem clone_b {w : World} {v : Value} {xs : List Value} {R : Nat → Prop} (h : Rng w v xs R) (hl : xs.length ≤ 1000000000) :
    Calls Try.prog 19 #[v] w fun e w' => (∃ v', e = .returned v' ∧ Rng w' v' xs (fun k => w.heap.size ≤ k)) ∧ Below w.heap.size w w' := by
  have h0 := h
  obtain ⟨a, c, rfl, h1, h2, h4, h3⟩ := h
  generalize hn : xs.length = n at *
  have he := Lib.run_eql_slice_nil (P := Try.prog) w 27 5 a n c 0 0 Try.underlying27
  cases a with
  | none =>
    have hx : xs = [] := by
      rcases h3 with h3 | ⟨g, off, e, -⟩
      · exact h3
      · cases e
    subst hx
    clear h3 h0
    replace hn := hid hn
    go_enter Try.func19, Try.ntmps19
    go_wp2
    go_ret
    exact ⟨⟨_, rfl, (Kp.nil _ _).rng⟩, Below.refl _ _⟩
  | some x =>
    have hb : Below w.heap.size w (w.alloc (.cells #[] 5)) := (Below.refl _ _).alloc (Nat.le_refl _) _
    obtain ⟨v', w', hr, k1, k2⟩ := app_b (ty := 27) (kp_lit w 5) (h0.below hb) (by simp; omega)
    clear h3
    replace hn := hid hn
    go_enter Try.func19, Try.ntmps19
    go_wp2_with (at_builtin; go_loud (refine Lib.wpList_append_run _ rfl (.tmp 5) (.tmp 6) 27 27 rfl _ _ rfl rfl _ _ hr ?_))
    go_ret
    exact ⟨⟨_, rfl, by have := k1.rng.mono (R' := fun k => w.heap.size ≤ k) (fun k _ hk => by rcases hk with rfl | hk; exact Nat.le_refl _; simp at hk; omega); simpa using this⟩, hb.trans (k2.below (by simp) (fun k hk => by omega))⟩

theorem Rng.shape {w : World} {v : Value} {xs : List Value} {R : Nat → Prop} (h : Rng w v xs R) : ∃ a c, v = .slice a xs.length c ∧ xs.length ≤ c ∧ c ≤ 9223372036854775807 := by
  obtain ⟨a, c, e, h1, h2, -⟩ := h
  exact ⟨a, c, e, h1, by unfold maxLen at h2; omega⟩
theorem Rng.some {w : World} {v : Value} {xs : List Value} {R : Nat → Prop} (h : Rng w v xs R) (h0 : 0 < xs.length) : ∃ g off c, v = .slice (some ⟨g, off, none⟩) xs.length c ∧ xs.length ≤ c ∧ c ≤ 9223372036854775807 ∧ R g ∧ w.rangeAt g off xs := by
  obtain ⟨a, c, e, h1, h2, h4, h3⟩ := h
  rcases h3 with rfl | ⟨g, off, rfl, hR, hc⟩
  · simp at h0
  · exact ⟨g, off, c, e, h1, by unfold maxLen at h2; omega, hR, hc⟩
theorem Rng.drop {w : World} {g off n c k : Nat} {xs : List Value} {R : Nat → Prop} (h : Rng w (.slice (.some ⟨g, off, none⟩) n c) xs R) (hk : k ≤ xs.length) :
    Rng w (.slice (if c = k then .some ⟨g, off, none⟩ else .some ⟨g, off + k, none⟩) (n - k) (c - k)) (xs.drop k) R := by
  obtain ⟨a, c', e, h1, h2, h4, h3⟩ := h
  simp only [Value.slice.injEq] at e
  obtain ⟨rfl, rfl, rfl⟩ := e
  refine ⟨_, c - k, by rw [List.length_drop], by rw [List.length_drop]; omega, by unfold maxLen at *; omega, fun u hu => h4 u (List.mem_of_mem_drop hu), ?_⟩
  rcases h3 with rfl | ⟨g', off', e, hR, hc⟩
  · left; simp
  · simp only [Option.some.injEq, Addr.mk.injEq] at e
    obtain ⟨rfl, rfl, -⟩ := e
    by_cases hck : c = k
    · left; exact List.drop_eq_nil_of_le (by omega)
    · rw [if_neg hck]
      exact .inr ⟨g, off + k, rfl, hR, range_drop hc k⟩
theorem Rng.take {w : World} {g off n c k : Nat} {xs : List Value} {R : Nat → Prop} (h : Rng w (.slice (.some ⟨g, off, none⟩) n c) xs R) (hk : k ≤ xs.length) :
    Rng w (.slice (.some ⟨g, off, none⟩) k c) (xs.take k) R := by
  obtain ⟨a, c', e, h1, h2, h4, h3⟩ := h
  simp only [Value.slice.injEq] at e
  obtain ⟨rfl, rfl, rfl⟩ := e
  refine ⟨_, c, by rw [List.length_take, Nat.min_eq_left hk], by rw [List.length_take]; omega, h2, fun u hu => h4 u (List.mem_of_mem_take hu), ?_⟩
  rcases h3 with rfl | ⟨g', off', e, hR, hc⟩
  · left; simp
  · simp only [Option.some.injEq, Addr.mk.injEq] at e
    obtain ⟨rfl, rfl, -⟩ := e
    exact .inr ⟨g, off, rfl, hR, range_take hc k⟩

end Go.Proofs.Ytlpkhaegfghdkaa
