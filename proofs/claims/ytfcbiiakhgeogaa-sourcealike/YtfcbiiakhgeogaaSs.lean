/-
  SOURCES: what one is in memory, copies, Left, size, New. Conditions: how many bytes there are.
-/
import Derived.Test.YtfcbiiakhgeogaaChecked
import Derived.Test.YtfcbiiakhgeogaaSm
import Derived.Laws.Cover1
import Derived.Deep.RegionHeld3
import Derived.Deep.LoopGhost
import Derived.BigRegion
import Derived.Lib.AppendZeros
namespace Go.Proofs.Ytfcbiiakhgeogaa
open Go.ChangeShapes Go.WideShapes Go.ChangeAt Go.RowKit Go.Lib
set_option linter.unusedVariables false
set_option linter.unusedSimpArgs false
set_option maxRecDepth 20000

def Blk (w : World) (g : Nat) (cs : Array Value) (t : TypeId) : Prop := w.heap[g]? = some (.cells cs t (0, 0))
theorem Blk.lt {w : World} {g : Nat} {cs : Array Value} {t : TypeId} (h : Blk w g cs t) : g < w.heap.size := (Array.getElem?_eq_some_iff.mp h).1
theorem Blk.cell {w : World} {g : Nat} {cs : Array Value} {t : TypeId} (h : Blk w g cs t) (i : Nat) : w.cell? ⟨g, i, none⟩ = cs[i]? := Joins.cell_of_block h i
theorem Blk.free {w : World} {g : Nat} {cs : Array Value} {t : TypeId} (h : Blk w g cs t) (i : Nat) : w.frozen? ⟨g, i, none⟩ = false := Joins.unfrozen_of_block h i
theorem Blk.nr {S : Nat → Prop} {w w' : World} {g : Nat} {cs : Array Value} {t : TypeId} (h : Blk w g cs t) (hn : Nr S w w') (hS : ¬ S g) : Blk w' g cs t := by
  unfold Blk at *
  rw [hn.keep g (Array.getElem?_eq_some_iff.mp h).1 hS]; exact h
theorem Blk.below {w w' : World} {g : Nat} {cs : Array Value} {t : TypeId} (h : Blk w g cs t) (hb : Below w.heap.size w w') : Blk w' g cs t := h.nr (S := No) (Nr.of_below hb) id
theorem Blk.set {w : World} {g i : Nat} {cs : Array Value} {t : TypeId} (h : Blk w g cs t) (v : Value) : Blk (w.setCell ⟨g, i, none⟩ v) g (cs.setIfInBounds i v) t := Joins.block_setCell h v
theorem Blk.new (w : World) (cs : Array Value) (t : TypeId) : Blk (w.alloc (.cells cs t)) w.heap.size cs t := heap_alloc_last w _

def i64s (l : List Int) : List Value := l.map (Value.int .i64)
theorem i64s_len (l : List Int) : (i64s l).length = l.length := by simp [i64s]
theorem u8s_len' (l : List Int) : (u8s l).length = l.length := by simp [u8s]
theorem i64s_get (l : List Int) (j : Nat) (h : j < l.length) : (i64s l)[j]? = some (.int .i64 (l.getD j 0)) := by unfold i64s; simp [h]
theorem u8s_drop (l : List Int) (n : Nat) : u8s (l.drop n) = (u8s l).drop n := by simp [u8s]
theorem u8s_take (l : List Int) (n : Nat) : u8s (l.take n) = (u8s l).take n := by simp [u8s]
theorem i64s_drop (l : List Int) (n : Nat) : i64s (l.drop n) = (i64s l).drop n := by simp [i64s]

/-- how many bytes the script says next, and what is left of it -/
def szN (Z : List Int) : Nat := if Z = [] then 512 else (max (Z.headD 0) 1).toNat
def nxZ (Z : List Int) : List Int := if 1 < Z.length then Z.drop 1 else Z

/-- the source in block s -/
def Sn (w : World) (s : Nat) (L Z : List Int) (R : Nat → Prop) : Prop :=
  ∃ rv zv, R s ∧ Blk w s #[rv, zv] 46 ∧ Rng w rv (u8s L) (fun k => R k ∧ k ≠ s) ∧ Rng w zv (i64s Z) (fun k => R k ∧ k ≠ s)
/-- a source, or none -/
def Sc (w : World) (sv : Value) (L Z : List Int) (R : Nat → Prop) : Prop :=
  (sv = .pointer none ∧ L = []) ∨ ∃ s, sv = .pointer (some ⟨s, 0, none⟩) ∧ Sn w s L Z R

theorem Sn.nr {S R : Nat → Prop} {w w' : World} {s : Nat} {L Z : List Int} (h : Sn w s L Z R) (hn : Nr S w w') (hd : ∀ k, R k → ¬ S k) : Sn w' s L Z R := by
  obtain ⟨rv, zv, h1, h2, h3, h4⟩ := h
  exact ⟨rv, zv, h1, h2.nr hn (hd s h1), h3.nr hn (fun k hk => hd k hk.1), h4.nr hn (fun k hk => hd k hk.1)⟩
theorem Sc.nr {S R : Nat → Prop} {w w' : World} {s : Value} {L Z : List Int} (h : Sc w s L Z R) (hn : Nr S w w') (hd : ∀ k, R k → ¬ S k) : Sc w' s L Z R := by
  rcases h with h | ⟨s, e, h⟩
  · exact .inl h
  · exact .inr ⟨s, e, h.nr hn hd⟩
theorem Sn.mono {R R' : Nat → Prop} {w : World} {s : Nat} {L Z : List Int} (h : Sn w s L Z R) (hd : ∀ k, k < w.heap.size → R k → R' k) : Sn w s L Z R' := by
  obtain ⟨rv, zv, h1, h2, h3, h4⟩ := h
  exact ⟨rv, zv, hd s h2.lt h1, h2, h3.mono (fun k hl hk => ⟨hd k hl hk.1, hk.2⟩), h4.mono (fun k hl hk => ⟨hd k hl hk.1, hk.2⟩)⟩
theorem Sc.mono {R R' : Nat → Prop} {w : World} {s : Value} {L Z : List Int} (h : Sc w s L Z R) (hd : ∀ k, k < w.heap.size → R k → R' k) : Sc w s L Z R' := by
  rcases h with h | ⟨s, e, h⟩
  · exact .inl h
  · exact .inr ⟨s, e, h.mono hd⟩

theorem info_parts {P : Program} {e : TypeId} {z : Value} {a b : Nat} (h : (P.info? e).map (fun i => (i.zero, i.size, i.bytes)) = some (some z, a, b)) : ∃ i, P.info? e = some i ∧ i.zero = some z ∧ i.size = a ∧ i.bytes = b := by
  cases hi : P.info? e with
  | none => rw [hi] at h; cases h
  | some i => rw [hi] at h; simp at h; exact ⟨i, rfl, h.1, h.2.1, h.2.2⟩
theorem info_b : (Try.prog.info? 5).map (fun i => (i.zero, i.size, i.bytes)) = some (some (.int .u8 0), 1, 1) := by kernel_rfl
theorem info_i : (Try.prog.info? 3).map (fun i => (i.zero, i.size, i.bytes)) = some (some (.int .i64 0), 1, 8) := by kernel_rfl

theorem app_b {w : World} {ty : TypeId} {R R' : Nat → Prop} {v u : Value} {xs news : List Value} (h : Kp w v xs R) (hu : Rng w u news R') (h63 : xs.length + news.length ≤ 1000000000) :
    ∃ v' w', (Builtin.append_ #[22, 22] ty #[v, u]).run Try.prog w = .ok v' w' ∧ Kp w' v' (xs ++ news) (fun k => R k ∨ w.heap.size ≤ k) ∧ Nr R w w' := by
  obtain ⟨i0, hi, hz0, hz1, hz2⟩ := info_parts info_b
  exact run_append_kp Try.underlying22 hi hz0 hz1 hz2 rfl h hu (by unfold maxLen; omega) (by omega)
theorem app_i {w : World} {ty : TypeId} {R R' : Nat → Prop} {v u : Value} {xs news : List Value} (h : Kp w v xs R) (hu : Rng w u news R') (h63 : xs.length + news.length ≤ 1000000000) :
    ∃ v' w', (Builtin.append_ #[23, 23] ty #[v, u]).run Try.prog w = .ok v' w' ∧ Kp w' v' (xs ++ news) (fun k => R k ∨ w.heap.size ≤ k) ∧ Nr R w w' := by
  obtain ⟨i0, hi, hz0, hz1, hz2⟩ := info_parts info_i
  exact run_append_kp Try.underlying23 hi hz0 hz1 hz2 rfl h hu (by unfold maxLen; omega) (by omega)

/-- a literal without elements -/
theorem kp_lit (w : World) (e : TypeId) : Kp (w.alloc (.cells #[] e)) (.slice (some ⟨w.heap.size, 0, none⟩) 0 0) [] (fun k => k = w.heap.size) :=
  .inr ⟨w.heap.size, 0, 0, rfl, Nat.le_refl _, by unfold maxLen; omega, by simp, rfl, fun j v h => by simp at h, fun j h => by omega, by simp⟩

theorem clone_b {w : World} {v : Value} {xs : List Value} {R : Nat → Prop} (h : Rng w v xs R) (hl : xs.length ≤ 1000000000) :
    Calls Try.prog 20 #[v] w fun e w' => (∃ v', e = .returned v' ∧ Rng w' v' xs (fun k => w.heap.size ≤ k)) ∧ Below w.heap.size w w' := by
  have h0 := h
  obtain ⟨a, c, rfl, h1, h2, h4, h3⟩ := h
  generalize hn : xs.length = n at *
  have he := Lib.run_eql_slice_nil (P := Try.prog) w 22 5 a n c 0 0 Try.underlying22
  cases a with
  | none =>
    have hx : xs = [] := by
      rcases h3 with h3 | ⟨g, off, e, -⟩
      · exact h3
      · cases e
    subst hx
    clear h3 h0
    replace hn := hid hn
    go_enter Try.func20, Try.ntmps20
    go_wp2
    go_ret
    exact ⟨⟨_, rfl, (Kp.nil _ _).rng⟩, Below.refl _ _⟩
  | some x =>
    have hb : Below w.heap.size w (w.alloc (.cells #[] 5)) := (Below.refl _ _).alloc (Nat.le_refl _) _
    obtain ⟨v', w', hr, k1, k2⟩ := app_b (ty := 22) (kp_lit w 5) (h0.below hb) (by simp; omega)
    clear h3
    replace hn := hid hn
    go_enter Try.func20, Try.ntmps20
    go_wp2_with (at_builtin; go_loud (refine Lib.wpList_append_run _ rfl (.tmp 5) (.tmp 6) 22 22 rfl _ _ rfl rfl _ _ hr ?_))
    go_ret
    exact ⟨⟨_, rfl, by have := k1.rng.mono (R' := fun k => w.heap.size ≤ k) (fun k _ hk => by rcases hk with rfl | hk; exact Nat.le_refl _; simp at hk; omega); simpa using this⟩, hb.trans (k2.below (by simp) (fun k hk => by omega))⟩

theorem clone_i {w : World} {v : Value} {xs : List Value} {R : Nat → Prop} (h : Rng w v xs R) (hl : xs.length ≤ 1000000000) :
    Calls Try.prog 21 #[v] w fun e w' => (∃ v', e = .returned v' ∧ Rng w' v' xs (fun k => w.heap.size ≤ k)) ∧ Below w.heap.size w w' := by
  have h0 := h
  obtain ⟨a, c, rfl, h1, h2, h4, h3⟩ := h
  generalize hn : xs.length = n at *
  have he := Lib.run_eql_slice_nil (P := Try.prog) w 23 3 a n c 0 0 Try.underlying23
  cases a with
  | none =>
    have hx : xs = [] := by
      rcases h3 with h3 | ⟨g, off, e, -⟩
      · exact h3
      · cases e
    subst hx
    clear h3 h0
    replace hn := hid hn
    go_enter Try.func21, Try.ntmps21
    go_wp2
    go_ret
    exact ⟨⟨_, rfl, (Kp.nil _ _).rng⟩, Below.refl _ _⟩
  | some x =>
    have hb : Below w.heap.size w (w.alloc (.cells #[] 3)) := (Below.refl _ _).alloc (Nat.le_refl _) _
    obtain ⟨v', w', hr, k1, k2⟩ := app_i (ty := 23) (kp_lit w 3) (h0.below hb) (by simp; omega)
    clear h3
    replace hn := hid hn
    go_enter Try.func21, Try.ntmps21
    go_wp2_with (at_builtin; go_loud (refine Lib.wpList_append_run _ rfl (.tmp 5) (.tmp 6) 23 23 rfl _ _ rfl rfl _ _ hr ?_))
    go_ret
    exact ⟨⟨_, rfl, by have := k1.rng.mono (R' := fun k => w.heap.size ≤ k) (fun k _ hk => by rcases hk with rfl | hk; exact Nat.le_refl _; simp at hk; omega); simpa using this⟩, hb.trans (k2.below (by simp) (fun k hk => by omega))⟩

end Go.Proofs.Ytfcbiiakhgeogaa
